import PyProof.Rows.All
import VbdeabSpec
import Wide.All
import OpenK.AllK
import Wide.FinOn
import PyProof.EqAt
import PyProof.EqKinds
import PyProof.TupleCall
import KE.BitLaws
import Open.SpecLaws
import KE.OsHead
import KE.OsGo
import KE.IntBitsLaws
import KE.KLam
import KE.KSortKeyAny
import KE.KNest
import PySem.Challenge.RW_toldchance_s01_answers
import PyVbdeab
import PyFlatLaws
set_option Elab.async false
set_option linter.all false
set_option maxRecDepth 100000
set_option maxHeartbeats 2000000
section
set_option maxHeartbeats 0
open PySem PySem.W PyProof.Rows
local macro_rules | `(tactic| o_law) => `(tactic| skip)
local macro_rules | `(tactic| k_head) => `(tactic| k_headS)
local macro_rules | `(tactic| w_witness2) => `(tactic| exact ⟨[.list [.int 1, .int 0]], by decide +kernel, by decide +kernel⟩)
open_top hdTop for PySem.Challenge.rw_toldchance_s01_answers
end
section
open Vbdeab (LIMIT State Stream along bestOf build ceilDiv checked chosen classes does exchange farFrom fractions hitsFrom holdNew joined links locate lotsOf nats onDist onStream place point points ramp ranges sharesFrom shownClass shownQ shownRow shuffled spaced stateOk streamOk taken toldRows tooth total variance weighted weights weightsOk within)
section
namespace Lc
open Vbdeab (P A C M)
def Ae (f g:Nat×Nat):Nat×Nat:=(f.1*g.1%P,(g.1*f.2+g.2)%P)
def jw (f:Nat×Nat) (x:Nat):Nat:=(f.1*x+f.2)%P
def pw:Nat→Nat×Nat
 | 0=>(1,0)
 | n+1=>Ae (pw n) (A,C)
theorem Ad:0<P:=by decide
theorem BG (f:Nat×Nat) (x:Nat):jw f x<P:=Nat.mod_lt _ Ad
theorem CF (f g:Nat×Nat) (x:Nat):jw (Ae f g) x=jw g (jw f x):=by
 unfold jw Ae
 simp only
 have e1:(f.1*g.1%P*x+(g.1*f.2+g.2)%P)%P=(f.1*g.1*x+(g.1*f.2+g.2))%P:=by
  rw [Nat.add_mod,Nat.mod_mod,Nat.mul_mod,Nat.mod_mod,←Nat.mul_mod,←Nat.add_mod]
 have e2:(g.1*((f.1*x+f.2)%P)+g.2)%P=(g.1*(f.1*x+f.2)+g.2)%P:=by
  rw [Nat.add_mod,Nat.mul_mod,Nat.mod_mod,←Nat.mul_mod,←Nat.add_mod]
 rw [e1,e2]
 congr 1
 rw [Nat.mul_add,←Nat.mul_assoc,Nat.mul_comm g.1 f.1,Nat.add_assoc]
theorem Ga (f g h:Nat×Nat):Ae (Ae f g) h=Ae f (Ae g h):=by
 unfold Ae
 simp only
 refine Prod.ext ?_ ?_
 ·show f.1*g.1%P*h.1%P=f.1*(g.1*h.1%P)%P
  rw [Nat.mul_mod,Nat.mod_mod,←Nat.mul_mod,Nat.mul_mod f.1,Nat.mod_mod,←Nat.mul_mod,Nat.mul_assoc]
 ·show(h.1*((g.1*f.2+g.2)%P)+h.2)%P=(g.1*h.1%P*f.2+(h.1*g.2+h.2)%P)%P
  have e1:(h.1*((g.1*f.2+g.2)%P)+h.2)%P=(h.1*(g.1*f.2+g.2)+h.2)%P:=by
   rw [Nat.add_mod,Nat.mul_mod,Nat.mod_mod,←Nat.mul_mod,←Nat.add_mod]
  have e2:(g.1*h.1%P*f.2+(h.1*g.2+h.2)%P)%P=(g.1*h.1*f.2+(h.1*g.2+h.2))%P:=by
   rw [Nat.add_mod,Nat.mod_mod,Nat.mul_mod,Nat.mod_mod,←Nat.mul_mod,←Nat.add_mod]
  rw [e1,e2]
  congr 1
  rw [Nat.mul_add,←Nat.mul_assoc,Nat.mul_comm g.1 h.1,Nat.add_assoc]
def J3 (f:Nat×Nat):Prop:=f.1<P∧f.2<P
theorem Jk (f g:Nat×Nat):J3 (Ae f g):=⟨Nat.mod_lt _ Ad,Nat.mod_lt _ Ad⟩
theorem Fc {f:Nat×Nat} (h:J3 f):Ae f (1,0)=f:=by
 unfold Ae
 simp only [Nat.mul_one,Nat.one_mul,Nat.add_zero]
 rw [Nat.mod_eq_of_lt h.1,Nat.mod_eq_of_lt h.2]
theorem kg:∀n,J3 (pw n)
 | 0=>by unfold J3 pw;decide
 | n+1=>Jk _ _
theorem lO (m:Nat):∀n,pw (m+n)=Ae (pw m) (pw n)
 | 0=>(Fc (kg m)).symm
 | n+1=>by
  show Ae (pw (m+n)) (A,C)=Ae (pw m) (Ae (pw n) (A,C))
  rw [lO m n,Ga]
theorem ID:pw 1=(A,C):=by decide+kernel
theorem DT:∀(f n:Nat),n<2 ^ f→Vbdeab.steps f n=pw n
 | 0,n,h=>by
  have:n=0:=by simpa using h
  subst this
  rfl
 | f+1,n,h=>by
  have ih:=DT f (n /2) (by rw [Nat.pow_succ] at h;omega)
  have hd:(((pw (n /2)).1*(pw (n /2)).1%P,((pw (n /2)).1*(pw (n /2)).2+(pw (n /2)).2)%P):Nat×Nat)=pw (n /2+n /2):=by
   rw [lO]
   rfl
  unfold Vbdeab.steps
  simp only [ih]
  rw [hd]
  by_cases q:n%2=1
  ·rw [if_pos q]
   have e:n=(n /2+n /2)+1:=by omega
   conv=>rhs;rw [e]
   show _=Ae (pw (n /2+n /2)) (A,C)
   rw [←hd]
   unfold Ae
   simp only
   rw [Nat.mul_comm A]
  ·rw [if_neg q]
   congr 1
   omega
theorem yj {n:Nat} (h:n<P) (x:Nat):Vbdeab.skip n x=jw (pw n) x:=by
 unfold Vbdeab.skip
 rw [DT 64 n h]
 rfl
def sq:Nat→Nat×Nat
 | 0=>(A,C)
 | k+1=>Ae (sq k) (sq k)
theorem FJ:∀k,sq k=pw (2 ^ k)
 | 0=>ID.symm
 | k+1=>by
  show Ae (sq k) (sq k)=_
  rw [FJ k,←lO]
  congr 1
  rw [Nat.pow_succ];omega
theorem MB:pw P=(1,0):=by
 have h:sq 64=(1,0):=by decide+kernel
 rw [FJ] at h
 exact h
theorem FF:∀k,pw (P*k)=(1,0)
 | 0=>rfl
 | k+1=>by
  rw [Nat.mul_succ,lO,FF k,MB]
  decide+kernel
theorem K1 (n:Nat):pw (n%P)=pw n:=by
 have e:n=n%P+P*(n /P):=(Nat.mod_add_div n P).symm
 conv=>rhs;rw [e]
 rw [lO,FF,Fc (kg _)]
theorem HV {a b l:Nat} (h:l%2=1):Ae (pw a) (pw b)=pw (a+b)∧a+b+(l /2)*(b+b)=a+l*b:=by
 refine⟨(lO a b).symm,?_⟩
 have e:l=2*(l /2)+1:=by omega
 conv=>rhs;rw [e]
 rw [Nat.add_mul,Nat.mul_add,Nat.mul_right_comm,Nat.one_mul]
 have:2*b*(l /2)=l /2*b+l /2*b:=by rw [Nat.mul_assoc,Nat.mul_comm b,Nat.two_mul]
 omega
theorem Gu {a b l:Nat} (h:l%2=0):a+(l /2)*(b+b)=a+l*b:=by
 have e:l=2*(l /2):=by omega
 conv=>rhs;rw [e]
 rw [Nat.mul_add,Nat.mul_right_comm]
 have:2*b*(l /2)=l /2*b+l /2*b:=by rw [Nat.mul_assoc,Nat.mul_comm b,Nat.two_mul]
 omega
theorem K7:∀k,k<64→(sq k).1%2 ^ (k+1)=1%2 ^ (k+1)∧(sq k).2%2 ^ (k+1)=2 ^ k:=by decide+kernel
theorem HS {k:Nat} (hk:k<64) (x:Nat):jw (sq k) x%2 ^ (k+1)=(x+2 ^ k)%2 ^ (k+1):=by
 obtain⟨h1,h2⟩:=K7 k hk
 have hp:P=2 ^ (k+1)*2 ^ (63 - k):=by
  rw [←Nat.pow_add]
  show 2 ^ 64=_
  congr 1
  omega
 unfold jw
 rw [hp,Nat.mod_mul_right_mod,Nat.add_mod,Nat.mul_mod,h1,h2,←Nat.mul_mod,Nat.one_mul,Nat.add_mod x]
 congr 2
 exact(Nat.mod_eq_of_lt (by rw [Nat.pow_succ];have:=Nat.two_pow_pos k;omega)).symm
theorem HX {k x y:Nat} (h:x%2 ^ k=y%2 ^ k) (hn:x%2 ^ (k+1)≠y%2 ^ (k+1)):(x+2 ^ k)%2 ^ (k+1)=y%2 ^ (k+1):=by
 have hp:=Nat.two_pow_pos k
 have e1:=Nat.mod_pow_succ (b:=2) (k:=k) (x:=x)
 have e2:=Nat.mod_pow_succ (b:=2) (k:=k) (x:=y)
 have b1:x /2 ^ k%2<2:=Nat.mod_lt _ (by decide)
 have b2:y /2 ^ k%2<2:=Nat.mod_lt _ (by decide)
 have r1:x%2 ^ k<2 ^ k:=Nat.mod_lt _ hp
 have r2:(x%2 ^ (k+1))<2 ^ (k+1):=Nat.mod_lt _ (Nat.two_pow_pos _)
 have ps:2 ^ (k+1)=2 ^ k*2:=Nat.pow_succ ..
 rw [Nat.add_mod]
 rw [Nat.mod_eq_of_lt (show 2 ^ k<2 ^ (k+1) by omega)]
 rcases (show x /2 ^ k%2=0∨x /2 ^ k%2=1 by omega) with q | q<;>rcases (show y /2 ^ k%2=0∨y /2 ^ k%2=1 by omega) with q' | q'<;>rw [q] at e1<;>rw [q'] at e2
 ·exact absurd (by omega) hn
 ·rw [Nat.mod_eq_of_lt (by omega)];omega
 ·rw [Nat.mod_eq_sub_mod (by omega),Nat.mod_eq_of_lt (by omega)];omega
 ·exact absurd (by omega) hn
theorem CK:∀(f k y:Nat),farFrom f k y y=0
 | 0,_,_=>rfl
 | f+1,k,y=>by
  unfold farFrom
  rw [if_pos rfl,CK f]
theorem Ky {f k x y:Nat} (h:x%2 ^ (k+1)=y%2 ^ (k+1)):farFrom (f+1) k x y=farFrom f (k+1) x y:=by
 conv=>lhs;unfold farFrom
 rw [if_pos h]
theorem KA {f k x y:Nat} (hk:k<64) (h:x%2 ^ (k+1)≠y%2 ^ (k+1)):farFrom (f+1) k x y=2 ^ k+farFrom f (k+1) (jw (sq k) x) y:=by
 conv=>lhs;unfold farFrom
 rw [if_neg h,yj (show 2 ^ k<2 ^ 64 from Nat.pow_lt_pow_right (by decide) hk),←FJ]
theorem Fb {k x y:Nat} (h:x%2 ^ k=y%2 ^ k):x &&& 2 ^ k=y &&& 2 ^ k↔x%2 ^ (k+1)=y%2 ^ (k+1):=by
 have e1:=Nat.mod_pow_succ (b:=2) (k:=k) (x:=x)
 have e2:=Nat.mod_pow_succ (b:=2) (k:=k) (x:=y)
 have b1:∀z,z &&& 2 ^ k=2 ^ k*(z /2 ^ k%2):=fun z=>by
  apply Nat.eq_of_testBit_eq
  intro i
  rw [Nat.testBit_and,Nat.testBit_two_pow,Nat.testBit_two_pow_mul]
  by_cases hi:k=i
  ·subst hi
   simp [Nat.testBit,Nat.shiftRight_eq_div_pow]
  ·by_cases hik:k≤i
   ·have:(z /2 ^ k%2).testBit (i - k)=false:=by
     apply Nat.testBit_lt_two_pow
     have:2 ^ 1≤2 ^ (i - k):=Nat.pow_le_pow_right (by decide) (by omega)
     omega
    simp [hi,this]
   ·simp [hi,hik]
 have hp:=Nat.two_pow_pos k
 rw [b1,b1,e1,e2,h]
 constructor
 ·intro q;rw [q]
 ·intro q;exact Nat.add_left_cancel q
theorem JT {k x y:Nat} (hk:k<64) (h:x%2 ^ k=y%2 ^ k) (hn:x%2 ^ (k+1)≠y%2 ^ (k+1)):jw (sq k) x%2 ^ (k+1)=y%2 ^ (k+1):=by
 rw [HS hk,HX h hn]
theorem yE:∀(f k x y:Nat),farFrom f k x y*1+2 ^ k≤2 ^ (k+f)
 | 0,k,x,y=>by
  unfold farFrom
  rw [Nat.add_zero,Nat.zero_mul,Nat.zero_add]
  exact Nat.le_refl _
 | f+1,k,x,y=>by
  have ih:=yE f (k+1)
  have e:2 ^ (k+1)=2 ^ k+2 ^ k:=by rw [Nat.pow_succ];omega
  have e2:k+(f+1)=k+1+f:=by omega
  unfold farFrom
  rw [e2]
  split
  ·have:=ih x y
   omega
  ·have:=ih (Vbdeab.skip (2 ^ k) x) y
   omega
theorem Kz (x y:Nat):Vbdeab.far x y<P:=by
 have h:=yE 64 0 x y
 unfold Vbdeab.far
 show _<2 ^ 64
 omega
theorem Hn {x y:Nat} (hx:x<P) (hy:y<P) (h:x%2 ^ 64=y%2 ^ 64):x=y:=by
 have e1:x%2 ^ 64=x:=Nat.mod_eq_of_lt hx
 have e2:y%2 ^ 64=y:=Nat.mod_eq_of_lt hy
 rw [e1,e2] at h
 exact h
end Lc
end
section
namespace Ch
open Vbdeab (M)
theorem sum_nil:Vbdeab.sum []=0:=rfl
theorem sum_cons (a:Nat) (l:List Nat):Vbdeab.sum (a::l)=a+Vbdeab.sum l:=rfl
theorem sum_append:∀(l r:List Nat),Vbdeab.sum (l++r)=Vbdeab.sum l+Vbdeab.sum r
 | [],r=>by rw [List.nil_append,sum_nil,Nat.zero_add]
 | a::l,r=>by rw [List.cons_append,sum_cons,sum_cons,sum_append l r,Nat.add_assoc]
theorem bj {α:Type} {l:List α} {i:Nat} {x:α} (h:l[i]?=some x):l.take (i+1)=l.take i++ [x]:=by
 rw [List.take_add_one,h]
 rfl
theorem vv {α:Type} {l:List α} {i:Nat} {x:α} (h:l[i]?=some x):l.drop i=x::l.drop (i+1):=by
 obtain⟨hi,e⟩:=List.getElem?_eq_some_iff.mp h
 rw [List.drop_eq_getElem_cons hi,e]
theorem c7 {l:List Nat} {i x:Nat} (h:l[i]?=some x):Vbdeab.sum (l.take (i+1))=Vbdeab.sum (l.take i)+x:=by
 rw [bj h,sum_append]
 rfl
structure Bt (ws:List Nat) (x i:Nat):Prop where
 lt:i<ws.length
 eq:place ws x 0=i+place (ws.drop i) x (Vbdeab.sum (ws.take i))
theorem Bt.start {ws:List Nat} {x:Nat} (h:0<ws.length):Bt ws x 0:=⟨h,by simp [sum_nil]⟩
theorem Bt.stop {ws:List Nat} {x i:Nat} (s:Bt ws x i) (h:x<M*Vbdeab.sum (ws.take (i+1))):place ws x 0=i:=by
 obtain⟨lt,eq⟩:=s
 have e:ws[i]?=some ws[i]:=List.getElem?_eq_getElem lt
 rw [eq,vv e]
 unfold place
 rw [if_pos (by rw [c7 e] at h;exact h)]
 all_goals rfl
theorem Bt.next {ws:List Nat} {x i:Nat} (s:Bt ws x i) (hx:x<M*Vbdeab.sum ws) (h:M*Vbdeab.sum (ws.take (i+1))≤x):Bt ws x (i+1):=by
 obtain⟨lt,eq⟩:=s
 have e:ws[i]?=some ws[i]:=List.getElem?_eq_getElem lt
 refine⟨?_,?_⟩
 ·rcases Nat.lt_or_ge (i+1) ws.length with q | q
  ·exact q
  ·rw [List.take_of_length_le q] at h
   exact absurd hx (Nat.not_lt.mpr h)
 ·rw [eq,vv e]
  conv=>lhs;unfold place
  rw [if_neg (by rw [c7 e] at h;exact Nat.not_lt.mpr h),c7 e]
  omega
theorem Fu {ws:List Nat} {u:Nat} (hu:u<M) (hw:0<Vbdeab.sum ws):u*Vbdeab.sum ws<M*Vbdeab.sum ws:=Nat.mul_lt_mul_of_pos_right hu hw
theorem cy (s:Stream):Vbdeab.raws 0 s=(s,[]):=by rw [Vbdeab.raws]
theorem qY (n:Nat) (s:Stream):Vbdeab.raws (n+1) s=((Vbdeab.raws n (Vbdeab.raw s).1).1,(Vbdeab.raw s).2::(Vbdeab.raws n (Vbdeab.raw s).1).2):=by rw [Vbdeab.raws]
theorem eu:∀(n:Nat) (s:Stream),Vbdeab.raws (n+1) s=((Vbdeab.raw (Vbdeab.raws n s).1).1,(Vbdeab.raws n s).2++ [(Vbdeab.raw (Vbdeab.raws n s).1).2])
 | 0,s=>by rw [qY,cy,cy,List.nil_append]
 | n+1,s=>by
  rw [qY (n+1),eu n (Vbdeab.raw s).1,qY n,List.cons_append]
theorem fc:∀(n:Nat) (s:Stream),(Vbdeab.raws n s).2.length=n
 | 0,s=>by rw [cy];exact List.length_nil
 | n+1,s=>by
  rw [qY,List.length_cons,fc n]
theorem sY {s:Stream}:(Vbdeab.raw s).2<M:=by
 have h:Vbdeab.next s.state<Vbdeab.P:=Nat.mod_lt _ (by decide)
 have h2:Vbdeab.next s.state /M<M:=Nat.div_lt_of_lt_mul h
 have hM:0<M:=by decide
 unfold Vbdeab.raw Stream.number Vbdeab.out
 simp only
 generalize Vbdeab.next s.state /M=q at h2
 generalize M=m at*
 split<;>omega
theorem BA (l:List Int) (i j:Nat):(exchange l i j).length=l.length:=by
 unfold exchange
 simp
theorem fF (n:Nat):∀(us:List Nat) (i:Nat) (l:List Int),(shuffled n us i l).length=l.length
 | [],_,_=>rfl
 | u::r,i,l=>by
  unfold shuffled
  rw [fF n r,BA]
theorem sj (n u:Nat):∀(us:List Nat) (i:Nat) (l:List Int),shuffled n (us++ [u]) i l=exchange (shuffled n us i l) (i+us.length) (i+us.length+u*(n - (i+us.length)) /M)
 | [],i,l=>rfl
 | v::r,i,l=>by
  show shuffled n (r++ [u]) (i+1) _=_
  rw [sj n u r]
  have e:i+1+r.length=i+(v::r).length:=by rw [List.length_cons];omega
  rw [e]
  rfl
theorem Dj (n:Nat):(ramp n).length=n:=by
 unfold ramp
 simp
theorem Iy {n i u:Nat} (hi:i<n) (hu:u<M):i+u*(n - i) /M<n:=by
 have h:u*(n - i) /M<n - i:=Nat.div_lt_of_lt_mul (Nat.mul_lt_mul_of_pos_right hu (by omega))
 omega
end Ch
end
section
namespace Fr
open Vbdeab (Q mkQ)
theorem Jo {n:Int} {d:Nat} (h:0<d):0<Nat.gcd n.natAbs d:=Nat.gcd_pos_of_pos_right _ h
theorem uq {n:Int} {d:Nat} (h:0<d):∃g:Nat,0<g∧n=(mkQ n d).num*(g:Int)∧d=(mkQ n d).den*g∧Nat.gcd (mkQ n d).num.natAbs (mkQ n d).den=1:=by
 have hg:=Jo (n:=n) h
 refine⟨Nat.gcd n.natAbs d,hg,?_,?_,?_⟩
 ·show n=n /(Nat.gcd n.natAbs d:Nat)*_
  rw [Int.ediv_mul_cancel]
  exact Int.ofNat_dvd_left.mpr (Nat.gcd_dvd_left _ _)
 ·show d=d /Nat.gcd n.natAbs d*_
  rw [Nat.div_mul_cancel (Nat.gcd_dvd_right _ _)]
 ·show Nat.gcd (n /(Nat.gcd n.natAbs d:Nat)).natAbs (d /Nat.gcd n.natAbs d)=1
  rw [Int.natAbs_ediv_of_dvd (Int.ofNat_dvd_left.mpr (Nat.gcd_dvd_left _ _)),Int.natAbs_natCast]
  exact Nat.coprime_div_gcd_div_gcd hg
theorem pM {n:Int} {d:Nat} (h:0<d):0<(mkQ n d).den:=by
 obtain⟨g,hg,_,e,_⟩:=uq (n:=n) h
 rcases Nat.eq_zero_or_pos (mkQ n d).den with q | q
 ·rw [q,Nat.zero_mul] at e
  omega
 ·exact q
theorem Ek {a c:Int} {b d:Nat} (hb:0<b) (hd:0<d) (h1:Nat.gcd a.natAbs b=1) (h2:Nat.gcd c.natAbs d=1) (e:a*(d:Int)=c*(b:Int)):a=c∧b=d:=by
 have e1:a.natAbs*d=c.natAbs*b:=by
  have:=congrArg Int.natAbs e
  rwa [Int.natAbs_mul,Int.natAbs_mul,Int.natAbs_natCast,Int.natAbs_natCast] at this
 have d1:b∣d:=by
  have:b∣a.natAbs*d:=by rw [e1];exact Nat.dvd_mul_left b c.natAbs
  exact Nat.Coprime.dvd_of_dvd_mul_left (Nat.Coprime.symm h1) this
 have d2:d∣b:=by
  have:d∣c.natAbs*b:=by rw [←e1];exact Nat.dvd_mul_left d a.natAbs
  exact Nat.Coprime.dvd_of_dvd_mul_left (Nat.Coprime.symm h2) this
 have eb:b=d:=Nat.dvd_antisymm d1 d2
 subst eb
 exact⟨Int.eq_of_mul_eq_mul_right (by omega) e,rfl⟩
theorem AY {a c:Int} {b d:Nat} (hb:0<b) (hd:0<d) (e:a*(d:Int)=c*(b:Int)):mkQ a b=mkQ c d:=by
 obtain⟨g,hg,ea,eb,l1⟩:=uq (n:=a) hb
 obtain⟨k,hk,ec,ed,l2⟩:=uq (n:=c) hd
 have hx:(mkQ a b).num*((mkQ c d).den:Int)=(mkQ c d).num*((mkQ a b).den:Int):=by
  have e2:((mkQ a b).num*(g:Int))*(((mkQ c d).den*k:Nat):Int)=((mkQ c d).num*(k:Int))*(((mkQ a b).den*g:Nat):Int):=by rw [←ea,←ed,←ec,←eb];exact e
  rw [Int.natCast_mul,Int.natCast_mul] at e2
  have e3:((mkQ a b).num*((mkQ c d).den:Int))*((g:Int)*(k:Int))=((mkQ c d).num*((mkQ a b).den:Int))*((g:Int)*(k:Int)):=by
   have l:(mkQ a b).num*(g:Int)*(((mkQ c d).den:Int)*(k:Int))=((mkQ a b).num*((mkQ c d).den:Int))*((g:Int)*(k:Int)):=by
    simp only [Int.mul_assoc,Int.mul_left_comm,Int.mul_comm]
   have r:(mkQ c d).num*(k:Int)*(((mkQ a b).den:Int)*(g:Int))=((mkQ c d).num*((mkQ a b).den:Int))*((g:Int)*(k:Int)):=by
    simp only [Int.mul_assoc,Int.mul_left_comm,Int.mul_comm]
   rw [←l,←r]
   exact e2
  refine Int.eq_of_mul_eq_mul_right ?_ e3
  have:=Nat.mul_pos hg hk
  rw [←Int.natCast_mul]
  omega
 obtain⟨e1,e2⟩:=Ek (pM hb) (pM hd) l1 l2 hx
 have ext:∀x y:Q,x.num=y.num→x.den=y.den→x=y:=fun x y h1 h2=>by cases x;cases y;simp only at h1 h2;subst h1;subst h2;rfl
 exact ext _ _ e1 e2
structure Is (q:Q) (n:Int) (d:Nat):Prop where
 dpos:0<d
 pos:0<q.den
 low:Nat.gcd q.num.natAbs q.den=1
 val:q.num*(d:Int)=n*(q.den:Int)
theorem Is.eq {q:Q} {n:Int} {d:Nat} (h:Is q n d):q=mkQ n d:=by
 have e:mkQ q.num q.den=q:=by
  have g1:Nat.gcd q.num.natAbs q.den=1:=h.low
  unfold Vbdeab.mkQ
  rw [g1,Nat.div_one]
  simp
 rw [←e]
 exact AY h.pos h.dpos h.val
theorem Is.mk' {n:Int} {d:Nat} (h:0<d):Is (mkQ n d) n d:=by
 obtain⟨g,hg,e1,e2,l⟩:=uq (n:=n) h
 refine⟨h,pM h,l,?_⟩
 have:(mkQ n d).num*(((mkQ n d).den*g:Nat):Int)=((mkQ n d).num*(g:Int))*((mkQ n d).den:Int):=by
  rw [Int.natCast_mul]
  simp only [Int.mul_assoc,Int.mul_left_comm,Int.mul_comm]
 rw [←e1,←e2] at this
 exact this
theorem Is.conv {q:Q} {n m:Int} {d e:Nat} (h:Is q n d) (he:0<e) (x:n*(e:Int)=m*(d:Int)):Is q m e:=by
 rw [h.eq,AY h.dpos he x]
 exact Is.mk' he
theorem Is.add {a b:Q} {n m:Int} {d e:Nat} (h:Is a n d) (k:Is b m e):Is (a.add b) (n*(e:Int)+m*(d:Int)) (d*e):=by
 refine(Is.mk' (Nat.mul_pos h.pos k.pos)).conv (Nat.mul_pos h.dpos k.dpos) ?_
 have h1:=h.val
 have k1:=k.val
 rw [Int.natCast_mul,Int.natCast_mul,Int.add_mul,Int.add_mul]
 have e1:a.num*(b.den:Int)*((d:Int)*(e:Int))=n*(e:Int)*((a.den:Int)*(b.den:Int)):=by
  have:a.num*(b.den:Int)*((d:Int)*(e:Int))=(a.num*(d:Int))*((b.den:Int)*(e:Int)):=by simp only [Int.mul_assoc,Int.mul_left_comm,Int.mul_comm]
  rw [this,h1]
  simp only [Int.mul_assoc,Int.mul_left_comm,Int.mul_comm]
 have e2:b.num*(a.den:Int)*((d:Int)*(e:Int))=m*(d:Int)*((a.den:Int)*(b.den:Int)):=by
  have:b.num*(a.den:Int)*((d:Int)*(e:Int))=(b.num*(e:Int))*((a.den:Int)*(d:Int)):=by simp only [Int.mul_assoc,Int.mul_left_comm,Int.mul_comm]
  rw [this,k1]
  simp only [Int.mul_assoc,Int.mul_left_comm,Int.mul_comm]
 rw [e1,e2]
theorem Is.mul {a b:Q} {n m:Int} {d e:Nat} (h:Is a n d) (k:Is b m e):Is (a.mul b) (n*m) (d*e):=by
 refine(Is.mk' (Nat.mul_pos h.pos k.pos)).conv (Nat.mul_pos h.dpos k.dpos) ?_
 have h1:=h.val
 have k1:=k.val
 rw [Int.natCast_mul,Int.natCast_mul]
 have:a.num*b.num*((d:Int)*(e:Int))=(a.num*(d:Int))*(b.num*(e:Int)):=by simp only [Int.mul_assoc,Int.mul_left_comm,Int.mul_comm]
 rw [this,h1,k1]
 simp only [Int.mul_assoc,Int.mul_left_comm,Int.mul_comm]
theorem Is.neg {a:Q} {n:Int} {d:Nat} (h:Is a n d):Is a.neg (-n) d:=
 ⟨h.dpos,h.pos,by show Nat.gcd (-a.num).natAbs a.den=1;rw [Int.natAbs_neg];exact h.low,by show -a.num*(d:Int)= -n*(a.den:Int);rw [Int.neg_mul,Int.neg_mul,h.val]⟩
theorem HU {a b c d x y:Int} (hx:0<x) (hy:0<y) (e:a*x=c*y) (f:b*x=d*y):a≤b↔c≤d:=by
 constructor
 ·intro h
  have:c*y≤d*y:=by rw [←e,←f];exact Int.mul_le_mul_of_nonneg_right h (Int.le_of_lt hx)
  exact Int.le_of_mul_le_mul_right this hy
 ·intro h
  have:a*x≤b*x:=by rw [e,f];exact Int.mul_le_mul_of_nonneg_right h (Int.le_of_lt hy)
  exact Int.le_of_mul_le_mul_right this hx
theorem Is.le_iff {a b:Q} {n m:Int} {d e:Nat} (h:Is a n d) (k:Is b m e):a.le b=true↔n*(e:Int)≤m*(d:Int):=by
 unfold Vbdeab.Q.le
 rw [decide_eq_true_eq]
 have h1:=h.val
 have k1:=k.val
 refine HU (x:=(d:Int)*(e:Int)) (y:=(a.den:Int)*(b.den:Int)) ?_ ?_ ?_ ?_
 ·have:=Nat.mul_pos h.dpos k.dpos
  rw [←Int.natCast_mul];omega
 ·have:=Nat.mul_pos h.pos k.pos
  rw [←Int.natCast_mul];omega
 ·have:a.num*(b.den:Int)*((d:Int)*(e:Int))=(a.num*(d:Int))*((b.den:Int)*(e:Int)):=by simp only [Int.mul_assoc,Int.mul_left_comm,Int.mul_comm]
  rw [this,h1]
  simp only [Int.mul_assoc,Int.mul_left_comm,Int.mul_comm]
 ·have:b.num*(a.den:Int)*((d:Int)*(e:Int))=(b.num*(e:Int))*((a.den:Int)*(d:Int)):=by simp only [Int.mul_assoc,Int.mul_left_comm,Int.mul_comm]
  rw [this,k1]
  simp only [Int.mul_assoc,Int.mul_left_comm,Int.mul_comm]
theorem J8 (a b:Q):a.lt b= !(b.le a):=by
 unfold Vbdeab.Q.lt Vbdeab.Q.le
 by_cases h:b.num*(a.den:Int)≤a.num*(b.den:Int)
 ·rw [decide_eq_true h,decide_eq_false (by omega)];rfl
 ·rw [decide_eq_false h,decide_eq_true (by omega)];rfl
theorem Is.lt_iff {a b:Q} {n m:Int} {d e:Nat} (h:Is a n d) (k:Is b m e):a.lt b=true↔n*(e:Int)<m*(d:Int):=by
 have z:=k.le_iff h
 rw [J8]
 by_cases q:b.le a=true
 ·rw [q]
  have:=z.mp q
  simp only [Bool.not_true,Bool.false_eq_true,false_iff]
  omega
 ·have q':¬m*(d:Int)≤n*(e:Int):=fun y=>q (z.mpr y)
  simp only [q,Bool.not_eq_true',true_iff]
  simp only [Bool.not_eq_true] at q
  simp [q]
  omega
end Fr
namespace Hv
open Vbdeab (firstAt countGood)
structure AC (p:Nat→Bool) (lo hi r:Nat):Prop where
 ge:lo≤r
 le:r≤hi
 no:∀i,lo≤i→i<r→p i=false
 yes:∀i,r≤i→i<hi→p i=true
theorem AC.unique {p:Nat→Bool} {lo hi r s:Nat} (a:AC p lo hi r) (b:AC p lo hi s):r=s:=by
 rcases Nat.lt_trichotomy r s with q | q | q
 ·have h1:=a.yes r (Nat.le_refl _) (Nat.lt_of_lt_of_le q b.le)
  have h2:=b.no r a.ge q
  rw [h1] at h2;cases h2
 ·exact q
 ·have h1:=b.yes s (Nat.le_refl _) (Nat.lt_of_lt_of_le q a.le)
  have h2:=a.no s b.ge q
  rw [h1] at h2;cases h2
theorem mW {p:Nat→Bool}:∀(f lo hi:Nat),lo≤hi→hi - lo<2 ^ f→(∀i j,lo≤i→i≤j→j<hi→p i=true→p j=true)→AC p lo hi (firstAt p f lo hi)
 | 0,lo,hi,h,hf,_=>by
  have:lo=hi:=by simp at hf;omega
  subst this
  exact⟨Nat.le_refl _,Nat.le_refl _,fun i h1 h2=>by unfold firstAt at h2;omega,fun i h1 h2=>by unfold firstAt at h1;omega⟩
 | f+1,lo,hi,h,hf,mono=>by
  rw [Nat.pow_succ] at hf
  unfold firstAt
  by_cases q:lo<hi
  ·rw [if_pos q]
   by_cases pm:p ((lo+hi) /2)=true
   ·rw [if_pos pm]
    have ih:=mW f lo ((lo+hi) /2) (by omega) (by omega) fun i j a b c d=>mono i j a b (by omega) d
    refine⟨ih.ge,by have:=ih.le;omega,ih.no,fun i h1 h2=> ?_⟩
    rcases Nat.lt_or_ge i ((lo+hi) /2) with z | z
    ·exact ih.yes i h1 z
    ·exact mono _ i (by omega) z h2 pm
   ·rw [if_neg pm]
    have ih:=mW f ((lo+hi) /2+1) hi (by omega) (by omega) fun i j a b c d=>mono i j (by omega) b c d
    refine⟨by have:=ih.ge;omega,ih.le,fun i h1 h2=> ?_,ih.yes⟩
    rcases Nat.lt_or_ge ((lo+hi) /2) i with z | z
    ·exact ih.no i z h2
    ·cases e:p i with
     | false=>rfl
     | true=>exact absurd (mono i _ h1 z (by omega) e) pm
  ·rw [if_neg q]
   have:lo=hi:=by omega
   subst this
   exact⟨Nat.le_refl _,Nat.le_refl _,fun i h1 h2=>by omega,fun i h1 h2=>by omega⟩
end Hv
end
section
namespace Cb
open Vbdeab (ways choose addRows spread throws)
theorem vi:∀n,(ways n).length=n+1
 | 0=>rfl
 | n+1=>by
  unfold ways
  rw [List.length_zipWith,List.length_cons,List.length_append,vi n]
  simp
theorem choose_zero:∀n,choose n 0=1
 | 0=>rfl
 | n+1=>by
  have ih:=choose_zero n
  unfold choose at ih⊢
  unfold ways
  have hl:=vi n
  match e:ways n,hl with
  | a::r,_=>
   rw [e] at ih
   simp at ih⊢
   exact ih
theorem choose_succ (n i:Nat):choose (n+1) (i+1)=choose n i+choose n (i+1):=by
 unfold choose
 conv=>lhs;unfold ways
 simp only [List.getD_eq_getElem?_getD,List.getElem?_zipWith,List.getElem?_cons_succ]
 have hl:=vi n
 rcases Nat.lt_trichotomy (i+1) (n+1) with q | q | q
 ·rw [List.getElem?_append_left (by omega),List.getElem?_eq_getElem (show i<(ways n).length by omega),List.getElem?_eq_getElem (show i+1<(ways n).length by omega)]
  rfl
 ·rw [List.getElem?_append_right (by omega),List.getElem?_eq_getElem (show i<(ways n).length by omega),List.getElem?_eq_none (show(ways n).length≤i+1 by omega)]
  have:i+1 - (ways n).length=0:=by omega
  rw [this]
  rfl
 ·rw [List.getElem?_eq_none (show(ways n).length≤i by omega),List.getElem?_eq_none (show(ways n).length≤i+1 by omega)]
  rfl
theorem F8:∀(n i:Nat),n<i→choose n i=0:=fun n i h=>by
 unfold choose
 rw [List.getD_eq_getElem?_getD,List.getElem?_eq_none (by rw [vi];omega)]
 rfl
theorem choose_zero_succ (i:Nat):choose 0 (i+1)=0:=F8 0 (i+1) (by omega)
theorem choose_step:∀(n i:Nat),(i+1)*choose n (i+1)+i*choose n i=n*choose n i
 | 0,i=>by
  rw [choose_zero_succ]
  cases i with
  | zero=>rfl
  | succ j=>rw [choose_zero_succ];simp
 | n+1,0=>by
  have ih:=choose_step n 0
  rw [choose_zero] at ih
  rw [choose_succ,choose_zero,choose_zero]
  omega
 | n+1,i+1=>by
  have h1:=choose_step n i
  have h2:=choose_step n (i+1)
  rw [choose_succ n (i+1),choose_succ n i]
  generalize choose n i=a at*
  generalize choose n (i+1)=b at*
  generalize choose n (i+1+1)=c at*
  have e1:(i+1+1)*(b+c)+(i+1)*(a+b)=((i+1+1)*c+(i+1)*b)+((i+1)*b+i*a)+(a+b):=by
   simp only [Nat.add_mul,Nat.mul_add,Nat.one_mul]
   omega
  rw [e1,h1,h2]
  simp only [Nat.add_mul,Nat.mul_add,Nat.one_mul]
  omega
theorem E9:∀(l r:List Nat) (i:Nat),(addRows l r).getD i 0=l.getD i 0+r.getD i 0
 | [],r,i=>by
  unfold addRows
  simp
 | a::l,[],i=>by
  unfold addRows
  simp
 | a::l,b::r,0=>by
  unfold addRows
  simp
 | a::l,b::r,i+1=>by
  have ih:=E9 l r i
  unfold addRows
  simp only [List.getD_eq_getElem?_getD,List.getElem?_cons_succ] at ih⊢
  exact ih
theorem Bu:∀(l r:List Nat),(addRows l r).length=max l.length r.length
 | [],r=>by unfold addRows;simp
 | a::l,[]=>by unfold addRows;simp
 | a::l,b::r=>by
  unfold addRows
  rw [List.length_cons,Bu l r,List.length_cons,List.length_cons]
  omega
theorem xm (l:List Nat):spread l 0= []:=by rw [spread]
theorem qH (l:List Nat) (s:Nat):spread l (s+1)=addRows l (0::spread l s):=by rw [spread]
theorem spread_len {l:List Nat} (hl:0<l.length):∀s,(spread l (s+1)).length=l.length+s
 | 0=>by
  rw [qH,xm,Bu,List.length_singleton]
  omega
 | s+1=>by
  rw [qH,Bu,List.length_cons,spread_len hl s]
  omega
theorem spread_get (l:List Nat):∀(s i:Nat),(spread l s).getD i 0=((List.range s).map fun j=>if j≤i then l.getD (i - j) 0 else 0).sum
 | 0,i=>by rw [xm];rfl
 | s+1,i=>by
  rw [qH,E9,List.range_succ_eq_map,List.map_cons,List.sum_cons]
  rw [if_pos (Nat.zero_le i),Nat.sub_zero]
  congr 1
  cases i with
  | zero=>
   rw [List.map_map]
   show(0:Nat)=_
   have:∀k:List Nat,(k.map ((fun j=>if j≤0 then l.getD (0 - j) 0 else 0)∘Nat.succ)).sum=0:=fun k=>by
    induction k with
    | nil=>rfl
    | cons a r ih=>rw [List.map_cons,List.sum_cons,ih];simp
   exact(this _).symm
  | succ i=>
   have ih:=spread_get l s i
   show(spread l s).getD i 0=_
   rw [ih,List.map_map]
   congr 1
   refine List.map_congr_left fun j _=> ?_
   show(if j≤i then _ else _)=if j+1≤i+1 then _ else _
   by_cases q:j≤i
   ·rw [if_pos q,if_pos (by omega)]
    congr 1
    omega
   ·rw [if_neg q,if_neg (by omega)]
theorem throws_zero (s:Nat):throws s 0= [1]:=by rw [throws]
theorem throws_succ (s n:Nat):throws s (n+1)=spread (throws s n) s:=by rw [throws]
theorem throws_len (s:Nat):∀n,(throws (s+1) n).length=n*s+1
 | 0=>by rw [throws_zero];simp
 | n+1=>by
  rw [throws_succ,spread_len (by rw [throws_len s n];omega),throws_len s n,Nat.add_mul]
  omega
end Cb
end
section
namespace Fr
open Vbdeab (Q mkQ)
structure Iz (q:Q) (n d:Int):Prop where
 dpos:0<d
 pos:0<q.den
 low:Nat.gcd q.num.natAbs q.den=1
 val:q.num*d=n*(q.den:Int)
theorem Iz.is {q:Q} {n d:Int} (h:Iz q n d):Is q n d.toNat:=
 ⟨by have:=h.dpos;omega,h.pos,h.low,by rw [Int.toNat_of_nonneg (Int.le_of_lt h.dpos)];exact h.val⟩
theorem Is.iz {q:Q} {n:Int} {d:Nat} (h:Is q n d):Iz q n (d:Int):=⟨by have:=h.dpos;omega,h.pos,h.low,h.val⟩
theorem Is.iz' {q:Q} {n d:Int} {e:Nat} (h:Is q n e) (x:(e:Int)=d):Iz q n d:=by
 subst x
 exact h.iz
theorem Iz.eq {q:Q} {n d:Int} (h:Iz q n d):q=mkQ n d.toNat:=h.is.eq
theorem Iz.mk' {n d:Int} (h:0<d):Iz (mkQ n d.toNat) n d:=(Is.mk' (n:=n) (d:=d.toNat) (by omega)).iz' (Int.toNat_of_nonneg (Int.le_of_lt h))
theorem Iz.conv {q:Q} {n m d e:Int} (h:Iz q n d) (he:0<e) (x:n*e=m*d):Iz q m e:=by
 refine(h.is.conv (e:=e.toNat) (m:=m) (by omega) ?_).iz' (Int.toNat_of_nonneg (Int.le_of_lt he))
 rw [Int.toNat_of_nonneg (Int.le_of_lt he),Int.toNat_of_nonneg (Int.le_of_lt h.dpos)]
 exact x
theorem Iz.unique {a b:Q} {n m d e:Int} (h:Iz a n d) (k:Iz b m e) (x:n*e=m*d):a=b:=by
 rw [(h.conv k.dpos x).eq,k.eq]
theorem Iz.self {q:Q} (p:0<q.den) (l:Nat.gcd q.num.natAbs q.den=1):Iz q q.num (q.den:Int):=⟨by omega,p,l,rfl⟩
theorem Iz.add {a b:Q} {n m d e:Int} (h:Iz a n d) (k:Iz b m e):Iz (a.add b) (n*e+m*d) (d*e):=by
 have z:=h.is.add k.is
 rw [Int.toNat_of_nonneg (Int.le_of_lt h.dpos),Int.toNat_of_nonneg (Int.le_of_lt k.dpos)] at z
 exact z.iz' (by rw [Int.natCast_mul,Int.toNat_of_nonneg (Int.le_of_lt h.dpos),Int.toNat_of_nonneg (Int.le_of_lt k.dpos)])
theorem Iz.mul {a b:Q} {n m d e:Int} (h:Iz a n d) (k:Iz b m e):Iz (a.mul b) (n*m) (d*e):=by
 have z:=h.is.mul k.is
 exact z.iz' (by rw [Int.natCast_mul,Int.toNat_of_nonneg (Int.le_of_lt h.dpos),Int.toNat_of_nonneg (Int.le_of_lt k.dpos)])
theorem Iz.neg {a:Q} {n d:Int} (h:Iz a n d):Iz a.neg (-n) d:=by
 have z:=h.is.neg
 exact z.iz' (Int.toNat_of_nonneg (Int.le_of_lt h.dpos))
theorem Iz.sub {a b:Q} {n m d e:Int} (h:Iz a n d) (k:Iz b m e):Iz (a.sub b) (n*e - m*d) (d*e):=by
 have z:=h.add k.neg
 rw [Int.neg_mul,←Int.sub_eq_add_neg] at z
 exact z
theorem Iz.le_iff {a b:Q} {n m d e:Int} (h:Iz a n d) (k:Iz b m e):a.le b=true↔n*e≤m*d:=by
 have z:=h.is.le_iff k.is
 rw [Int.toNat_of_nonneg (Int.le_of_lt h.dpos),Int.toNat_of_nonneg (Int.le_of_lt k.dpos)] at z
 exact z
theorem Iz.lt_iff {a b:Q} {n m d e:Int} (h:Iz a n d) (k:Iz b m e):a.lt b=true↔n*e<m*d:=by
 have z:=h.is.lt_iff k.is
 rw [Int.toNat_of_nonneg (Int.le_of_lt h.dpos),Int.toNat_of_nonneg (Int.le_of_lt k.dpos)] at z
 exact z
theorem Iz.ofInt (z:Int):Iz (Vbdeab.ofInt z) z 1:=⟨by decide,by show 0<1;decide,by show Nat.gcd _ 1=1;exact Nat.gcd_one_right _,rfl⟩
theorem Iz.ofNat (n:Nat):Iz (Vbdeab.ofNat n) (n:Int) 1:=Iz.ofInt (n:Int)
theorem Iz.half:Iz ⟨1,2⟩ 1 2:=⟨by decide,by decide,by decide,by decide⟩
theorem Iz.third:Iz ⟨1,3⟩ 1 3:=⟨by decide,by decide,by decide,by decide⟩
theorem Iz.zero {d:Int} (h:0<d):Iz (Vbdeab.ofNat 0) 0 d:=(Iz.ofNat 0).conv h (by simp)
theorem Iz.divNat {a:Q} {n d:Int} (h:Iz a n d) {w:Nat} (hw:0<w):Iz (a.div (Vbdeab.ofNat w)) n (d*w):=by
 have e:a.div (Vbdeab.ofNat w)=mkQ a.num (a.den*w):=by
  unfold Vbdeab.Q.div
  have e1:(Vbdeab.ofNat w).num=(w:Int):=rfl
  have e2:(Vbdeab.ofNat w).den=1:=rfl
  rw [e1,e2,if_neg (by omega)]
  simp
 rw [e]
 have z:=(Is.mk' (n:=a.num) (d:=a.den*w) (Nat.mul_pos h.pos hw)).iz
 refine z.conv (Int.mul_pos h.dpos (by omega)) ?_
 have v:=h.val
 rw [Int.natCast_mul]
 grind
theorem Iz.divPos {a b:Q} {n m d e:Int} (h:Iz a n d) (k:Iz b m e) (hm:0<m):Iz (a.div b) (n*e) (d*m):=by
 have hb:0<b.num:=by
  have v:=k.val
  have p1:0<m*(b.den:Int):=Int.mul_pos hm (by have:=k.pos;omega)
  rw [←v] at p1
  exact Int.pos_of_mul_pos_left p1 k.dpos |>fun z=>z
 have e0:a.div b=mkQ (a.num*(b.den:Int)) (a.den*b.num.natAbs):=by
  unfold Vbdeab.Q.div
  rw [if_neg (by omega),Int.mul_one]
 rw [e0]
 have z:=(Is.mk' (n:=a.num*(b.den:Int)) (d:=a.den*b.num.natAbs) (Nat.mul_pos h.pos (by omega))).iz
 refine z.conv (Int.mul_pos h.dpos hm) ?_
 have v1:=h.val
 have v2:=k.val
 have e3:((b.num.natAbs:Nat):Int)=b.num:=by omega
 rw [Int.natCast_mul,e3]
 grind
open Vbdeab (Class)
def lowQ (q:Q):Prop:=0<q.den∧Nat.gcd q.num.natAbs q.den=1
theorem Iz.lowQ {q:Q} {n d:Int} (h:Iz q n d):lowQ q:=⟨h.pos,h.low⟩
theorem lowQ.iz {q:Q} (h:Fr.lowQ q):Iz q q.num (q.den:Int):= .self h.1 h.2
def pq (x y:Q):Int:=(x.den:Int)*((y.den /Nat.gcd x.den y.den:Nat):Int)
def Ak (x:Q) (b:Int):Int:=x.num*(b /(x.den:Int))
theorem l4 {x y:Q} (hx:lowQ x) (hy:lowQ y):0<pq x y:=by
 have h1:=hx.1
 have h2:0<y.den /Nat.gcd x.den y.den:=Nat.div_pos (Nat.le_of_dvd hy.1 (Nat.gcd_dvd_right _ _)) (Nat.gcd_pos_of_pos_left _ hx.1)
 unfold pq
 exact Int.mul_pos (by omega) (by omega)
theorem AN (x y:Q):(x.den:Int)∣pq x y:=⟨_,rfl⟩
theorem yy (x y:Q):(y.den:Int)∣pq x y:=by
 unfold pq
 obtain⟨k,hk⟩:=Nat.gcd_dvd_left x.den y.den
 obtain⟨j,hj⟩:=Nat.gcd_dvd_right x.den y.den
 rcases Nat.eq_zero_or_pos (Nat.gcd x.den y.den) with q | q
 ·rw [q] at hk hj
  simp at hk hj
  rw [hk,hj]
  exact⟨0,rfl⟩
 ·refine⟨(k:Int),?_⟩
  have e:y.den /Nat.gcd x.den y.den=j:=Nat.div_eq_of_eq_mul_right q hj
  rw [e]
  generalize Nat.gcd x.den y.den=g at*
  rw [hk,hj,Int.natCast_mul,Int.natCast_mul]
  grind
theorem yg {x:Q} {b:Int} (hx:lowQ x) (hb:0<b) (hd:(x.den:Int)∣b):Iz x (Ak x b) b:=by
 obtain⟨k,rfl⟩:=hd
 have hp:(0:Int)<x.den:=by have:=hx.1;omega
 refine hx.iz.conv hb ?_
 unfold Ak
 rw [Int.mul_ediv_cancel_left _ (by omega)]
 grind
def cB:Class→Int
 | .line x y=>pq x y
 | .comb x s _=>pq x s
def cO:Class→Int
 | .line x y=>Ak x (pq x y)
 | .comb x s _=>Ak x (pq x s)
def cR:Class→Int
 | .line x y=>Ak y (pq x y) - Ak x (pq x y)
 | .comb x s _=>Ak s (pq x s)
def iu:Class→Prop
 | .line x y=>lowQ x∧lowQ y
 | .comb x s n=>lowQ x∧lowQ s∧1≤n
theorem j6 {c:Class} (h:iu c):0<cB c:=by
 cases c with
 | line x y=>exact l4 h.1 h.2
 | comb x s n=>exact l4 h.1 h.2.1
theorem m8 {x y:Q} (h:iu (.line x y)):Iz x (cO (.line x y)) (cB (.line x y)):=yg h.1 (l4 h.1 h.2) (AN _ _)
theorem pK {x y:Q} (h:iu (.line x y)):Iz y (cO (.line x y)+cR (.line x y)) (cB (.line x y)):=by
 have z:=yg h.2 (l4 h.1 h.2) (yy x y)
 have e:Ak y (pq x y)=cO (.line x y)+cR (.line x y):=by unfold cO cR;simp only;omega
 rw [e] at z
 exact z
theorem yB {x s:Q} {n:Nat} (h:iu (.comb x s n)):Iz x (cO (.comb x s n)) (cB (.comb x s n)):=yg h.1 (l4 h.1 h.2.1) (AN _ _)
theorem sw {x s:Q} {n:Nat} (h:iu (.comb x s n)):Iz s (cR (.comb x s n)) (cB (.comb x s n)):=yg h.2.1 (l4 h.1 h.2.1) (yy _ _)
theorem vg {x s:Q} {n:Nat} (h:iu (.comb x s n)) (i:Nat):Iz (tooth x s i) (cO (.comb x s n)+cR (.comb x s n)*(i:Int)) (cB (.comb x s n)):=by
 have z:=(yB h).add ((sw h).mul (Iz.ofNat i))
 refine z.conv (j6 h) ?_
 grind
theorem J2:(0:Int)<(Vbdeab.M:Int):=by decide
def Hb (c:Class) (t span:Int):Int:=match c with
 | .line x y=>cO (.line x y)*span+cR (.line x y)*t
 | .comb x s n=>cO (.comb x s n)+cR (.comb x s n)*(t*n /span)
def Kq (c:Class) (span:Int):Int:=match c with
 | .line x y=>cB (.line x y)*span
 | .comb x s n=>cB (.comb x s n)
theorem pF {c:Class} (h:iu c) {w:Nat} (hw:0<w) (t:Nat):Iz (along w c t) (Hb c t ((Vbdeab.M:Int)*w)) (Kq c ((Vbdeab.M:Int)*w)):=by
 have hs:(0:Int)<(Vbdeab.M:Int)*w:=Int.mul_pos J2 (by omega)
 cases c with
 | line x y=>
  have z:=(m8 h).add (((pK h).sub (m8 h)).mul ((Is.mk' (n:=(t:Int)) (d:=Vbdeab.M*w) (Nat.mul_pos (by decide) hw)).iz))
  refine z.conv (Int.mul_pos (j6 h) hs) ?_
  rw [Int.natCast_mul]
  unfold Hb Kq
  simp only
  generalize (Vbdeab.M:Int)*(w:Int)=sp
  generalize cO (.line x y)=o
  generalize cR (.line x y)=r
  generalize cB (.line x y)=b
  grind
 | comb x s n=>
  have z:=vg h (t*n /(Vbdeab.M*w))
  rw [Int.natCast_ediv,Int.natCast_mul,Int.natCast_mul] at z
  exact z
def Ct:Class→Int
 | .line x y=>2*cO (.line x y)+cR (.line x y)
 | .comb x s n=>2*cO (.comb x s n)+cR (.comb x s n)*((n:Int) - 1)
def qu:Class→Int
 | .line x y=>6*cO (.line x y)*(cO (.line x y)+cR (.line x y))+2*cR (.line x y)*cR (.line x y)
 | .comb x s n=>6*cO (.comb x s n)*(cO (.comb x s n)+cR (.comb x s n)*((n:Int) - 1))+cR (.comb x s n)*(cR (.comb x s n)*((n:Int) - 1))*(2*(n:Int) - 1)
theorem Jw {c:Class} (h:iu c):Iz c.mean (Ct c) (2*cB c):=by
 have hb:=j6 h
 cases c with
 | line x y=>
  have z:=((m8 h).add (pK h)).mul Iz.half
  refine z.conv (by omega) ?_
  unfold Ct
  simp only
  generalize cO (.line x y)=o
  generalize cR (.line x y)=r
  generalize cB (.line x y)=b
  grind
 | comb x s n=>
  have z:=(yB h).add ((sw h).mul ((Is.mk' (n:=(n:Int) - 1) (d:=2) (by decide)).iz))
  refine z.conv (by omega) ?_
  unfold Ct
  simp only
  generalize cO (.comb x s n)=o
  generalize cR (.comb x s n)=r
  generalize cB (.comb x s n)=b
  grind
theorem GW {c:Class} (h:iu c):Iz c.square (qu c) (6*(cB c*cB c)):=by
 have hb:=j6 h
 have hb2:=Int.mul_pos hb hb
 cases c with
 | line x y=>
  have z:=(((m8 h).mul (m8 h)).add (((m8 h).mul (pK h)).add ((pK h).mul (pK h)))).mul Iz.third
  refine z.conv (by omega) ?_
  unfold qu
  simp only
  generalize cO (.line x y)=o
  generalize cR (.line x y)=r
  generalize cB (.line x y)=b
  grind
 | comb x s n=>
  have z:=((yB h).mul (yB h)).add ((((yB h).mul (sw h)).mul (Iz.ofInt ((n:Int) - 1))).add (((sw h).mul (sw h)).mul ((Is.mk' (n:=((n:Int) - 1)*(2*(n:Int) - 1)) (d:=6) (by decide)).iz)))
  refine z.conv (by omega) ?_
  unfold qu
  simp only
  generalize cO (.comb x s n)=o
  generalize cR (.comb x s n)=r
  generalize cB (.comb x s n)=b
  grind
end Fr
end
section
namespace Fr
open Vbdeab (Q mkQ Class Dist)
def L5 (f:Class→Q) (d:Dist):Q:=d.foldr (fun c a=>((Vbdeab.ofNat c.1).mul (f c.2)).add a) (Vbdeab.ofNat 0)
theorem D3 (f:Class→Q) (d:Dist):weighted f d=(L5 f d).div (Vbdeab.ofNat (total d)):=rfl
def fM (num den:Class→Int) (b:Int):Dist→Int
 | []=>0
 | c::r=>(if 0<c.1 then(c.1:Int)*num c.2*(b /den c.2) else 0)+fM num den b r
theorem jR (num den:Class→Int) (b:Int) (c:Nat×Class) (r:Dist):fM num den b (c::r)=(if 0<c.1 then(c.1:Int)*num c.2*(b /den c.2) else 0)+fM num den b r:=rfl
theorem FQ {f:Class→Q} {num den:Class→Int} {k b:Int} (hk:0<k) (hb:0<b):∀{d:Dist},(∀c∈d,iu c.2)→(∀c∈d,Iz (f c.2) (num c.2) (k*den c.2)∧0<den c.2)→(∀c∈d,0<c.1→den c.2∣b)→Iz (L5 f d) (fM num den b d) (k*b)
 | [],_,_,_=>Iz.zero (Int.mul_pos hk hb)
 | c::r,hl,hf,hd=>by
  have ih:=FQ (f:=f) (num:=num) (den:=den) hk hb (d:=r) (fun c hc=>hl c (List.mem_cons_of_mem _ hc)) (fun c hc=>hf c (List.mem_cons_of_mem _ hc)) (fun c hc=>hd c (List.mem_cons_of_mem _ hc))
  obtain⟨h1,h2⟩:=hf c List.mem_cons_self
  have z:=((Iz.ofNat c.1).mul h1).add ih
  refine z.conv (Int.mul_pos hk hb) ?_
  rw [jR]
  by_cases q:0<c.1
  ·obtain⟨j,hj⟩:=hd c List.mem_cons_self q
   rw [if_pos q]
   have e:b /den c.2=j:=by rw [hj];exact Int.mul_ediv_cancel_left _ (by omega)
   rw [e]
   clear z ih hl hf hd h1
   generalize fM num den b r=s
   generalize num c.2=nn
   generalize den c.2=dd at*
   clear e
   subst hj
   grind
  ·have q0:(c.1:Int)=0:=by omega
   rw [if_neg q,q0]
   grind
theorem qJ {f:Class→Q} {num den:Class→Int} {k b:Int} (hk:0<k) (hb:0<b) {d:Dist} (hl:∀c∈d,iu c.2) (hf:∀c∈d,Iz (f c.2) (num c.2) (k*den c.2)∧0<den c.2) (hd:∀c∈d,0<c.1→den c.2∣b) (hw:0<total d):
  Iz (weighted f d) (fM num den b d) (k*b*(total d:Nat)):=by
 rw [D3]
 exact(FQ hk hb hl hf hd).divNat hw
theorem Fv {b:Int} (hb:0<b) {d:Dist} (hl:∀c∈d,iu c.2) (hd:∀c∈d,0<c.1→cB c.2∣b) (hw:0<total d):Iz (Vbdeab.mean d) (fM Ct cB b d) (2*b*(total d:Nat)):=
 qJ (by decide) hb hl (fun c hc=>⟨Jw (hl c hc),j6 (hl c hc)⟩) hd hw
def Hu (c:Class):Int:=cB c*cB c
theorem LO {b:Int} (hb:0<b) {d:Dist} (hl:∀c∈d,iu c.2) (hd:∀c∈d,0<c.1→cB c.2∣b) (hw:0<total d):Iz (weighted Class.square d) (fM qu Hu (b*b) d) (6*(b*b)*(total d:Nat)):=
 qJ (by decide) (Int.mul_pos hb hb) hl (fun c hc=>⟨GW (hl c hc),Int.mul_pos (j6 (hl c hc)) (j6 (hl c hc))⟩) (fun c hc q=>by
  obtain⟨j,e⟩:=hd c hc q
  exact⟨j*j,by rw [e];unfold Hu;grind⟩) hw
theorem Lf {b:Int} (hb:0<b) {d:Dist} (hl:∀c∈d,iu c.2) (hd:∀c∈d,0<c.1→cB c.2∣b) (hw:0<total d):
  Iz (variance d) (2*(total d:Nat)*fM qu Hu (b*b) d - 3*fM Ct cB b d*fM Ct cB b d) (12*(total d:Nat)*(total d:Nat)*b*b):=by
 have m:=Fv hb hl hd hw
 have s:=LO hb hl hd hw
 have z:=s.sub (m.mul m)
 have hW:(0:Int)<(total d:Nat):=by omega
 refine z.conv (Int.mul_pos (Int.mul_pos (Int.mul_pos (Int.mul_pos (by decide) hW) hW) hb) hb) ?_
 generalize fM qu Hu (b*b) d=x
 generalize fM Ct cB b d=y
 generalize ((total d:Nat):Int)=W at*
 grind
structure Je (bA:Int) (fs:Int) (left bottom:Int):Prop where
 bpos:0<bottom
 fpos:0<fs
 eq:bA*bottom=left*fs
 low:Nat.gcd left.natAbs bottom.natAbs=1
theorem Je.start (bA:Int):Je bA 1 bA 1:=⟨by decide,by decide,rfl,by simp⟩
theorem CL {a b:Nat} (h:0<b):Nat.gcd (a /Nat.gcd a b) (b /Nat.gcd a b)=1:=by
 have hg:0<Nat.gcd a b:=Nat.gcd_pos_of_pos_right _ h
 rw [Nat.gcd_div (Nat.gcd_dvd_left _ _) (Nat.gcd_dvd_right _ _),Nat.div_self hg]
theorem yM {a:Int} {g:Nat} (h:(g:Int)∣a) (hg:0<g):(a /(g:Int)).natAbs=a.natAbs /g:=by
 obtain⟨k,rfl⟩:=h
 rw [Int.mul_ediv_cancel_left _ (by omega),Int.natAbs_mul,Int.natAbs_natCast,Nat.mul_div_cancel_left _ hg]
theorem c6 (a:Int) (b:Nat):((Nat.gcd a.natAbs b:Nat):Int)∣a:=Int.natAbs_dvd_natAbs.mp (by rw [Int.natAbs_natCast];exact Nat.gcd_dvd_left _ _)
theorem Je.step {bA fs left bottom f:Int} (h:Je bA fs left bottom) (hf:0<f):Je bA (fs*f) (left /((Nat.gcd left.natAbs f.toNat:Nat):Int)) (bottom*(f /((Nat.gcd left.natAbs f.toNat:Nat):Int))):=by
 obtain⟨F,rfl⟩:∃F:Nat,f=(F:Int):=⟨f.toNat,by omega⟩
 have hF:0<F:=by omega
 rw [Int.toNat_natCast]
 have hg:0<Nat.gcd left.natAbs F:=Nat.gcd_pos_of_pos_right _ hF
 have d1:=c6 left F
 have d2:((Nat.gcd left.natAbs F:Nat):Int)∣(F:Int):=Int.ofNat_dvd.mpr (Nat.gcd_dvd_right _ _)
 have hq:0<F /Nat.gcd left.natAbs F:=Nat.div_pos (Nat.le_of_dvd hF (Nat.gcd_dvd_right _ _)) hg
 have e2:(F:Int) /((Nat.gcd left.natAbs F:Nat):Int)=((F /Nat.gcd left.natAbs F:Nat):Int):=(Int.natCast_ediv _ _).symm
 refine⟨Int.mul_pos h.bpos (by rw [e2];omega),Int.mul_pos h.fpos hf,?_,?_⟩
 ·obtain⟨a,ha⟩:=d1
  obtain⟨b,hb⟩:=d2
  have h1:left /((Nat.gcd left.natAbs F:Nat):Int)=a:=by
   conv=>lhs;lhs;rw [ha]
   exact Int.mul_ediv_cancel_left _ (by omega)
  have h2:(F:Int) /((Nat.gcd left.natAbs F:Nat):Int)=b:=by
   conv=>lhs;lhs;rw [hb]
   exact Int.mul_ediv_cancel_left _ (by omega)
  rw [h1,h2]
  have e:=h.eq
  generalize ((Nat.gcd left.natAbs F:Nat):Int)=g at*
  grind
 ·have c1:Nat.gcd (left /((Nat.gcd left.natAbs F:Nat):Int)).natAbs (F /Nat.gcd left.natAbs F)=1:=by
   rw [yM d1 hg]
   exact CL hF
  have c2:Nat.gcd (left /((Nat.gcd left.natAbs F:Nat):Int)).natAbs bottom.natAbs=1:=by
   rw [yM d1 hg]
   have:left.natAbs /Nat.gcd left.natAbs F∣left.natAbs:=Nat.div_dvd_of_dvd (Nat.gcd_dvd_left _ _)
   exact Nat.Coprime.coprime_dvd_left this h.low
  rw [e2,Int.natAbs_mul,Int.natAbs_natCast]
  exact Nat.Coprime.mul_right c2 c1
theorem Je.iz {bA fs left bottom:Int} (h:Je bA fs left bottom):Iz ⟨left,bottom.toNat⟩ bA fs:=by
 have hb:=h.bpos
 refine⟨h.fpos,by show 0<bottom.toNat;omega,?_,?_⟩
 ·show Nat.gcd left.natAbs bottom.toNat=1
  have e:bottom.toNat=bottom.natAbs:=by omega
  rw [e]
  exact h.low
 ·show left*fs=bA*((bottom.toNat:Nat):Int)
  rw [Int.toNat_of_nonneg (Int.le_of_lt hb)]
  exact h.eq.symm
theorem le_antisymm {a b:Q} (ha:lowQ a) (hb:lowQ b) (h1:a.le b=true) (h2:b.le a=true):a=b:=by
 have z1:=(ha.iz.le_iff hb.iz).mp h1
 have z2:=(hb.iz.le_iff ha.iz).mp h2
 exact ha.iz.unique hb.iz (Int.le_antisymm z1 z2)
theorem le_refl (a:Q):a.le a=true:=by unfold Vbdeab.Q.le;simp
theorem CT (a b:Q):a.le b=true∨b.le a=true:=by
 unfold Vbdeab.Q.le
 simp only [decide_eq_true_eq]
 omega
theorem le_trans {a b c:Q} (ha:lowQ a) (hb:lowQ b) (hc:lowQ c) (h1:a.le b=true) (h2:b.le c=true):a.le c=true:=by
 have z1:=(ha.iz.le_iff hb.iz).mp h1
 have z2:=(hb.iz.le_iff hc.iz).mp h2
 refine(ha.iz.le_iff hc.iz).mpr ?_
 have p1:(0:Int)<a.den:=by have:=ha.1;omega
 have p2:(0:Int)<b.den:=by have:=hb.1;omega
 have p3:(0:Int)<c.den:=by have:=hc.1;omega
 have y1:a.num*(b.den:Int)*(c.den:Int)≤b.num*(a.den:Int)*(c.den:Int):=Int.mul_le_mul_of_nonneg_right z1 (Int.le_of_lt p3)
 have y2:b.num*(c.den:Int)*(a.den:Int)≤c.num*(b.den:Int)*(a.den:Int):=Int.mul_le_mul_of_nonneg_right z2 (Int.le_of_lt p1)
 refine Int.le_of_mul_le_mul_right (a:=(b.den:Int)) ?_ p2
 have e1:a.num*(c.den:Int)*(b.den:Int)=a.num*(b.den:Int)*(c.den:Int):=by grind
 have e2:c.num*(a.den:Int)*(b.den:Int)=c.num*(b.den:Int)*(a.den:Int):=by grind
 have e3:b.num*(a.den:Int)*(c.den:Int)=b.num*(c.den:Int)*(a.den:Int):=by grind
 omega
structure gT (l:List Q) (q:Q):Prop where
 mem:q∈l
 le:∀z∈l,q.le z=true
structure j2 (l:List Q) (q:Q):Prop where
 mem:q∈l
 le:∀z∈l,z.le q=true
theorem gT.unique {l:List Q} {a b:Q} (hl:∀z∈l,lowQ z) (h:gT l a) (k:gT l b):a=b:=le_antisymm (hl _ h.mem) (hl _ k.mem) (h.le _ k.mem) (k.le _ h.mem)
theorem j2.unique {l:List Q} {a b:Q} (hl:∀z∈l,lowQ z) (h:j2 l a) (k:j2 l b):a=b:=le_antisymm (hl _ h.mem) (hl _ k.mem) (k.le _ h.mem) (h.le _ k.mem)
theorem Ej (a b:Q):gT [a,b] (a.least b):=by
 unfold Vbdeab.Q.least
 by_cases h:a.le b=true
 ·rw [if_pos h]
  exact⟨by simp,fun z hz=>by rcases List.mem_cons.mp hz with rfl | hz;exact le_refl _;rw [List.mem_singleton] at hz;rw [hz];exact h⟩
 ·rw [if_neg h]
  have h':b.le a=true:=(CT a b).resolve_left h
  exact⟨by simp,fun z hz=>by rcases List.mem_cons.mp hz with rfl | hz;exact h';rw [List.mem_singleton] at hz;rw [hz];exact le_refl _⟩
theorem Ia (a b:Q):j2 [a,b] (a.most b):=by
 unfold Vbdeab.Q.most
 by_cases h:a.le b=true
 ·rw [if_pos h]
  exact⟨by simp,fun z hz=>by rcases List.mem_cons.mp hz with rfl | hz;exact h;rw [List.mem_singleton] at hz;rw [hz];exact le_refl _⟩
 ·rw [if_neg h]
  have h':b.le a=true:=(CT a b).resolve_left h
  exact⟨by simp,fun z hz=>by rcases List.mem_cons.mp hz with rfl | hz;exact le_refl _;rw [List.mem_singleton] at hz;rw [hz];exact h'⟩
theorem BH {l r:List Q} {a b:Q} (hl:∀z∈l++r,lowQ z) (h:gT l a) (k:gT r b):gT (l++r) (a.least b):=by
 have la:=hl a (List.mem_append_left _ h.mem)
 have lb:=hl b (List.mem_append_right _ k.mem)
 have z:=Ej a b
 have lm:lowQ (a.least b):=by
  rcases List.mem_cons.mp z.mem with e | e
  ·rw [e];exact la
  ·rw [List.mem_singleton] at e;rw [e];exact lb
 refine⟨?_,fun y hy=> ?_⟩
 ·rcases List.mem_cons.mp z.mem with e | e
  ·rw [e];exact List.mem_append_left _ h.mem
  ·rw [List.mem_singleton] at e;rw [e];exact List.mem_append_right _ k.mem
 ·rcases List.mem_append.mp hy with q | q
  ·exact le_trans lm la (hl y hy) (z.le a (by simp)) (h.le y q)
  ·exact le_trans lm lb (hl y hy) (z.le b (by simp)) (k.le y q)
theorem CZ {l r:List Q} {a b:Q} (hl:∀z∈l++r,lowQ z) (h:j2 l a) (k:j2 r b):j2 (l++r) (a.most b):=by
 have la:=hl a (List.mem_append_left _ h.mem)
 have lb:=hl b (List.mem_append_right _ k.mem)
 have z:=Ia a b
 have lm:lowQ (a.most b):=by
  rcases List.mem_cons.mp z.mem with e | e
  ·rw [e];exact la
  ·rw [List.mem_singleton] at e;rw [e];exact lb
 refine⟨?_,fun y hy=> ?_⟩
 ·rcases List.mem_cons.mp z.mem with e | e
  ·rw [e];exact List.mem_append_left _ h.mem
  ·rw [List.mem_singleton] at e;rw [e];exact List.mem_append_right _ k.mem
 ·rcases List.mem_append.mp hy with q | q
  ·exact le_trans (hl y hy) la lm (h.le y q) (z.le a (by simp))
  ·exact le_trans (hl y hy) lb lm (k.le y q) (z.le b (by simp))
def xt:Class→Q
 | .line _ y=>y
 | .comb x s n=>tooth x s (n - 1)
def oP:Class→Q
 | .line x _=>x
 | .comb x _ _=>x
def gt (d:Dist):List Q:=d.flatMap fun c=> [oP c.2,xt c.2]
theorem wP (c:Class):c.least=(oP c).least (xt c):=by cases c<;>rfl
theorem yw (c:Class):c.most=(oP c).most (xt c):=by cases c<;>rfl
theorem Jn {c:Class} (h:iu c):lowQ (xt c):=by
 cases c with
 | line x y=>exact h.2
 | comb x s n=>exact(vg h (n - 1)).lowQ
theorem Id {c:Class} (h:iu c):lowQ (oP c):=by
 cases c with
 | line x y=>exact h.1
 | comb x s n=>exact h.1
theorem yD {d:Dist} (h:∀c∈d,iu c.2):∀z∈gt d,lowQ z:=fun z hz=>by
 obtain⟨c,hc,e⟩:=List.mem_flatMap.mp hz
 rcases List.mem_cons.mp e with e | e
 ·rw [e];exact Id (h c hc)
 ·rw [List.mem_singleton] at e
  rw [e];exact Jn (h c hc)
theorem yu:∀{d:Dist},d≠ []→(∀c∈d,iu c.2)→gT (gt d) (bestOf Q.least (d.map fun c=>c.2.least))
 | [],h,_=>absurd rfl h
 | [c],_,h=>by
  show gT ([oP c.2,xt c.2]++ []) c.2.least
  rw [List.append_nil,wP]
  exact Ej _ _
 | c::e::r,_,h=>by
  have ih:=yu (d:=e::r) (by simp) fun c hc=>h c (List.mem_cons_of_mem _ hc)
  show gT ([oP c.2,xt c.2]++gt (e::r)) (c.2.least.least _)
  refine BH (yD (d:=c::e::r) h) ?_ ih
  rw [wP]
  exact Ej _ _
theorem AF:∀{d:Dist},d≠ []→(∀c∈d,iu c.2)→j2 (gt d) (bestOf Q.most (d.map fun c=>c.2.most))
 | [],h,_=>absurd rfl h
 | [c],_,h=>by
  show j2 ([oP c.2,xt c.2]++ []) c.2.most
  rw [List.append_nil,yw]
  exact Ia _ _
 | c::e::r,_,h=>by
  have ih:=AF (d:=e::r) (by simp) fun c hc=>h c (List.mem_cons_of_mem _ hc)
  show j2 ([oP c.2,xt c.2]++gt (e::r)) (c.2.most.most _)
  refine CZ (yD (d:=c::e::r) h) ?_ ih
  rw [yw]
  exact Ia _ _
end Fr
end
section
namespace Hv
open Vbdeab (firstAt countGood)
theorem dM {good:Nat→Bool} {lo hi r:Nat} (hf:hi - lo<2 ^ 64) (F:AC (fun i=> !good i) lo hi r):countGood good true lo hi=r - lo:=by
 unfold countGood
 rw [if_pos rfl]
 have z:=mW (p:=fun i=> !good i) 64 lo hi (Nat.le_trans F.ge F.le) hf fun i j h1 h2 h3 h4=>by
  rcases Nat.lt_or_ge i r with q | q
  ·have:=F.no i h1 q
   rw [this] at h4;cases h4
  ·exact F.yes j (by omega) h3
 rw [z.unique F]
theorem gW {good:Nat→Bool} {lo hi r:Nat} (hf:hi - lo<2 ^ 64) (F:AC good lo hi r):countGood good false lo hi=hi - r:=by
 unfold countGood
 rw [if_neg (by decide)]
 have z:=mW (p:=good) 64 lo hi (Nat.le_trans F.ge F.le) hf fun i j h1 h2 h3 h4=>by
  rcases Nat.lt_or_ge i r with q | q
  ·have:=F.no i h1 q
   rw [this] at h4;cases h4
  ·exact F.yes j (by omega) h3
 rw [z.unique F]
def Kn (g:Nat→Bool) (rising:Bool) (lo hi:Nat):Prop:=∀i j,lo≤i→i≤j→j<hi→if rising=true then(g j=true→g i=true) else(g i=true→g j=true)
theorem count_same {g:Nat→Bool} {rising:Bool} {lo hi:Nat} (hm:Kn g rising lo hi) (hlt:lo<hi) (hf:hi - lo<2 ^ 64) (e:g lo=g (hi - 1)):countGood g rising lo hi=if g lo=true then hi - lo else 0:=by
 cases rising with
 | true=>
  cases h:g lo with
  | true=>
   rw [if_pos rfl,dM hf (r:=hi) ⟨by omega,Nat.le_refl _,fun i h1 h2=> ?_,fun i h1 h2=>by omega⟩]
   have z:=hm i (hi - 1) h1 (by omega) (by omega)
   rw [if_pos rfl] at z
   show(!g i)=false
   rw [z (by rw [←e];exact h)]
   rfl
  | false=>
   rw [if_neg (by decide),dM hf (r:=lo) ⟨by omega,by omega,fun i h1 h2=>by omega,fun i h1 h2=> ?_⟩,Nat.sub_self]
   have z:=hm lo i (by omega) h1 h2
   rw [if_pos rfl] at z
   show(!g i)=true
   cases q:g i with
   | true=>rw [z q] at h;cases h
   | false=>rfl
 | false=>
  cases h:g lo with
  | true=>
   rw [if_pos rfl,gW hf (r:=lo) ⟨by omega,by omega,fun i h1 h2=>by omega,fun i h1 h2=> ?_⟩]
   have z:=hm lo i (by omega) h1 h2
   rw [if_neg (by decide)] at z
   exact z h
  | false=>
   rw [if_neg (by decide),gW hf (r:=hi) ⟨by omega,Nat.le_refl _,fun i h1 h2=> ?_,fun i h1 h2=>by omega⟩,Nat.sub_self]
   have z:=hm i (hi - 1) h1 (by omega) (by omega)
   rw [if_neg (by decide)] at z
   cases q:g i with
   | true=>rw [←e,h] at z;exact absurd (z q) (by decide)
   | false=>rfl
theorem count_turn {g:Nat→Bool} {rising:Bool} {lo hi m:Nat} (hm:Kn g rising lo hi) (h1:lo≤m) (h2:m+1<hi) (hf:hi - lo<2 ^ 64) (e1:g m=g lo) (e2:g (m+1)= !g lo):countGood g rising lo hi=if g lo=true then m+1 - lo else hi - (m+1):=by
 cases rising with
 | true=>
  cases h:g lo with
  | true=>
   rw [h] at e1 e2
   rw [if_pos rfl,dM hf (r:=m+1) ⟨by omega,by omega,fun i a b=> ?_,fun i a b=> ?_⟩]
   ·have z:=hm i m a (by omega) (by omega)
    rw [if_pos rfl] at z
    show(!g i)=false
    rw [z e1]
    rfl
   ·have z:=hm (m+1) i (by omega) a b
    rw [if_pos rfl] at z
    show(!g i)=true
    cases q:g i with
    | true=>rw [z q] at e2;cases e2
    | false=>rfl
  | false=>
   rw [h] at e1 e2
   have z:=hm m (m+1) h1 (by omega) h2
   rw [if_pos rfl] at z
   rw [z e2] at e1
   cases e1
 | false=>
  cases h:g lo with
  | true=>
   rw [h] at e1 e2
   have z:=hm m (m+1) h1 (by omega) h2
   rw [if_neg (by decide)] at z
   rw [z e1] at e2
   cases e2
  | false=>
   rw [h] at e1 e2
   rw [if_neg (by decide),gW hf (r:=m+1) ⟨by omega,by omega,fun i a b=> ?_,fun i a b=> ?_⟩]
   ·have z:=hm i m a (by omega) (by omega)
    rw [if_neg (by decide)] at z
    cases q:g i with
    | true=>rw [z q] at e1;cases e1
    | false=>rfl
   ·have z:=hm (m+1) i (by omega) a b
    rw [if_neg (by decide)] at z
    exact z e2
end Hv
namespace Fr
open Vbdeab (Q mkQ Class Dist)
open Hv
def kX (b:Bool):Int:=if b=true then 1 else 0
theorem Bn {strict:Bool} {a v:Q} {n d p q:Int} (ha:Iz a n d) (hv:Iz v p q):Vbdeab.under strict a v=true↔n*q+kX strict≤p*d:=by
 unfold Vbdeab.under kX
 cases strict with
 | true=>
  rw [if_pos rfl,if_pos rfl,ha.lt_iff hv]
  omega
 | false=>
  rw [if_neg (by decide),if_neg (by decide),ha.le_iff hv]
  omega
theorem zW {strict:Bool} {a b v:Q} (ha:lowQ a) (hb:lowQ b) (hv:lowQ v) (h:a.le b=true) (k:Vbdeab.under strict b v=true):Vbdeab.under strict a v=true:=by
 unfold Vbdeab.under at k⊢
 cases strict with
 | true=>
  rw [if_pos rfl] at k⊢
  rw [J8] at k⊢
  cases q:v.le a with
  | false=>rfl
  | true=>
   rw [le_trans hv ha hb q h] at k
   cases k
 | false=>
  rw [if_neg (by decide)] at k⊢
  exact le_trans ha hb hv h k
theorem DF {q:Q} {n d:Int} (h:Iz q n d):0≤q.num↔0≤n:=by
 have v:=h.val
 have p1:(0:Int)<q.den:=by have:=h.pos;omega
 constructor
 ·intro z
  have:0≤n*(q.den:Int):=by rw [←v];exact Int.mul_nonneg z (Int.le_of_lt h.dpos)
  exact Int.nonneg_of_mul_nonneg_left this p1
 ·intro z
  have:0≤q.num*d:=by rw [v];exact Int.mul_nonneg z (Int.le_of_lt p1)
  exact Int.nonneg_of_mul_nonneg_left this h.dpos
def eI (a m:Int):Int:=if a<0 then 0 else if m<a then m else a
def mo (r room step n:Int):Int:=if r=0 then(if 0≤room then n else 0) else if 0<r then room /step+1 else n+room /step
theorem DZ {x s:Q} {n:Nat} (h:iu (.comb x s n)) (hn:n<2 ^ 64) {v:Q} {p q:Int} (hv:Iz v p q) (strict:Bool):
  ((Vbdeab.countGood (fun i=>Vbdeab.under strict (tooth x s i) v) (decide (0≤s.num)) 0 n:Nat):Int)=
    eI (mo (cR (.comb x s n)) (p*cB (.comb x s n) - cO (.comb x s n)*q - kX strict) ((if cR (.comb x s n)<0 then - cR (.comb x s n) else cR (.comb x s n))*q) n) n:=by
 have sg:=DF (sw h)
 have good:∀i:Nat,Vbdeab.under strict (tooth x s i) v=true↔cR (.comb x s n)*q*i≤p*cB (.comb x s n) - cO (.comb x s n)*q - kX strict:=fun i=>by
  rw [Bn (vg h i) hv]
  have:(cO (.comb x s n)+cR (.comb x s n)*i)*q=cO (.comb x s n)*q+cR (.comb x s n)*q*i:=by grind
  omega
 generalize cR (.comb x s n)=r at*
 generalize hroom:p*cB (.comb x s n) - cO (.comb x s n)*q - kX strict=room at*
 have hq:=hv.dpos
 have dec:decide (0≤s.num)=decide (0≤r):=by
  by_cases z:0≤r
  ·rw [decide_eq_true z,decide_eq_true (sg.mpr z)]
  ·rw [decide_eq_false z,decide_eq_false fun y=>z (sg.mp y)]
 rw [dec]
 have notg:∀i:Nat,¬(r*q*i≤room)→(Vbdeab.under strict (tooth x s i) v)=false:=fun i z=>by
  cases e:Vbdeab.under strict (tooth x s i) v with
  | false=>rfl
  | true=>exact absurd ((good i).mp e) z
 rcases Int.lt_trichotomy r 0 with hr | hr | hr
 ·
  rw [decide_eq_false (by omega)]
  have hst:0< -r*q:=Int.mul_pos (by omega) hq
  have hf:(if r<0 then -r else r)= -r:=if_pos hr
  rw [hf]
  have hre:mo r room (-r*q) n=n+room /(-r*q):=by unfold mo;rw [if_neg (by omega),if_neg (by omega)]
  rw [hre]
  unfold eI
  generalize hs: -r*q=step at*
  have good':∀i:Nat,r*q*i= -(step*i):=fun i=>by rw [←hs];grind
  have hd:=Int.ediv_mul_le room (show step≠0 by omega)
  have hd2:=Int.lt_ediv_add_one_mul_self room hst
  generalize hD:room /step=D at*
  have crit:∀i:Nat,r*q*i≤room↔-D≤i:=fun i=>by
   rw [good' i]
   constructor
   ·intro z
    refine Int.not_lt.mp fun y=> ?_
    have y1:(i:Int)+1≤-D:=by omega
    have:step*((i:Int)+1)≤step*(-D):=Int.mul_le_mul_of_nonneg_left y1 (Int.le_of_lt hst)
    have e1:step*((i:Int)+1)=step*i+step:=by grind
    have e2:step*(-D)= -(D*step):=by grind
    have e3:(D+1)*step=D*step+step:=by grind
    omega
   ·intro z
    have:step*(-D)≤step*i:=Int.mul_le_mul_of_nonneg_left z (Int.le_of_lt hst)
    have e2:step*(-D)= -(D*step):=by grind
    omega
  let k:Nat:=if (-D)<0 then 0 else if (n:Int)< -D then n else(-D).toNat
  have hk:k≤n:=by show(if (-D)<0 then 0 else if (n:Int)< -D then n else(-D).toNat)≤n;split;omega;split<;>omega
  rw [gW (r:=k) (by omega) ⟨by omega,hk,fun i _ h2=>notg i fun z=> ?_,fun i h1 h2=>(good i).mpr ((crit i).mpr ?_)⟩]
  ·show((n - (if (-D)<0 then 0 else if (n:Int)< -D then n else(-D).toNat):Nat):Int)=_
   repeat' split
   all_goals omega
  ·have z':=(crit i).mp z
   have h2':i<(if (-D)<0 then 0 else if (n:Int)< -D then n else(-D).toNat):=h2
   revert h2'
   repeat' split
   all_goals omega
  ·have h1':(if (-D)<0 then 0 else if (n:Int)< -D then n else(-D).toNat)≤i:=h1
   revert h1'
   repeat' split
   all_goals omega
 ·
  subst hr
  rw [decide_eq_true (by omega)]
  have hre:∀st,mo 0 room st n=if 0≤room then(n:Int) else 0:=fun st=>by unfold mo;rw [if_pos rfl]
  rw [hre]
  unfold eI
  by_cases z:0≤room
  ·rw [if_pos z,dM (r:=n) (by omega) ⟨by omega,Nat.le_refl _,fun i _ _=> ?_,fun i h1 h2=>by omega⟩]
   ·repeat' split
    all_goals omega
   ·show(!Vbdeab.under _ _ _)=false
    rw [(good i).mpr (by simp;exact z)]
    rfl
  ·rw [if_neg z,dM (r:=0) (by omega) ⟨by omega,by omega,fun i _ _=>by omega,fun i h1 h2=> ?_⟩]
   ·repeat' split
    all_goals omega
   ·show(!Vbdeab.under _ _ _)=true
    rw [notg i (by simp;omega)]
    rfl
 ·rw [decide_eq_true (by omega)]
  have hst:0<r*q:=Int.mul_pos hr hq
  have hf:(if r<0 then -r else r)=r:=if_neg (by omega)
  rw [hf]
  have hre:mo r room (r*q) n=room /(r*q)+1:=by unfold mo;rw [if_neg (by omega),if_pos hr]
  rw [hre]
  unfold eI
  generalize r*q=step at*
  have hd:=Int.ediv_mul_le room (show step≠0 by omega)
  have hd2:=Int.lt_ediv_add_one_mul_self room hst
  generalize hD:room /step=D at*
  have crit:∀i:Nat,step*i≤room↔(i:Int)≤D:=fun i=>by
   constructor
   ·intro z
    refine Int.not_lt.mp fun y=> ?_
    have y1:D+1≤(i:Int):=by omega
    have:step*(D+1)≤step*i:=Int.mul_le_mul_of_nonneg_left y1 (Int.le_of_lt hst)
    have e1:step*(D+1)=(D+1)*step:=by grind
    omega
   ·intro z
    have:step*i≤step*D:=Int.mul_le_mul_of_nonneg_left z (Int.le_of_lt hst)
    have e2:step*D=D*step:=by grind
    omega
  let k:Nat:=if D+1<0 then 0 else if (n:Int)<D+1 then n else(D+1).toNat
  have hk:k≤n:=by show(if D+1<0 then 0 else if (n:Int)<D+1 then n else(D+1).toNat)≤n;split;omega;split<;>omega
  rw [dM (r:=k) (by omega) ⟨by omega,hk,fun i _ h2=> ?_,fun i h1 h2=> ?_⟩]
  ·show((((if D+1<0 then 0 else if (n:Int)<D+1 then n else(D+1).toNat) - 0:Nat)):Int)=_
   repeat' split
   all_goals omega
  ·have h2':i<(if D+1<0 then 0 else if (n:Int)<D+1 then n else(D+1).toNat):=h2
   show(!Vbdeab.under _ _ _)=false
   rw [(good i).mpr ((crit i).mpr ?_)]
   ·rfl
   ·revert h2'
    repeat' split
    all_goals omega
  ·have h1':(if D+1<0 then 0 else if (n:Int)<D+1 then n else(D+1).toNat)≤i:=h1
   show(!Vbdeab.under _ _ _)=true
   rw [notg i fun z=> ?_]
   ·rfl
   ·have z':=(crit i).mp z
    revert h1'
    repeat' split
    all_goals omega
end Fr
end
section
namespace Fr
open Vbdeab (Q mkQ Class Dist)
open Hv
def sv (r:Int):Int:=if r<0 then -r else r
theorem Cz {r:Int} (h:r≠0):0<sv r:=by unfold sv;split<;>omega
def HZ (a b:Int):Int:=if b<a then b else a
def uD (c:Class) (p q st:Int):Int:=match c with
 | .line x y=>if cR (.line x y)=0 then(if st≤p*cB (.line x y) - cO (.line x y)*q then 1 else 0) else
   eI (p*cB (.line x y) - HZ (cO (.line x y)) (cO (.line x y)+cR (.line x y))*q) (sv (cR (.line x y))*q)
 | .comb x s n=>eI (mo (cR (.comb x s n)) (p*cB (.comb x s n) - cO (.comb x s n)*q - st) (sv (cR (.comb x s n))*q) n) n
def rQ (c:Class) (q:Int):Int:=match c with
 | .line x y=>if cR (.line x y)=0 then 1 else sv (cR (.line x y))*q
 | .comb _ _ n=>(n:Int)
theorem CU {x y:Q} (h:iu (.line x y)):x=y↔cR (.line x y)=0:=by
 have hx:=m8 h
 have hy:=pK h
 constructor
 ·intro e
  rw [←e] at hy
  have v1:=hx.val
  have v2:=hy.val
  have p:(0:Int)<x.den:=by have:=h.1.1;omega
  have e3:(cO (.line x y)+cR (.line x y))*(x.den:Int)=cO (.line x y)*(x.den:Int):=by
   rw [e] at v1 v2⊢
   omega
  have e4:cR (.line x y)*(x.den:Int)=0:=by
   have:(cO (.line x y)+cR (.line x y))*(x.den:Int)=cO (.line x y)*(x.den:Int)+cR (.line x y)*(x.den:Int):=Int.add_mul _ _ _
   omega
  rcases Int.mul_eq_zero.mp e4 with q | q
  ·exact q
  ·omega
 ·intro e
  rw [e,Int.add_zero] at hy
  exact hx.unique hy rfl
theorem HW {x y:Q} {a b d:Int} (hx:Iz x a d) (hy:Iz y b d):Iz (x.least y) (if a≤b then a else b) d:=by
 have z:=hx.le_iff hy
 have hd:=hx.dpos
 unfold Vbdeab.Q.least
 by_cases q:a≤b
 ·have q2:a*d≤b*d:=Int.mul_le_mul_of_nonneg_right q (Int.le_of_lt hd)
  rw [if_pos q,if_pos (z.mpr q2)]
  exact hx
 ·have q2:¬a*d≤b*d:=fun y=>q (Int.le_of_mul_le_mul_right y hd)
  rw [if_neg q,if_neg fun y=>q2 (z.mp y)]
  exact hy
theorem Jy {x y:Q} {a b d:Int} (hx:Iz x a d) (hy:Iz y b d):Iz (x.most y) (if a≤b then b else a) d:=by
 have z:=hx.le_iff hy
 have hd:=hx.dpos
 unfold Vbdeab.Q.most
 by_cases q:a≤b
 ·have q2:a*d≤b*d:=Int.mul_le_mul_of_nonneg_right q (Int.le_of_lt hd)
  rw [if_pos q,if_pos (z.mpr q2)]
  exact hy
 ·have q2:¬a*d≤b*d:=fun y=>q (Int.le_of_mul_le_mul_right y hd)
  rw [if_neg q,if_neg fun y=>q2 (z.mp y)]
  exact hx
theorem JF {c:Class} (h:iu c) (hn:∀x s n,c= .comb x s n→n<2 ^ 64) {v:Q} {p q:Int} (hv:Iz v p q) (strict:Bool):Iz (c.part strict v) (uD c p q (kX strict)) (rQ c q):=by
 have hq:=hv.dpos
 cases c with
 | comb x s n=>
  have e:Class.part strict v (.comb x s n)=mkQ ((Vbdeab.countGood (fun i=>Vbdeab.under strict (tooth x s i) v) (decide (0≤s.num)) 0 n:Nat):Int) n:=rfl
  rw [e,DZ h (hn _ _ _ rfl) hv strict]
  exact(Is.mk' (d:=n) (by have:=h.2.2;omega)).iz
 | line x y=>
  have hx:=m8 h
  have hy:=pK h
  have eq:=CU h
  have hB:=j6 h
  unfold Class.part uD rQ
  simp only
  by_cases z:x=y
  ·rw [if_pos z,if_pos (eq.mp z),if_pos (eq.mp z)]
   have u:=Bn (strict:=strict) hx hv
   by_cases w:Vbdeab.under strict x v=true
   ·rw [if_pos w,if_pos (by have:=u.mp w;omega)]
    exact Iz.ofNat 1
   ·rw [if_neg w,if_neg fun y=>w (u.mpr (by omega))]
    exact Iz.ofNat 0
  ·have hr:¬cR (.line x y)=0:=fun y=>z (eq.mpr y)
   rw [if_neg z,if_neg hr,if_neg hr]
   have hl:=HW hx hy
   have hm:=Jy hx hy
   generalize cO (.line x y)=o at*
   generalize cR (.line x y)=r at*
   generalize cB (.line x y)=b at*
   have emin:HZ o (o+r)=if o≤o+r then o else o+r:=by unfold HZ;repeat' split;all_goals omega
   rw [emin]
   have e2:(if o≤o+r then o+r else o)=(if o≤o+r then o else o+r)+sv r:=by unfold sv;repeat' split;all_goals omega
   rw [e2] at hm
   have ha:=Cz hr
   generalize sv r=a at*
   generalize (if o≤o+r then o else o+r)=lo at*
   have hw:0<a*q:=Int.mul_pos ha hq
   have c1:=hv.le_iff hl
   have c2:=hm.le_iff hv
   have e3:(lo+a)*q=lo*q+a*q:=Int.add_mul _ _ _
   by_cases k1:v.le (x.least y)=true
   ·rw [if_pos k1]
    have e4:eI (p*b - lo*q) (a*q)=0:=by have:=c1.mp k1;unfold eI;repeat' split;all_goals omega
    rw [e4]
    exact Iz.zero hw
   ·have k1':¬p*b≤lo*q:=fun y=>k1 (c1.mpr y)
    rw [if_neg k1]
    by_cases k2:(x.most y).le v=true
    ·rw [if_pos k2]
     have e4:eI (p*b - lo*q) (a*q)=a*q:=by have:=c2.mp k2;unfold eI;repeat' split;all_goals omega
     rw [e4]
     exact(Iz.ofNat 1).conv hw (by simp)
    ·have k2':¬(lo+a)*q≤p*b:=fun y=>k2 (c2.mpr y)
     rw [if_neg k2]
     have e4:eI (p*b - lo*q) (a*q)=p*b - lo*q:=by unfold eI;repeat' split;all_goals omega
     rw [e4]
     have z:=(hv.sub hl).divPos (hm.sub hl) (by
      have:(lo+a)*b - lo*b=a*b:=by grind
      rw [this]
      exact Int.mul_pos ha hB)
     refine z.conv hw ?_
     grind
theorem A7 {c:Class} (h:iu c):c.rises=true↔0≤cR c:=by
 cases c with
 | line x y=>
  have z:=(m8 h).le_iff (pK h)
  have hB:=j6 h
  show x.le y=true↔_
  rw [z]
  have e:(cO (.line x y)+cR (.line x y))*cB (.line x y)=cO (.line x y)*cB (.line x y)+cR (.line x y)*cB (.line x y):=Int.add_mul _ _ _
  constructor
  ·intro q
   have:0≤cR (.line x y)*cB (.line x y):=by omega
   exact Int.nonneg_of_mul_nonneg_left this hB
  ·intro q
   have:=Int.mul_nonneg q (Int.le_of_lt hB)
   omega
 | comb x s n=>
  show decide (0≤s.num)=true↔_
  rw [decide_eq_true_eq]
  exact DF (sw h)
theorem Hm {c:Class} {sp t t':Int} (hsp:0<sp) (h:t≤t'):(0≤cR c→Hb c t sp≤Hb c t' sp)∧(cR c≤0→Hb c t' sp≤Hb c t sp):=by
 cases c with
 | line x y=>
  unfold Hb
  simp only
  constructor
  ·intro q
   have:=Int.mul_le_mul_of_nonneg_left h q
   omega
  ·intro q
   have:=Int.mul_le_mul_of_nonpos_left q h
   omega
 | comb x s n=>
  unfold Hb
  simp only
  have hm:t*n /sp≤t'*n /sp:=Int.ediv_le_ediv hsp (Int.mul_le_mul_of_nonneg_right h (by omega))
  constructor
  ·intro q
   have:=Int.mul_le_mul_of_nonneg_left hm q
   omega
  ·intro q
   have:=Int.mul_le_mul_of_nonpos_left q hm
   omega
theorem Jg {c:Class} (h:iu c) {sp:Int} (hsp:0<sp):0<Kq c sp:=by
 have hB:=j6 h
 cases c with
 | line x y=>exact Int.mul_pos hB hsp
 | comb x s n=>exact hB
theorem Ed {c:Class} (h:iu c) {w:Nat} (hw:0<w) {t t':Nat} (ht:t≤t'):
  if c.rises=true then(along w c t).le (along w c t')=true else(along w c t').le (along w c t)=true:=by
 have hsp:(0:Int)<(Vbdeab.M:Int)*w:=Int.mul_pos J2 (by omega)
 have z1:=pF h hw t
 have z2:=pF h hw t'
 obtain⟨m1,m2⟩:=Hm (c:=c) (t:=(t:Int)) (t':=(t':Int)) hsp (by omega)
 have hD:=Int.le_of_lt (Jg h hsp)
 by_cases q:c.rises=true
 ·rw [if_pos q,z1.le_iff z2]
  exact Int.mul_le_mul_of_nonneg_right (m1 ((A7 h).mp q)) hD
 ·rw [if_neg q,z2.le_iff z1]
  have:¬0≤cR c:=fun y=>q ((A7 h).mpr y)
  exact Int.mul_le_mul_of_nonneg_right (m2 (by omega)) hD
def dN (strict:Bool) (v:Q) (W:Nat) (w:Nat) (c:Class) (b u:Nat):Bool:=Vbdeab.under strict (along w c (u*W - Vbdeab.M*b)) v
theorem HL {c:Class} (h:iu c) {w:Nat} (hw:0<w) {v:Q} (hv:lowQ v) (strict:Bool) (W b lo hi:Nat):Kn (dN strict v W w c b) c.rises lo hi:=fun i j _ h2 _=>by
 have ht:i*W - Vbdeab.M*b≤j*W - Vbdeab.M*b:=Nat.sub_le_sub_right (Nat.mul_le_mul_right _ h2) _
 have z:=Ed h hw ht
 have l1:=(pF h hw (i*W - Vbdeab.M*b)).lowQ
 have l2:=(pF h hw (j*W - Vbdeab.M*b)).lowQ
 by_cases q:c.rises=true
 ·rw [if_pos q] at z⊢
  exact fun k=>zW l1 l2 hv z k
 ·rw [if_neg q] at z⊢
  exact fun k=>zW l2 l1 hv z k
theorem Ft {u a W:Nat} (hW:0<W):u<ceilDiv a W↔u*W<a:=by
 unfold ceilDiv
 rw [Nat.lt_iff_add_one_le,Nat.le_div_iff_mul_le hW,Nat.add_mul,Nat.one_mul]
 omega
theorem jK {u a W:Nat} (hW:0<W):ceilDiv a W≤u↔a≤u*W:=by
 have:=Ft (u:=u) (a:=a) hW
 omega
theorem Hw {a W:Nat} (hW:0<W): -(-(a:Int) /(W:Int))=((ceilDiv a W:Nat):Int):=by
 have h1:=(jK (u:=ceilDiv a W) (a:=a) hW).mp (Nat.le_refl _)
 have hW':(0:Int)<W:=by omega
 have k1:=Int.ediv_mul_le (-(a:Int)) (show(W:Int)≠0 by omega)
 have k2:=Int.lt_ediv_add_one_mul_self (-(a:Int)) hW'
 generalize -(a:Int) /(W:Int)=D at*
 generalize hc:ceilDiv a W=c at*
 have hDn:0≤-D:=by
  refine Int.not_lt.mp fun q=> ?_
  have:1*(W:Int)≤D*W:=Int.mul_le_mul_of_nonneg_right (by omega) (Int.le_of_lt hW')
  omega
 obtain⟨m,hm⟩:∃m:Nat,-D=(m:Int):=⟨(-D).toNat,by omega⟩
 have hD:D= -(m:Int):=by omega
 subst hD
 have a1:a≤m*W:=by
  have: -(m:Int)*W= -((m*W:Nat):Int):=by rw [Int.natCast_mul];grind
  omega
 have a2:c≤m:=by rw [←hc];exact(jK hW).mpr a1
 have a3:m≤c:=by
  refine Nat.not_lt.mp fun q=> ?_
  have q1:c*W+W≤m*W:=by
   have:(c+1)*W≤m*W:=Nat.mul_le_mul_right _ q
   rw [Nat.add_mul,Nat.one_mul] at this
   exact this
  have:(-(m:Int)+1)*W= -((m*W:Nat):Int)+W:=by rw [Int.natCast_mul];grind
  omega
 omega
theorem vp {a b W:Nat} (hW:0<W) (h:a≤b):ceilDiv a W≤ceilDiv b W:=(jK hW).mpr (Nat.le_trans h ((jK hW).mp (Nat.le_refl _)))
theorem F7 {W:Nat} (hW:0<W) (m:Nat):ceilDiv (m*W) W=m:=by
 have h1:=(jK (u:=m) (a:=m*W) hW).mpr (Nat.le_refl _)
 have h2:=(jK (u:=ceilDiv (m*W) W) (a:=m*W) hW).mp (Nat.le_refl _)
 have h3:=Nat.le_of_mul_le_mul_right h2 hW
 omega
theorem AM (W:Nat) (hW:0<W):ceilDiv 0 W=0:=by
 have h1:=(jK (u:=0) (a:=0) hW).mpr (by omega)
 omega
def cD (d:Dist) (i:Nat):Nat:=Vbdeab.sum ((d.map fun c=>c.1).take i)
theorem pG (d:Dist):cD d 0=0:=rfl
theorem gU {d:Dist} {i:Nat} {c:Nat×Class} (h:d[i]?=some c):cD d (i+1)=cD d i+c.1:=Ch.c7 (by rw [List.getElem?_map,h];rfl)
theorem Jj (d:Dist):cD d d.length=total d:=by
 unfold cD total
 rw [List.take_of_length_le (by rw [List.length_map];exact Nat.le_refl _)]
theorem Ee {d:Dist}:∀{i j:Nat},i≤j→cD d i≤cD d j:=fun {i j} h=>by
 obtain⟨k,rfl⟩:∃k,j=i+k:=⟨j - i,by omega⟩
 clear h
 induction k with
 | zero=>exact Nat.le_refl _
 | succ k ih=>
  cases e:d[i+k]? with
  | some c=>
   have:=gU e
   show cD d i≤cD d (i+k+1)
   omega
  | none=>
   have hl:=List.getElem?_eq_none_iff.mp e
   have:cD d (i+k+1)=cD d (i+k):=by
    unfold cD
    rw [List.take_of_length_le (by rw [List.length_map];omega),List.take_of_length_le (by rw [List.length_map];omega)]
   show cD d i≤cD d (i+k+1)
   omega
theorem yK:∀{d:Dist} {i x b:Nat} {w:Nat} {c:Class},d[i]?=some (w,c)→x<Vbdeab.M*(b+cD d (i+1))→(∀j,j<i→Vbdeab.M*(b+cD d (j+1))≤x)→locate d x b=some (w,c,x - Vbdeab.M*(b+cD d i))
 | [],i,_,_,_,_,h,_,_=>by simp at h
 | e::r,0,x,b,w,c,h,h1,_=>by
  simp at h
  subst h
  have:cD ((w,c)::r) 1=w:=by unfold cD;simp [Vbdeab.sum]
  rw [this] at h1
  unfold locate
  rw [if_pos h1,pG,Nat.add_zero]
 | e::r,i+1,x,b,w,c,h,h1,h2=>by
  obtain⟨w',c'⟩:=e
  have cons:∀j,cD ((w',c')::r) (j+1)=w'+cD r j:=fun j=>by unfold cD;rw [List.map_cons,List.take_succ_cons,Ch.sum_cons]
  have z0:=h2 0 (by omega)
  rw [cons,pG,Nat.add_zero] at z0
  unfold locate
  rw [if_neg (Nat.not_lt.mpr z0)]
  have ih:=yK (d:=r) (i:=i) (x:=x) (b:=b+w') (w:=w) (c:=c) (by simpa using h) (by rw [cons] at h1;rw [Nat.add_assoc];exact h1) fun j hj=>by
   have:=h2 (j+1) (by omega)
   rw [cons] at this
   rw [Nat.add_assoc]
   exact this
  rw [ih,cons,Nat.add_assoc]
theorem IT {d:Dist} {i u w:Nat} {c:Class} (h:d[i]?=some (w,c)) (h1:u*total d<Vbdeab.M*cD d (i+1)) (h2:∀j,j<i→Vbdeab.M*cD d (j+1)≤u*total d):Vbdeab.value d u=along w c (u*total d - Vbdeab.M*cD d i):=by
 unfold Vbdeab.value
 rw [yK (b:=0) h (by rw [Nat.zero_add];exact h1) (fun j hj=>by rw [Nat.zero_add];exact h2 j hj)]
 simp only [Nat.zero_add]
theorem CA {d:Dist} {i:Nat} {c:Nat×Class} (h:d[i]?=some c):d.drop i=c::d.drop (i+1):=Ch.vv h
def n0 (d:Dist) (i:Nat):List Nat:=sharesFrom (total d) (d.drop i) (cD d i)
theorem B6 (d:Dist):Vbdeab.shares d=n0 d 0:=rfl
theorem DC {d:Dist} {i:Nat} {c:Nat×Class} (h:d[i]?=some c):n0 d i=(ceilDiv (Vbdeab.M*cD d (i+1)) (total d) - ceilDiv (Vbdeab.M*cD d i) (total d))::n0 d (i+1):=by
 unfold n0
 rw [CA h,gU h]
 obtain⟨w,k⟩:=c
 rfl
theorem EI (d:Dist):n0 d d.length= []:=by
 unfold n0
 rw [List.drop_length]
 rfl
def yH (strict:Bool) (v:Q) (d:Dist) (i:Nat):Nat:=hitsFrom strict v (total d) (d.drop i) (cD d i)
theorem Ei (strict:Bool) (v:Q) (d:Dist):Vbdeab.hits strict v d=yH strict v d 0:=rfl
theorem Gg {strict:Bool} {v:Q} {d:Dist} {i w:Nat} {c:Class} (h:d[i]?=some (w,c)):yH strict v d i=Vbdeab.countGood (dN strict v (total d) w c (cD d i)) c.rises (ceilDiv (Vbdeab.M*cD d i) (total d)) (ceilDiv (Vbdeab.M*cD d (i+1)) (total d))+yH strict v d (i+1):=by
 unfold yH
 rw [CA h,gU h]
 rfl
theorem HM (strict:Bool) (v:Q) (d:Dist):yH strict v d d.length=0:=by
 unfold yH
 rw [List.drop_length]
 rfl
theorem CG {g:Nat→Bool} {r:Bool} (lo:Nat):Vbdeab.countGood g r lo lo=0:=by
 have f:∀p,Vbdeab.firstAt p 64 lo lo=lo:=fun p=>by unfold Vbdeab.firstAt;rw [if_neg (Nat.lt_irrefl _)]
 unfold Vbdeab.countGood
 rw [f,f]
 split<;>omega
end Fr
end
section
namespace Kd
open Vbdeab (Q mkQ Class Dist fraction BIG)
open Fr
def aZ {α:Type}:List (Option α)→Option (List α)
 | []=>some []
 | none::_=>none
 | some a::r=>(aZ r).map (a::·)
theorem yZ {α β:Type} (f:α→β):∀l:List (Option α),aZ (l.map (Option.map f))=(aZ l).map (List.map f)
 | []=>rfl
 | none::r=>rfl
 | some a::r=>by
  show(aZ (r.map (Option.map f))).map (f a::·)=((aZ r).map (a::·)).map (List.map f)
  rw [yZ f r]
  cases aZ r<;>rfl
theorem nE {α:Type}:∀{l:List (Option α)} {r:List α},aZ l=some r→r.length=l.length
 | [],r,h=>by cases h;rfl
 | none::_,r,h=>by cases h
 | some a::l,r,h=>by
  cases e:aZ l with
  | none=>rw [aZ,e] at h;cases h
  | some r'=>
   rw [aZ,e] at h
   cases h
   rw [List.length_cons,List.length_cons,nE e]
theorem sV {α:Type}:∀{l:List (Option α)} {r:List α},aZ l=some r→l=r.map some
 | [],r,h=>by cases h;rfl
 | none::_,r,h=>by cases h
 | some a::l,r,h=>by
  cases e:aZ l with
  | none=>rw [aZ,e] at h;cases h
  | some r'=>
   rw [aZ,e] at h
   cases h
   rw [List.map_cons,←sV e]
theorem lg {α:Type}:∀(r:List α),aZ (r.map some)=some r
 | []=>rfl
 | a::r=>by
  show(aZ (r.map some)).map (a::·)=_
  rw [lg r]
  rfl
theorem De {α:Type} {l:List (Option α)} (h:none∈l):aZ l=none:=by
 cases e:aZ l with
 | none=>rfl
 | some r=>
  rw [sV e] at h
  obtain⟨x,_,hx⟩:=List.mem_map.mp h
  cases hx
def sm:Option Class→Option Class:=fun o=>o.bind fun c=>if c.small=true then some c else none
def Cu (l:List Class):Option (List Class):=if (l.all fun c=>c.small)=true then some l else none
theorem vJ:∀l:List (Option Class),aZ (l.map sm)=(aZ l).bind Cu
 | []=>rfl
 | none::r=>rfl
 | some c::r=>by
  have ih:=vJ r
  rw [List.map_cons]
  by_cases q:c.small=true
  ·have e:sm (some c)=some c:=by show(if c.small=true then some c else none)=_;rw [if_pos q]
   rw [e]
   show(aZ (r.map sm)).map (c::·)=((aZ r).map (c::·)).bind Cu
   rw [ih]
   cases aZ r with
   | none=>rfl
   | some z=>
    show(Cu z).map (c::·)=Cu (c::z)
    unfold Cu
    rw [List.all_cons,q,Bool.true_and]
    split<;>rfl
  ·have e:sm (some c)=none:=by show(if c.small=true then some c else none)=_;rw [if_neg q]
   rw [e]
   show none=((aZ r).map (c::·)).bind Cu
   cases aZ r with
   | none=>rfl
   | some z=>
    show none=Cu (c::z)
    unfold Cu
    rw [List.all_cons]
    simp [q]
def ub (a:List Int) (os:List (Option Class)):Option Dist:=match weights a,aZ os with
 | some ws,some l=>some (ws.zip l)
 | _,_=>none
theorem tT {a:List Int} {ws:List Nat} (h:weights a=some ws):ws=a.map Int.toNat∧weightsOk ws=true∧∀x∈a,0≤x:=by
 unfold weights at h
 split at h
 ·rename_i hc
  cases h
  exact⟨rfl,hc.2,fun x hx=>of_decide_eq_true (List.all_eq_true.mp hc.1 x hx)⟩
 ·cases h
theorem yl {ws:List Nat} {l:List Class} (h:ws.length=l.length):(ws.zip l).map (fun c=>c.1)=ws:=by
 have:=List.map_fst_zip (l₁:=ws) (l₂:=l) (by omega)
 exact this
theorem FT:∀{ws:List Nat} {l:List Class},ws.length=l.length→((ws.zip l).all fun c=>c.2.small)=l.all fun c=>c.small
 | [],[],_=>rfl
 | a::ws,c::l,h=>by
  rw [List.zip_cons_cons,List.all_cons,List.all_cons,FT (by simpa using h)]
 | [],_::_,h=>by simp at h
 | _::_,[],h=>by simp at h
theorem kY {a:List Int} {ws:List Nat} {l:List Class} (h:weights a=some ws) (hl:ws.length=l.length):checked (some (ws.zip l))=(Cu l).map (ws.zip ·):=by
 obtain⟨_,h2,_⟩:=tT h
 unfold checked Vbdeab.ok Cu
 simp only
 rw [yl hl,h2,Bool.true_and,FT hl]
 split<;>rfl
theorem l8 {a:List Int} {os:List (Option Class)} (hl:os.length=a.length):checked (joined a a.length (aZ os))=ub a (os.map sm):=by
 unfold joined ub
 rw [vJ]
 cases hw:weights a with
 | none=>rfl
 | some ws=>
  have hws:ws.length=a.length:=by rw [(tT hw).1,List.length_map]
  cases ho:aZ os with
  | none=>rfl
  | some l=>
   have hl2:=nE ho
   simp only
   rw [if_pos ⟨hws,by omega⟩,kY hw (by omega)]
   show(Cu l).map _=_
   show _=(match some ws,Cu l with | some ws,some l=>some (ws.zip l) | _,_=>none)
   cases Cu l<;>rfl
theorem sB {a:List Int} {cs:Option (List Class)} (h:∀l,cs=some l→l.length≠a.length):joined a a.length cs=none:=by
 unfold joined
 cases weights a with
 | none=>rfl
 | some ws=>
  cases cs with
  | none=>rfl
  | some l=>
   simp only
   rw [if_neg fun z=>h l rfl z.2]
def aR (b:List Int) (j:Nat):Option Q:=fraction (b.getD j 0) (b.getD (j+1) 0)
theorem fb {α:Type} (f:Nat→α) (n:Nat):(List.range (n+1)).map f=f 0::(List.range n).map fun i=>f (i+1):=by
 rw [List.range_succ_eq_map,List.map_cons,List.map_map]
 rfl
theorem mX:∀(n:Nat) (b:List Int),b.length=2*n→fractions b=aZ ((List.range n).map fun i=>aR b (2*i))
 | 0,b,h=>by
  have:b= []:=List.eq_nil_of_length_eq_zero (by omega)
  subst this
  rfl
 | n+1,b,h=>by
  match b,h with
  | p::q::r,h=>
   have ih:=mX n r (by simp at h;omega)
   rw [fb]
   have e:(fun i=>aR (p::q::r) (2*(i+1)))=fun i=>aR r (2*i):=by
    funext i
    unfold aR
    have e1:2*(i+1)=2*i+1+1:=by omega
    rw [e1]
    rfl
   rw [e]
   have e0:aR (p::q::r) (2*0)=fraction p q:=rfl
   rw [e0]
   unfold fractions
   rw [ih]
   cases fraction p q with
   | none=>rfl
   | some x=>
    show _=(aZ _).map (x::·)
    cases aZ ((List.range n).map fun i=>aR r (2*i))<;>rfl
  | [x],h=>simp at h;omega
  | [],h=>simp at h
theorem lJ:∀{b:List Int} {l:List Q},fractions b=some l→b.length=2*l.length
 | [],l,h=>by cases h;rfl
 | [x],l,h=>by cases h
 | p::q::r,l,h=>by
  unfold fractions at h
  cases e1:fraction p q with
  | none=>rw [e1] at h;cases h
  | some x=>
   cases e2:fractions r with
   | none=>rw [e1,e2] at h;cases h
   | some z=>
    rw [e1,e2] at h
    cases h
    have:=lJ e2
    simp only [List.length_cons]
    omega
theorem eW {n d:Int} {q:Q} (h:fraction n d=some q):q.small=true∧lowQ q∧q=mkQ n d.toNat∧1≤d:=by
 unfold Vbdeab.fraction at h
 split at h
 ·rename_i hc
  cases h
  exact⟨hc.2,(Iz.mk' (n:=n) (d:=d) (by omega)).lowQ,rfl,hc.1⟩
 ·cases h
theorem pX (q:Q):(point q).small=q.small:=by
 show(q.small && (Q.mk 0 1).small && decide (1≤1) && decide (1≤BIG))=_
 have e1:(Q.mk 0 1).small=true:=by decide
 have e2:decide (1≤BIG)=true:=by decide
 rw [e1,e2]
 simp
def pW (o:Option Q):Option Class:=o.map point
def iA (x y:Option Q):Option Class:=match x,y with
 | some a,some b=>some (.line a b)
 | _,_=>none
def k6 (x s:Option Q) (n:Int):Option Class:=match x,s with
 | some a,some b=>if 1≤n∧n≤1000000000000000000 then some (.comb a b n.toNat) else none
 | _,_=>none
theorem Lz {a b:List Int} (h:b.length=2*a.length):checked (build 2 a b)=ub a ((List.range a.length).map fun i=>pW (aR b (2*i))):=by
 have e:build 2 a b=joined a a.length ((fractions b).map fun l=>l.map point):=by unfold build;rw [if_pos rfl]
 rw [e,mX _ b h]
 have e2:=yZ point ((List.range a.length).map fun i=>aR b (2*i))
 rw [show(Option.map (fun l=>l.map point))=Option.map (List.map point) from rfl,←e2,l8 (by simp)]
 rw [List.map_map,List.map_map]
 congr 1
 refine List.map_congr_left fun i _=> ?_
 show sm ((aR b (2*i)).map point)=pW (aR b (2*i))
 cases e3:aR b (2*i) with
 | none=>rfl
 | some x=>
  show(if (point x).small=true then _ else _)=_
  rw [pX,if_pos (eW e3).1]
  rfl
theorem Gn {a b:List Int} (h:b.length≠2*a.length):checked (build 2 a b)=none:=by
 have e:build 2 a b=joined a a.length ((fractions b).map fun l=>l.map point):=by unfold build;rw [if_pos rfl]
 rw [e,sB]
 ·rfl
 ·intro l hl hx
  cases e1:fractions b with
  | none=>rw [e1] at hl;cases hl
  | some z=>
   rw [e1] at hl
   cases hl
   have:=lJ e1
   rw [List.length_map] at hx
   omega
theorem sH {x y:Q} (hx:x.small=true) (hy:y.small=true):(Class.line x y).small=true:=by show(x.small && y.small)=true;rw [hx,hy];rfl
theorem AW:∀(n:Nat) (f:Nat→Option Q),aZ ((List.range (n+1)).map fun i=>iA (f i) (f (i+1)))=(aZ ((List.range (n+2)).map f)).map links
 | 0,f=>by
  show aZ [iA (f 0) (f 1)]=(aZ [f 0,f 1]).map _
  cases f 0 with
  | none=>rfl
  | some x=>
   cases f 1 with
   | none=>rfl
   | some y=>rfl
 | n+1,f=>by
  have ih:=AW n fun i=>f (i+1)
  rw [fb _ (n+1),fb _ (n+2)]
  cases e0:f 0 with
  | none=>rfl
  | some x=>
   cases e1:f 1 with
   | none=>
    have z:aZ ((List.range (n+2)).map fun i=>f (i+1))=none:=by
     rw [fb _ (n+1),e1]
     rfl
    show none=((aZ _).map (x::·)).map links
    rw [z]
    rfl
   | some y=>
    show(aZ _).map (Class.line x y::·)=((aZ _).map (x::·)).map links
    rw [ih]
    rw [fb _ (n+1),e1]
    show(((aZ _).map (y::·)).map links).map _=(((aZ _).map (y::·)).map _).map _
    cases aZ ((List.range (n+1)).map fun i=>f (i+1+1)) with
    | none=>rfl
    | some z=>rfl
theorem Jm (os:List (Option Class)):ub [] os=none:=rfl
theorem LA {a b:List Int} (h:b.length=2*a.length+2):checked (build 3 a b)=ub a ((List.range a.length).map fun i=>iA (aR b (2*i)) (aR b (2*i+2))):=by
 have e:build 3 a b=(match fractions b with
  | some l=>if l.length=a.length+1 then joined a a.length (some (links l)) else none
  | none=>none):=by unfold build;rw [if_neg (by decide),if_pos rfl];rfl
 rw [e,mX (a.length+1) b (by omega)]
 cases ha:a with
 | nil=>
  rw [Jm]
  cases aZ ((List.range (([]:List Int).length+1)).map fun i=>aR b (2*i)) with
  | none=>rfl
  | some l=>
   simp only
   split<;>rfl
 | cons a0 ar=>
  have hn:(a0::ar).length=ar.length+1:=rfl
  rw [hn]
  have k:=AW ar.length fun i=>aR b (2*i)
  have k2:((List.range (ar.length+1)).map fun i=>iA (aR b (2*i)) (aR b (2*i+2)))=((List.range (ar.length+1)).map fun i=>iA (aR b (2*i)) (aR b (2*(i+1)))):=rfl
  rw [k2]
  have smid:(((List.range (ar.length+1)).map fun i=>iA (aR b (2*i)) (aR b (2*(i+1)))).map sm)=((List.range (ar.length+1)).map fun i=>iA (aR b (2*i)) (aR b (2*(i+1)))):=by
   rw [List.map_map]
   refine List.map_congr_left fun i _=> ?_
   show sm (iA (aR b (2*i)) (aR b (2*(i+1))))=_
   cases e1:aR b (2*i) with
   | none=>rfl
   | some x=>
    cases e2:aR b (2*(i+1)) with
    | none=>rfl
    | some y=>
     show(if (Class.line x y).small=true then _ else _)=_
     rw [if_pos (sH (eW e1).1 (eW e2).1)]
     rfl
  rw [←smid,←l8 (a:=a0::ar) (by simp),k,hn]
  cases ho:aZ ((List.range (ar.length+2)).map fun i=>aR b (2*i)) with
  | none=>
   show checked none=checked (joined (a0::ar) (ar.length+1) none)
   unfold joined
   cases weights (a0::ar)<;>rfl
  | some l=>
   have hl:=nE ho
   rw [List.length_map,List.length_range] at hl
   simp only
   rw [if_pos (by omega)]
   rfl
theorem Go {a b:List Int} (h:b.length≠2*a.length+2):checked (build 3 a b)=none:=by
 have e:build 3 a b=(match fractions b with
  | some l=>if l.length=a.length+1 then joined a a.length (some (links l)) else none
  | none=>none):=by unfold build;rw [if_neg (by decide),if_pos rfl];rfl
 rw [e]
 cases e1:fractions b with
 | none=>rfl
 | some l=>
  have:=lJ e1
  simp only
  rw [if_neg (by omega)]
  rfl
def kh (x y:Int):Option Class:=if x≤y∧x.natAbs≤BIG∧y.natAbs≤BIG then some (.comb (Vbdeab.ofInt x) ⟨1,1⟩ (y - x+1).toNat) else none
def iZ (x y:Int):Option Class:=if x≤y∧x.natAbs≤BIG∧y.natAbs≤BIG∧y - x+1≤1000000000000000000 then some (.comb (Vbdeab.ofInt x) ⟨1,1⟩ (y - x+1).toNat) else none
theorem lI:BIG=1000000000000000000:=rfl
theorem pP {z:Int} (h:z.natAbs≤BIG):(Vbdeab.ofInt z).small=true:=by
 unfold Vbdeab.Q.small Vbdeab.ofInt
 simp only [Bool.and_eq_true,decide_eq_true_eq]
 exact⟨⟨h,by decide⟩,by decide⟩
theorem GP:(Q.mk 1 1).small=true:=by decide
theorem DG (x y:Int):sm (kh x y)=iZ x y:=by
 unfold kh iZ
 by_cases h:x≤y∧x.natAbs≤BIG∧y.natAbs≤BIG
 ·rw [if_pos h]
  show(if (Class.comb (Vbdeab.ofInt x) ⟨1,1⟩ (y - x+1).toNat).small=true then _ else _)=_
  have e:(Class.comb (Vbdeab.ofInt x) ⟨1,1⟩ (y - x+1).toNat).small=(decide (1≤(y - x+1).toNat) && decide ((y - x+1).toNat≤BIG)):=by
   show((Vbdeab.ofInt x).small && (Q.mk 1 1).small && decide (1≤(y - x+1).toNat) && decide ((y - x+1).toNat≤BIG))=_
   rw [pP h.2.1,GP]
   simp
  rw [e]
  have h1:=h.1
  by_cases k:y - x+1≤1000000000000000000
  ·have c:(decide (1≤(y - x+1).toNat) && decide ((y - x+1).toNat≤BIG))=true:=by
    rw [decide_eq_true (show 1≤(y - x+1).toNat by omega),decide_eq_true (show(y - x+1).toNat≤BIG by rw [lI];omega)]
    rfl
   rw [if_pos c,if_pos ⟨h.1,h.2.1,h.2.2,k⟩]
  ·have c:¬(decide (1≤(y - x+1).toNat) && decide ((y - x+1).toNat≤BIG))=true:=by
    rw [decide_eq_false (show ¬(y - x+1).toNat≤BIG by rw [lI];omega),Bool.and_false]
    decide
   rw [if_neg c,if_neg fun z=>k z.2.2.2]
 ·rw [if_neg h,if_neg fun z=>h ⟨z.1,z.2.1,z.2.2.1⟩]
  rfl
theorem A6:∀(n:Nat) (b:List Int),b.length=2*n→ranges b=aZ ((List.range n).map fun i=>kh (b.getD (2*i) 0) (b.getD (2*i+1) 0))
 | 0,b,h=>by
  have:b= []:=List.eq_nil_of_length_eq_zero (by omega)
  subst this
  rfl
 | n+1,b,h=>by
  match b,h with
  | p::q::r,h=>
   have ih:=A6 n r (by simp at h;omega)
   rw [fb]
   have e:(fun i=>kh ((p::q::r).getD (2*(i+1)) 0) ((p::q::r).getD (2*(i+1)+1) 0))=fun i=>kh (r.getD (2*i) 0) (r.getD (2*i+1) 0):=by
    funext i
    have e1:2*(i+1)=2*i+1+1:=by omega
    rw [e1]
    rfl
   rw [e]
   have e0:kh ((p::q::r).getD (2*0) 0) ((p::q::r).getD (2*0+1) 0)=kh p q:=rfl
   rw [e0]
   unfold ranges
   rw [ih]
   unfold kh
   cases e2:aZ ((List.range n).map fun i=>if r.getD (2*i) 0≤r.getD (2*i+1) 0∧(r.getD (2*i) 0).natAbs≤BIG∧(r.getD (2*i+1) 0).natAbs≤BIG then some (Class.comb (Vbdeab.ofInt (r.getD (2*i) 0)) ⟨1,1⟩ (r.getD (2*i+1) 0 - r.getD (2*i) 0+1).toNat) else none) with
   | none=>
    by_cases c:p≤q∧p.natAbs≤BIG∧q.natAbs≤BIG
    ·rw [if_pos c]
     show none=(aZ _).map _
     rw [e2]
     rfl
    ·rw [if_neg c]
     rfl
   | some l=>
    simp only
    by_cases c:p≤q∧p.natAbs≤BIG∧q.natAbs≤BIG
    ·rw [if_pos c,if_pos c]
     show _=(aZ _).map _
     rw [e2]
     rfl
    ·rw [if_neg c,if_neg c]
     rfl
  | [x],h=>simp at h;omega
  | [],h=>simp at h
theorem zb:∀{b:List Int} {l:List Class},ranges b=some l→b.length=2*l.length
 | [],l,h=>by cases h;rfl
 | [x],l,h=>by cases h
 | p::q::r,l,h=>by
  unfold ranges at h
  cases e2:ranges r with
  | none=>rw [e2] at h;cases h
  | some z=>
   rw [e2] at h
   simp only at h
   split at h
   ·cases h
    have:=zb e2
    simp only [List.length_cons]
    omega
   ·cases h
theorem LB {a b:List Int} (h:b.length=2*a.length):checked (build 4 a b)=ub a ((List.range a.length).map fun i=>iZ (b.getD (2*i) 0) (b.getD (2*i+1) 0)):=by
 have e:build 4 a b=joined a a.length (ranges b):=by unfold build;rw [if_neg (by decide),if_neg (by decide),if_pos rfl]
 rw [e,A6 _ b h,l8 (by simp),List.map_map]
 congr 1
 exact List.map_congr_left fun i _=>DG _ _
theorem Gp {a b:List Int} (h:b.length≠2*a.length):checked (build 4 a b)=none:=by
 have e:build 4 a b=joined a a.length (ranges b):=by unfold build;rw [if_neg (by decide),if_neg (by decide),if_pos rfl]
 rw [e,sB]
 ·rfl
 ·intro l hl hx
  have:=zb hl
  omega
def vf (t n:Int) (x y:Option Q):Option Class:=match x,y with
 | some x,some y=>if t=0∧n=0 then some (.line x y) else if t=1∧1≤n then some (.comb x y n.toNat) else none
 | _,_=>none
def IP (t n:Int) (x y:Option Q):Option Class:=if t=0∧n=0 then iA x y else if t=1 then k6 x y n else none
def oq (b:List Int) (j:Nat):Option Class:=IP (b.getD j 0) (b.getD (j+5) 0) (aR b (j+1)) (aR b (j+3))
theorem yA {x s:Q} {n:Nat} (hx:x.small=true) (hs:s.small=true):(Class.comb x s n).small=(decide (1≤n) && decide (n≤BIG)):=by
 show(x.small && s.small && decide (1≤n) && decide (n≤BIG))=_
 rw [hx,hs]
 simp
theorem JS {t n:Int} {x y:Option Q} (hx:∀q,x=some q→q.small=true) (hy:∀q,y=some q→q.small=true):sm (vf t n x y)=IP t n x y:=by
 unfold vf IP
 cases x with
 | none=>
  show none=_
  unfold iA k6
  simp
 | some p=>
  cases y with
  | none=>
   show none=_
   unfold iA k6
   simp
  | some q=>
   simp only
   by_cases c:t=0∧n=0
   ·rw [if_pos c,if_pos c]
    show(if (Class.line p q).small=true then _ else _)=_
    rw [if_pos (sH (hx _ rfl) (hy _ rfl))]
    rfl
   ·rw [if_neg c,if_neg c]
    by_cases c1:t=1
    ·rw [if_pos c1]
     unfold k6
     simp only
     by_cases c2:1≤n
     ·rw [if_pos ⟨c1,c2⟩]
      show(if (Class.comb p q n.toNat).small=true then _ else _)=_
      rw [yA (hx _ rfl) (hy _ rfl)]
      by_cases c3:n≤1000000000000000000
      ·have c4:(decide (1≤n.toNat) && decide (n.toNat≤BIG))=true:=by
        rw [decide_eq_true (show 1≤n.toNat by omega),decide_eq_true (show n.toNat≤BIG by rw [lI];omega)]
        rfl
       rw [if_pos c4,if_pos ⟨c2,c3⟩]
      ·have c4:¬(decide (1≤n.toNat) && decide (n.toNat≤BIG))=true:=by
        rw [decide_eq_false (show ¬n.toNat≤BIG by rw [lI];omega),Bool.and_false]
        decide
       rw [if_neg c4,if_neg fun z=>c3 z.2]
     ·rw [if_neg fun z=>c2 z.2,if_neg fun z=>c2 z.1]
      rfl
    ·rw [if_neg fun z=>c1 z.1,if_neg c1]
     rfl
theorem yx:∀(n:Nat) (b:List Int),b.length=6*n→classes b=aZ ((List.range n).map fun i=>vf (b.getD (6*i) 0) (b.getD (6*i+5) 0) (aR b (6*i+1)) (aR b (6*i+3)))
 | 0,b,h=>by
  have:b= []:=List.eq_nil_of_length_eq_zero (by omega)
  subst this
  rfl
 | n+1,b,h=>by
  match b,h with
  | t::p::q::p2::q2::m::r,h=>
   have ih:=yx n r (by simp at h;omega)
   rw [fb]
   have e:(fun i=>vf ((t::p::q::p2::q2::m::r).getD (6*(i+1)) 0) ((t::p::q::p2::q2::m::r).getD (6*(i+1)+5) 0) (aR (t::p::q::p2::q2::m::r) (6*(i+1)+1)) (aR (t::p::q::p2::q2::m::r) (6*(i+1)+3)))=fun i=>vf (r.getD (6*i) 0) (r.getD (6*i+5) 0) (aR r (6*i+1)) (aR r (6*i+3)):=by
    funext i
    have e1:6*(i+1)=6*i+1+1+1+1+1+1:=by omega
    rw [e1]
    rfl
   rw [e]
   have e0:vf ((t::p::q::p2::q2::m::r).getD (6*0) 0) ((t::p::q::p2::q2::m::r).getD (6*0+5) 0) (aR (t::p::q::p2::q2::m::r) (6*0+1)) (aR (t::p::q::p2::q2::m::r) (6*0+3))=vf t m (fraction p q) (fraction p2 q2):=rfl
   rw [e0]
   unfold classes
   rw [ih]
   have cons:∀(o:Option Class) (l:List (Option Class)),aZ (o::l)=match o,aZ l with | some c,some z=>some (c::z) | _,_=>none:=fun o l=>by
    cases o with
    | none=>rfl
    | some c=>show(aZ l).map _=_;cases aZ l<;>rfl
   rw [cons]
   generalize aZ ((List.range n).map fun i=>vf (r.getD (6*i) 0) (r.getD (6*i+5) 0) (aR r (6*i+1)) (aR r (6*i+3)))=O at*
   cases fraction p q with
   | none=>rfl
   | some x=>
    cases fraction p2 q2 with
    | none=>rfl
    | some y=>
     unfold vf
     cases O with
     | none=>
      simp only
      repeat' split
      all_goals first | rfl | simp_all
     | some z=>
      simp only
      repeat' split
      all_goals first | rfl | simp_all
  | [],h=>simp at h
  | [_],h=>simp at h;omega
  | [_,_],h=>simp at h;omega
  | [_,_,_],h=>simp at h;omega
  | [_,_,_,_],h=>simp at h;omega
  | [_,_,_,_,_],h=>simp at h;omega
theorem wQ:∀{b:List Int} {l:List Class},classes b=some l→b.length=6*l.length
 | [],l,h=>by cases h;rfl
 | [_],l,h=>by cases h
 | [_,_],l,h=>by cases h
 | [_,_,_],l,h=>by cases h
 | [_,_,_,_],l,h=>by cases h
 | [_,_,_,_,_],l,h=>by cases h
 | t::p::q::p2::q2::m::r,l,h=>by
  unfold classes at h
  cases e1:fraction p q with
  | none=>rw [e1] at h;cases h
  | some x=>
   cases e2:fraction p2 q2 with
   | none=>rw [e1,e2] at h;cases h
   | some y=>
    cases e3:classes r with
    | none=>rw [e1,e2,e3] at h;cases h
    | some z=>
     have ih:=wQ e3
     rw [e1,e2,e3] at h
     simp only at h
     split at h
     ·cases h
      simp only [List.length_cons]
      omega
     ·split at h
      ·cases h
       simp only [List.length_cons]
       omega
      ·cases h
theorem LC {a b:List Int} (h:b.length=6*a.length):checked (build 5 a b)=ub a ((List.range a.length).map fun i=>oq b (6*i)):=by
 have e:build 5 a b=joined a a.length (classes b):=by unfold build;rw [if_neg (by decide),if_neg (by decide),if_neg (by decide),if_pos rfl]
 rw [e,yx _ b h,l8 (by simp),List.map_map]
 congr 1
 exact List.map_congr_left fun i _=>JS (fun q hq=>(eW hq).1) (fun q hq=>(eW hq).1)
theorem Gq {a b:List Int} (h:b.length≠6*a.length):checked (build 5 a b)=none:=by
 have e:build 5 a b=joined a a.length (classes b):=by unfold build;rw [if_neg (by decide),if_neg (by decide),if_neg (by decide),if_pos rfl]
 rw [e,sB]
 ·rfl
 ·intro l hl hx
  have:=wQ hl
  omega
theorem AK {kind:Int} (a:List Int) {b:List Int} (h2:kind≠2) (h3:kind≠3) (h4:kind≠4) (h5:kind≠5) (hb:b≠ []):build kind a b=none:=by
 unfold build
 rw [if_neg h2,if_neg h3,if_neg h4,if_neg h5,if_pos hb]
theorem za:∀(ws:List Nat) (i:Nat),points ws i=ws.zip ((List.range ws.length).map fun j=>point (Vbdeab.ofNat (i+j)))
 | [],i=>rfl
 | w::r,i=>by
  rw [List.length_cons,fb,List.zip_cons_cons]
  have ih:=za r (i+1)
  have e:points (w::r) i=(w,point (Vbdeab.ofNat i))::points r (i+1):=by rw [points]
  rw [e,ih]
  congr 2
  refine List.map_congr_left fun j _=> ?_
  have:i+1+j=i+(j+1):=by omega
  rw [this]
theorem ii (ws:List Nat):weights (nats ws)=if weightsOk ws=true then some ws else none:=by
 unfold weights
 have e:(nats ws).map Int.toNat=ws:=by
  unfold nats
  rw [List.map_map]
  have:(Int.toNat∘Int.ofNat)=id:=by funext n;rfl
  rw [this,List.map_id]
 have e2:((nats ws).all fun w=>decide (0≤w))=true:=List.all_eq_true.mpr fun x hx=>by
  obtain⟨n,_,rfl⟩:=List.mem_map.mp hx
  exact decide_eq_true (Int.natCast_nonneg n)
 rw [e,e2]
 by_cases h:weightsOk ws=true
 ·rw [if_pos ⟨rfl,h⟩,if_pos h]
 ·rw [if_neg fun z=>h z.2,if_neg h]
def eT (first n:Nat):List (Option Class):=(List.range n).map fun j=>some (point (Vbdeab.ofNat (first+j)))
theorem g8 {ws:List Nat} {i:Nat} (h:i+ws.length≤BIG):checked (some (points ws i))=ub (nats ws) (eT i ws.length):=by
 have e:eT i ws.length=(((List.range ws.length).map fun j=>point (Vbdeab.ofNat (i+j))).map some):=by unfold eT;rw [List.map_map];rfl
 unfold ub
 rw [ii,e,lg,za]
 have hs:(((List.range ws.length).map fun j=>point (Vbdeab.ofNat (i+j))).all fun c=>c.small)=true:=List.all_eq_true.mpr fun c hc=>by
  obtain⟨j,hj,rfl⟩:=List.mem_map.mp hc
  rw [List.mem_range] at hj
  rw [pX]
  exact pP (z:=((i+j:Nat):Int)) (by omega)
 by_cases hw:weightsOk ws=true
 ·rw [if_pos hw,kY (a:=nats ws) (by rw [ii,if_pos hw]) (by simp)]
  unfold Cu
  rw [if_pos hs]
  rfl
 ·rw [if_neg hw]
  unfold checked Vbdeab.ok
  simp only
  rw [yl (by simp),if_neg (by simp [hw])]
theorem di (n lo hi:Int):within n lo hi=decide (lo≤n∧n≤hi):=by
 unfold within
 by_cases h1:lo≤n<;>by_cases h2:n≤hi<;>simp [h1,h2]
theorem Lx (p q:Int):checked (build 0 [p,q] [])=ub [1] [pW (fraction p q)]:=by
 have e:build 0 [p,q] []=(fraction p q).map fun v=> [(1,point v)]:=rfl
 rw [e]
 cases e1:fraction p q with
 | none=>rfl
 | some v=>
  show checked (some ([1].zip [point v]))=_
  rw [kY (a:= [1]) (ws:= [1]) rfl rfl]
  unfold Cu
  rw [if_pos (by rw [List.all_cons,pX,(eW e1).1];rfl)]
  rfl
theorem Ly (x y:Int):checked (build 1 [x,y] [])=ub [1] [iZ x y]:=by
 have e:build 1 [x,y] []=if x≤y∧x.natAbs≤BIG∧y.natAbs≤BIG then some [(1,.comb (Vbdeab.ofInt x) ⟨1,1⟩ (y - x+1).toNat)] else none:=rfl
 have e2:(if x≤y∧x.natAbs≤BIG∧y.natAbs≤BIG then some [(1,Class.comb (Vbdeab.ofInt x) ⟨1,1⟩ (y - x+1).toNat)] else none:Option Dist)=joined [1] 1 (aZ [kh x y]):=by
  unfold kh
  by_cases c:x≤y∧x.natAbs≤BIG∧y.natAbs≤BIG
  ·rw [if_pos c,if_pos c]
   rfl
  ·rw [if_neg c,if_neg c]
   rfl
 rw [e,e2]
 have z:=l8 (a:= [1]) (os:= [kh x y]) rfl
 rw [List.map_cons,DG] at z
 exact z
def E3 (n p q:Nat):List Nat:=(List.range (n+1)).map fun i=>Vbdeab.choose n i*p ^ i*(q - p) ^ (n - i)
def Cp (m p q:Nat):List Nat:=(List.range m).map (fun i=>p*(q - p) ^ i*q ^ (m - 1 - i))++ [(q - p) ^ m]
def E4 (t k n:Nat):List Nat:=(List.range (n+1)).map fun i=>Vbdeab.choose k i*Vbdeab.choose (t - k) (n - i)
theorem LD (n p q:Int):checked (build 6 [n,p,q] [])=if (0≤n∧n≤20)∧(1≤q∧q≤100)∧(0≤p∧p≤q) then ub (nats (E3 n.toNat p.toNat q.toNat)) (eT 0 (n.toNat+1)) else none:=by
 have e:build 6 [n,p,q] []=if within n 0 20=true∧within q 1 100=true∧within p 0 q=true then
    some (points ((List.range (n.toNat+1)).map fun i=>Vbdeab.choose n.toNat i*p.toNat ^ i*(q - p).toNat ^ (n.toNat - i)) 0) else none:=rfl
 rw [e,di,di,di]
 simp only [decide_eq_true_eq]
 by_cases c:(0≤n∧n≤20)∧(1≤q∧q≤100)∧(0≤p∧p≤q)
 ·rw [if_pos c,if_pos c]
  have e2:(q - p).toNat=q.toNat - p.toNat:=by omega
  have z:=g8 (ws:=E3 n.toNat p.toNat q.toNat) (i:=0) (by unfold E3;rw [List.length_map,List.length_range,lI];omega)
  unfold E3 at z⊢
  rw [List.length_map,List.length_range] at z
  rw [e2]
  exact z
 ·rw [if_neg c,if_neg c]
  rfl
theorem LE (n p q:Int):checked (build 7 [n,p,q] [])=if (0≤n∧n≤20)∧(1≤q∧q≤100)∧(0≤p∧p≤q) then ub (nats (Cp n.toNat p.toNat q.toNat)) (eT 0 (n.toNat+1)) else none:=by
 have e:build 7 [n,p,q] []=if within n 0 20=true∧within q 1 100=true∧within p 0 q=true then
    some (points ((List.range n.toNat).map (fun i=>p.toNat*(q - p).toNat ^ i*q.toNat ^ (n.toNat - 1 - i))++ [(q - p).toNat ^ n.toNat]) 0) else none:=rfl
 rw [e,di,di,di]
 simp only [decide_eq_true_eq]
 by_cases c:(0≤n∧n≤20)∧(1≤q∧q≤100)∧(0≤p∧p≤q)
 ·rw [if_pos c,if_pos c]
  have e2:(q - p).toNat=q.toNat - p.toNat:=by omega
  have hl:(Cp n.toNat p.toNat q.toNat).length=n.toNat+1:=by unfold Cp;rw [List.length_append,List.length_map,List.length_range];rfl
  have z:=g8 (ws:=Cp n.toNat p.toNat q.toNat) (i:=0) (by rw [hl,lI];omega)
  rw [hl] at z
  unfold Cp at z⊢
  rw [e2]
  exact z
 ·rw [if_neg c,if_neg c]
  rfl
theorem LF (t k n:Int):checked (build 8 [t,k,n] [])=if (0≤t∧t≤60)∧(0≤k∧k≤t)∧(0≤n∧n≤t) then ub (nats (E4 t.toNat k.toNat n.toNat)) (eT 0 (n.toNat+1)) else none:=by
 have e:build 8 [t,k,n] []=if within t 0 60=true∧within k 0 t=true∧within n 0 t=true then
    some (points ((List.range (n.toNat+1)).map fun i=>Vbdeab.choose k.toNat i*Vbdeab.choose (t - k).toNat (n.toNat - i)) 0) else none:=rfl
 rw [e,di,di,di]
 simp only [decide_eq_true_eq]
 by_cases c:(0≤t∧t≤60)∧(0≤k∧k≤t)∧(0≤n∧n≤t)
 ·rw [if_pos c,if_pos c]
  have e2:(t - k).toNat=t.toNat - k.toNat:=by omega
  have z:=g8 (ws:=E4 t.toNat k.toNat n.toNat) (i:=0) (by unfold E4;rw [List.length_map,List.length_range,lI];omega)
  unfold E4 at z⊢
  rw [List.length_map,List.length_range] at z
  rw [e2]
  exact z
 ·rw [if_neg c,if_neg c]
  rfl
theorem LG (n s:Int):checked (build 9 [n,s] [])=if (0≤n∧n≤6)∧(1≤s∧s≤10) then ub (nats (Vbdeab.throws s.toNat n.toNat)) (eT n.toNat (Vbdeab.throws s.toNat n.toNat).length) else none:=by
 have e:build 9 [n,s] []=if within n 0 6=true∧within s 1 10=true then some (points (Vbdeab.throws s.toNat n.toNat) n.toNat) else none:=rfl
 rw [e,di,di]
 simp only [decide_eq_true_eq]
 by_cases c:(0≤n∧n≤6)∧(1≤s∧s≤10)
 ·rw [if_pos c,if_pos c]
  obtain⟨m,hm⟩:∃m,s.toNat=m+1:=⟨s.toNat - 1,by omega⟩
  refine g8 ?_
  rw [hm,Cb.throws_len,lI]
  have:n.toNat*m≤6*9:=Nat.mul_le_mul (by omega) (by omega)
  omega
 ·rw [if_neg c,if_neg c]
  rfl
theorem Gr {kind:Int} (a b:List Int) (h:∀k:Int,0≤k→k≤9→kind≠k):build kind a b=none:=by
 unfold build
 rw [if_neg (h 2 (by decide) (by decide)),if_neg (h 3 (by decide) (by decide)),if_neg (h 4 (by decide) (by decide)),if_neg (h 5 (by decide) (by decide))]
 split
 ·rfl
 ·rw [if_neg (h 0 (by decide) (by decide)),if_neg (h 1 (by decide) (by decide)),if_neg (h 6 (by decide) (by decide)),if_neg (h 7 (by decide) (by decide)),if_neg (h 8 (by decide) (by decide)),if_neg (h 9 (by decide) (by decide))]
def IO (kind:Int):Nat:=if kind=0∨kind=1∨kind=9 then 2 else 3
theorem HP {kind:Int} {a:List Int} (h:kind=0∨kind=1∨kind=6∨kind=7∨kind=8∨kind=9) (hl:a.length≠IO kind):build kind a []=none:=by
 rcases h with rfl | rfl | rfl | rfl | rfl | rfl<;>(
  unfold IO at hl
  simp at hl
  match a,hl with
  | [],_=>rfl
  | [_],_=>rfl
  | [_,_],hl=>first | rfl | exact absurd rfl hl
  | [_,_,_],hl=>first | rfl | exact absurd rfl hl
  | _::_::_::_::_,_=>rfl)
theorem Ef (n i:Nat):(Vbdeab.choose n i:Int)*((n:Int) - (i:Int)) /((i:Int)+1)=(Vbdeab.choose n (i+1):Int):=by
 have h:=Cb.choose_step n i
 have e:(Vbdeab.choose n i:Int)*((n:Int) - (i:Int))=(Vbdeab.choose n (i+1):Int)*((i:Int)+1):=by
  have h':(((i+1)*Vbdeab.choose n (i+1)+i*Vbdeab.choose n i:Nat):Int)=((n*Vbdeab.choose n i:Nat):Int):=by rw [h]
  rw [Int.natCast_add,Int.natCast_mul,Int.natCast_mul,Int.natCast_mul,Int.natCast_add] at h'
  grind
 rw [e,Int.mul_ediv_cancel _ (by omega)]
theorem Gd (l:List Nat) (i k:Nat):(l.take i).getD k 0=if k<i then l.getD k 0 else 0:=by
 rw [List.getD_eq_getElem?_getD,List.getD_eq_getElem?_getD,List.getElem?_take]
 split<;>rfl
theorem FM (x:Nat) (i k:Nat):∀s:Nat,((List.range s).map fun j=>if j≤k∧k - j=i then x else 0).sum=if i≤k∧k<i+s then x else 0
 | 0=>by simp;omega
 | s+1=>by
  rw [List.range_succ,List.map_append,List.sum_append,FM x i k s]
  simp only [List.map_cons,List.map_nil,List.sum_cons,List.sum_nil,Nat.add_zero]
  repeat' split
  all_goals omega
theorem FL (f g:Nat→Nat):∀l:List Nat,(l.map fun j=>f j+g j).sum=(l.map f).sum+(l.map g).sum
 | []=>rfl
 | a::r=>by
  rw [List.map_cons,List.map_cons,List.map_cons,List.sum_cons,List.sum_cons,List.sum_cons,FL f g r]
  omega
theorem DL (l:List Nat) (s i k:Nat) (hi:i<l.length):(Vbdeab.spread (l.take (i+1)) s).getD k 0=(Vbdeab.spread (l.take i) s).getD k 0+if i≤k∧k<i+s then l.getD i 0 else 0:=by
 rw [Cb.spread_get,Cb.spread_get,←FM,←FL]
 congr 1
 refine List.map_congr_left fun j _=> ?_
 simp only [Gd]
 by_cases h1:j≤k
 ·rw [if_pos h1,if_pos h1]
  by_cases h2:k - j=i
  ·rw [if_pos (by omega),if_neg (by omega),if_pos ⟨h1,h2⟩,h2,Nat.zero_add]
  ·have h4:¬(j≤k∧k - j=i):=fun z=>h2 z.2
   by_cases h3:k - j<i
   ·rw [if_pos (by omega),if_pos h3,if_neg h4];rfl
   ·rw [if_neg (by omega),if_neg h3,if_neg h4]
 ·have h4:¬(j≤k∧k - j=i):=fun z=>h1 z.1
  rw [if_neg h1,if_neg h1,if_neg h4]
theorem zS (s k:Nat):(Vbdeab.spread [] s).getD k 0=0:=by
 rw [Cb.spread_get]
 have:∀l:List Nat,(l.map fun j=>if j≤k then([]:List Nat).getD (k - j) 0 else 0).sum=0:=fun l=>by
  induction l with
  | nil=>rfl
  | cons a r ih=>rw [List.map_cons,List.sum_cons,ih];simp
 exact this _
theorem Ge {t b:Int} {P:Int} {S:Nat} (hb:0<b) (hd:t∣P) (hS:S=Nat.gcd (P%b).natAbs b.toNat):Nat.gcd t.natAbs S=Nat.gcd t.natAbs b.toNat:=by
 obtain⟨B,rfl⟩:∃B:Nat,b=(B:Int):=⟨b.toNat,by omega⟩
 rw [Int.toNat_natCast] at hS⊢
 have hS2:S=Nat.gcd P.natAbs B:=by
  rw [hS]
  apply Nat.dvd_antisymm
  ·refine Nat.dvd_gcd ?_ (Nat.gcd_dvd_right _ _)
   have h1:((Nat.gcd (P%(B:Int)).natAbs B:Nat):Int)∣P%(B:Int):=c6 _ _
   have h2:((Nat.gcd (P%(B:Int)).natAbs B:Nat):Int)∣(B:Int):=Int.ofNat_dvd.mpr (Nat.gcd_dvd_right _ _)
   have h3:((Nat.gcd (P%(B:Int)).natAbs B:Nat):Int)∣P:=by
    have e:=Int.emod_add_mul_ediv P (B:Int)
    conv=>rhs;rw [←e]
    exact Int.dvd_add h1 (Int.dvd_mul_of_dvd_left h2)
   have h4:=Int.natAbs_dvd_natAbs.mpr h3
   rwa [Int.natAbs_natCast] at h4
  ·refine Nat.dvd_gcd ?_ (Nat.gcd_dvd_right _ _)
   have h1:((Nat.gcd P.natAbs B:Nat):Int)∣P:=c6 _ _
   have h2:((Nat.gcd P.natAbs B:Nat):Int)∣(B:Int):=Int.ofNat_dvd.mpr (Nat.gcd_dvd_right _ _)
   have h3:((Nat.gcd P.natAbs B:Nat):Int)∣P%(B:Int):=by
    rw [Int.emod_def]
    exact Int.dvd_sub h1 (Int.dvd_mul_of_dvd_left h2)
   have h4:=Int.natAbs_dvd_natAbs.mpr h3
   rwa [Int.natAbs_natCast] at h4
 rw [hS2]
 have ht:t.natAbs∣P.natAbs:=Int.natAbs_dvd_natAbs.mpr hd
 apply Nat.dvd_antisymm
 ·exact Nat.dvd_gcd (Nat.gcd_dvd_left _ _) (Nat.dvd_trans (Nat.gcd_dvd_right _ _) (Nat.gcd_dvd_right _ _))
 ·exact Nat.dvd_gcd (Nat.gcd_dvd_left _ _) (Nat.dvd_gcd (Nat.dvd_trans (Nat.gcd_dvd_left _ _) ht) (Nat.gcd_dvd_right _ _))
theorem BK {n d:Int} (h:0<d):(mkQ n d.toNat).num=n /((Nat.gcd n.natAbs d.toNat:Nat):Int):=rfl
theorem BJ {n d:Int} (h:0<d):(((mkQ n d.toNat).den:Nat):Int)=d /((Nat.gcd n.natAbs d.toNat:Nat):Int):=by
 show((d.toNat /Nat.gcd n.natAbs d.toNat:Nat):Int)=_
 rw [Int.natCast_ediv,Int.toNat_of_nonneg (Int.le_of_lt h)]
theorem HH {l s:Int} (h:0<s):Nat.gcd s.natAbs (l%s).natAbs=Nat.gcd l.natAbs s.natAbs:=by
 apply Nat.dvd_antisymm
 ·refine Nat.dvd_gcd ?_ (Nat.gcd_dvd_left _ _)
  have h1:((Nat.gcd s.natAbs (l%s).natAbs:Nat):Int)∣s:=c6 _ _
  have h2:((Nat.gcd s.natAbs (l%s).natAbs:Nat):Int)∣l%s:=by rw [Nat.gcd_comm];exact c6 _ _
  have h3:((Nat.gcd s.natAbs (l%s).natAbs:Nat):Int)∣l:=by
   have e:=Int.emod_add_mul_ediv l s
   conv=>rhs;rw [←e]
   exact Int.dvd_add h2 (Int.dvd_mul_of_dvd_left h1)
  have h4:=Int.natAbs_dvd_natAbs.mpr h3
  rwa [Int.natAbs_natCast] at h4
 ·refine Nat.dvd_gcd (Nat.gcd_dvd_right _ _) ?_
  have h1:((Nat.gcd l.natAbs s.natAbs:Nat):Int)∣l:=c6 _ _
  have h2:((Nat.gcd l.natAbs s.natAbs:Nat):Int)∣s:=by rw [Nat.gcd_comm];exact c6 _ _
  have h3:((Nat.gcd l.natAbs s.natAbs:Nat):Int)∣l%s:=by
   rw [Int.emod_def]
   exact Int.dvd_sub h1 (Int.dvd_mul_of_dvd_left h2)
  have h4:=Int.natAbs_dvd_natAbs.mpr h3
  rwa [Int.natAbs_natCast] at h4
theorem Ag {l r:List Nat} (h:l.length=r.length) (e:∀k,k<l.length→l.getD k 0=r.getD k 0):l=r:=by
 refine List.ext_getElem h fun i h1 h2=> ?_
 have:=e i h1
 rw [List.getD_eq_getElem?_getD,List.getD_eq_getElem?_getD,List.getElem?_eq_getElem h1,List.getElem?_eq_getElem h2] at this
 exact this
end Kd
end
section
namespace Lt
open Vbdeab (M)
def left:List Nat→List Nat→List Nat
 | [],ws=>ws
 | u::r,ws=>left r (ws.set (chosen ws u) 0)
theorem vx (u:Nat):∀(us ws:List Nat),left (us++ [u]) ws=(left us ws).set (chosen (left us ws) u) 0
 | [],ws=>rfl
 | v::r,ws=>by
  show left (r++ [u]) _=_
  rw [vx u r]
  rfl
theorem AX (u:Nat):∀(us ws:List Nat),lotsOf (us++ [u]) ws=lotsOf us ws++ [chosen (left us ws) u]
 | [],ws=>rfl
 | v::r,ws=>by
  show chosen ws v::lotsOf (r++ [u]) _=_
  rw [AX u r]
  rfl
theorem um:∀(us ws:List Nat),(lotsOf us ws).length=us.length
 | [],_=>rfl
 | u::r,ws=>by
  show(lotsOf r _).length+1=_
  rw [um r]
  rfl
def pos (ws:List Nat):Nat:=(ws.filter fun w=>decide (0<w)).length
theorem mn (w:Nat) (r:List Nat):pos (w::r)=(if 0<w then 1 else 0)+pos r:=by
 unfold pos
 rw [List.filter_cons]
 by_cases h:0<w
 ·rw [if_pos (decide_eq_true h),if_pos h,List.length_cons];omega
 ·rw [if_neg (by simp;omega),if_neg h,Nat.zero_add]
theorem FE:∀{ws:List Nat} {i w:Nat},ws[i]?=some w→0<w→pos (ws.set i 0)+1=pos ws
 | [],i,w,h,_=>by simp at h
 | x::r,0,w,h,hw=>by
  simp at h
  subst h
  rw [List.set_cons_zero,mn,mn,if_neg (by omega),if_pos hw]
  omega
 | x::r,i+1,w,h,hw=>by
  have ih:=FE (ws:=r) (i:=i) (by simpa using h) hw
  rw [List.set_cons_succ,mn,mn]
  omega
theorem FN:∀{ws:List Nat} {i w:Nat},ws[i]?=some w→Vbdeab.sum (ws.set i 0)+w=Vbdeab.sum ws
 | [],i,w,h=>by simp at h
 | x::r,0,w,h=>by
  simp at h
  subst h
  rw [List.set_cons_zero,Ch.sum_cons,Ch.sum_cons]
  omega
 | x::r,i+1,w,h=>by
  have ih:=FN (ws:=r) (i:=i) (w:=w) (by simpa using h)
  rw [List.set_cons_succ,Ch.sum_cons,Ch.sum_cons]
  omega
theorem BV:∀{ws:List Nat},0<pos ws→0<Vbdeab.sum ws
 | [],h=>by simp [pos] at h
 | w::r,h=>by
  rw [mn] at h
  rw [Ch.sum_cons]
  by_cases q:0<w
  ·omega
  ·rw [if_neg q,Nat.zero_add] at h
   have:=BV h
   omega
theorem Di:∀{ws:List Nat} {x b:Nat},x<M*(b+Vbdeab.sum ws)→M*b≤x→∃w,ws[place ws x b]?=some w∧0<w
 | [],x,b,h,k=>by
  rw [Ch.sum_nil,Nat.add_zero] at h
  omega
 | w::r,x,b,h,k=>by
  unfold place
  by_cases q:x<M*(b+w)
  ·rw [if_pos q]
   refine⟨w,rfl,?_⟩
   rcases Nat.eq_zero_or_pos w with z | z
   ·rw [z,Nat.add_zero] at q;omega
   ·exact z
  ·rw [if_neg q]
   obtain⟨v,hv,hp⟩:=Di (ws:=r) (x:=x) (b:=b+w) (by rw [Ch.sum_cons] at h;rw [Nat.add_assoc];exact h) (Nat.not_lt.mp q)
   refine⟨v,?_,hp⟩
   rw [Nat.add_comm 1,List.getElem?_cons_succ]
   exact hv
theorem F9 {ws:List Nat} {u:Nat} (hu:u<M) (hs:0<Vbdeab.sum ws):∃w,ws[chosen ws u]?=some w∧0<w:=
 Di (b:=0) (by rw [Nat.zero_add];exact Ch.Fu hu hs) (by rw [Nat.mul_zero];exact Nat.zero_le _)
structure Bq (ws0:List Nat) (i:Nat) (ws:List Nat):Prop where
 len:ws.length=ws0.length
 pos:pos ws+i=pos ws0
 sum:Vbdeab.sum ws≤Vbdeab.sum ws0
theorem Bq.start (ws:List Nat):Bq ws 0 ws:=⟨rfl,rfl,Nat.le_refl _⟩
theorem Bq.step {ws0 ws:List Nat} {i u:Nat} (h:Bq ws0 i ws) (hi:i<Lt.pos ws0) (hu:u<M):Bq ws0 (i+1) (ws.set (chosen ws u) 0)∧chosen ws u<ws.length:=by
 have hp:=h.pos
 obtain⟨w,hw,hw0⟩:=F9 hu (BV (ws:=ws) (by omega))
 have h1:=FE hw hw0
 have h2:=FN hw
 have h3:=h.sum
 exact⟨⟨by rw [List.length_set];exact h.len,by omega,by omega⟩,(List.getElem?_eq_some_iff.mp hw).1⟩
theorem Bq.spos {ws0 ws:List Nat} {i:Nat} (h:Bq ws0 i ws) (hi:i<Lt.pos ws0):0<Vbdeab.sum ws:=BV (by have:=h.pos;omega)
end Lt
end
section
namespace L2
open PySem PySem.Spec PyProof.Rows
abbrev vo:=Sum Int Str
def AV:vo→Value→Bool
 | .inl k,v=>Value.isInt k v
 | .inr x,v=>Value.isStrOf x v
def Mx (w:World):vo→Int
 | .inl k=>hashInt k
 | .inr x=>hashStr w x
theorem dA:∀{k:vo} {v:Value},AV k v=true→(∃i t,k=Sum.inl i∧v=Value.int i t)∨(∃x t,k=Sum.inr x∧v=Value.str x t)
 | .inl i,v,h=>by
  obtain⟨t,e⟩:=Value.isInt_shape (k:=i) (v:=v) h
  exact .inl ⟨i,t,rfl,e⟩
 | .inr x,v,h=>by
  obtain⟨t,e⟩:=Value.isStrOf_shape (x:=x) (v:=v) h
  exact .inr ⟨x,t,rfl,e⟩
theorem Gk (i:Int) (t:Tok):AV (.inl i) (.int i t)=true:=by simp [AV,Value.isInt]
theorem Gm (x:Str) (t:Tok):AV (.inr x) (.str x t)=true:=by simp [AV,Value.isStrOf]
theorem KD (a b:Int):decide ((Sum.inl a:vo)=Sum.inl b)=(a==b):=by
 by_cases e:a=b
 ·subst e;simp
 ·have h:¬(Sum.inl a:vo)=Sum.inl b:=fun q=>e (Sum.inl.inj q)
  rw [decide_eq_false h]
  exact(beq_eq_false_iff_ne.mpr e).symm
theorem KG (a b:Str):decide ((Sum.inr a:vo)=Sum.inr b)=decide (a=b):=by
 by_cases e:a=b
 ·subst e;simp
 ·have h:¬(Sum.inr a:vo)=Sum.inr b:=fun q=>e (Sum.inr.inj q)
  rw [decide_eq_false h,decide_eq_false e]
theorem KE (a:Int) (b:Str):decide ((Sum.inl a:vo)=Sum.inr b)=false:=decide_eq_false (fun q=>nomatch q)
theorem KF (a:Str) (b:Int):decide ((Sum.inr a:vo)=Sum.inl b)=false:=decide_eq_false (fun q=>nomatch q)
def jL (prog:Program) (w:World):PySem.KeyKind prog w vo where
 is:=AV
 hash:=Mx w
 inj:=fun v a b ha hb=>by
  rcases dA ha with⟨i,t,rfl,rfl⟩ | ⟨x,t,rfl,rfl⟩
  ·rcases dA hb with⟨j,u,rfl,e⟩ | ⟨y,u,rfl,e⟩
   ·injection e with e1 _;rw [e1]
   ·exact nomatch e
  ·rcases dA hb with⟨j,u,rfl,e⟩ | ⟨y,u,rfl,e⟩
   ·exact nomatch e
   ·injection e with e1 _;rw [e1]
 byValue:=fun k v h=>by
  rcases dA h with⟨i,t,rfl,rfl⟩ | ⟨x,t,rfl,rfl⟩<;>rfl
 pyHash:=fun hv h=>by
  rcases dA hv with⟨i,t,rfl,rfl⟩ | ⟨x,t,rfl,rfl⟩
  ·exact wpAny_pyHash_int h
  ·exact wpAny_pyHash_str h
 eqBool:=fun hu hv h=>by
  rcases dA hu with⟨i,t,rfl,rfl⟩ | ⟨x,t,rfl,rfl⟩
  ·rcases dA hv with⟨j,u,rfl,rfl⟩ | ⟨y,u,rfl,rfl⟩
   ·rw [KD] at h;exact wpAny_eqBool_int h
   ·rw [KE] at h;exact SeqAt.EqAt.int_str i t y u _ _ _ _ h
  ·rcases dA hv with⟨j,u,rfl,rfl⟩ | ⟨y,u,rfl,rfl⟩
   ·rw [KF] at h;exact SeqAt.EqAt.str_int x t j u _ _ _ _ h
   ·rw [KG] at h;exact wpAny_eqBool_str h
 «strs»:=fun k x t v h=>by
  rcases dA h with⟨i,u,rfl,e⟩ | ⟨y,u,rfl,e⟩
  ·exact nomatch e
  ·injection e with e1 _
   subst e1
   cases v<;>rfl
theorem CW (prog:Program) (w:World) (i:Int) (t:Tok):(jL prog w).is (.inl i) (.int i t)=true:=Gk i t
theorem CY (prog:Program) (w:World) (x:Str) (t:Tok):(jL prog w).is (.inr x) (.str x t)=true:=Gm x t
end L2
namespace L2
open PySem PySem.Spec PyProof.Rows
inductive V where
 | non | bl (b:Bool) | int (i:Int) | str (x:Str) | byt (b:Array UInt8) | flt (b:UInt64) | ref (a:Addr) | ty (n:String)
 deriving DecidableEq
def cj:V→Value→Prop
 | .non,u=>u=Value.none
 | .bl b,u=>u=Value.bool b
 | .int i,u=>∃t,u=Value.int i t
 | .str x,u=>∃t,u=Value.str x t
 | .byt b,u=>∃t,u=Value.bytes b t
 | .flt b,u=>∃t,u=Value.float b t
 | .ref a,u=>u=Value.ref a
 | .ty n,u=>u=Value.type n
abbrev bw:List V→List Value→Prop:=Paired cj
theorem bw.length {xs:List V} {us:List Value} (r:bw xs us):xs.length=us.length:=Paired.length r
theorem bw.get:∀{xs:List V} {us:List Value} {i:Nat} {x:V},bw xs us→xs[i]?=some x→∃u,us[i]?=some u∧cj x u
 | _,_,_,_,.nil,e=>by simp at e
 | _,_,0,_,.cons r _,e=>by simp at e;subst e;exact⟨_,rfl,r⟩
 | _,_,i+1,x,.cons _ t,e=>by
  obtain⟨u,h1,h2⟩:=bw.get (i:=i) (x:=x) t (by simpa using e)
  exact⟨u,by simpa using h1,h2⟩
theorem bw.set {x:V} {u:Value} (r:cj x u):∀{xs:List V} {us:List Value} (i:Nat),bw xs us→bw (xs.set i x) (us.set i u)
 | _,_,_,.nil=> .nil
 | _,_,0,.cons _ t=> .cons r t
 | _,_,i+1,.cons q t=> .cons q (bw.set r i t)
theorem bw.append:∀{xs ys:List V} {us ws:List Value},bw xs us→bw ys ws→bw (xs++ys) (us++ws)
 | _,_,_,_,.nil,s=>s
 | _,_,_,_,.cons r t,s=> .cons r (bw.append t s)
theorem bw.take:∀{xs:List V} {us:List Value} (n:Nat),bw xs us→bw (xs.take n) (us.take n)
 | _,_,0,_=> .nil
 | _,_,_+1,.nil=> .nil
 | _,_,n+1,.cons r t=> .cons r (bw.take n t)
theorem bw.drop:∀{xs:List V} {us:List Value} (n:Nat),bw xs us→bw (xs.drop n) (us.drop n)
 | _,_,0,r=>r
 | _,_,_+1,.nil=> .nil
 | _,_,n+1,.cons _ t=>bw.drop n t
def su:Option V→Option Value→Prop
 | some v,some u=>cj v u
 | none,none=>True
 | _,_=>False
def KV {κ:Type}:List (κ×V)→List (κ×Value)→Prop:=Paired fun(p:κ×V) (q:κ×Value)=>p.1=q.1∧cj p.2 q.2
def kV:vo→V
 | .inl i=> .int i
 | .inr x=> .str x
inductive HO where
 | lst (xs:List V)
 | tup (xs:List V)
 | dK (kvs:List (vo×V)) | dT (kvs:List (List vo×V))
 | set (S:Int→Bool) (n:Nat)
 | ins (C dx:Addr) (fs:List (Str×V))
 | own (x:Addr)
 | xd (fs:List (Str×V))
 | met (f x:Addr)
 | rng (lo hi:Int)
 | frz (o:Obj) (u:HO)
 | tbl (ps:Array Value)
 | ext (φ:Heap→Prop)
abbrev Hp:=Addr→Option HO
def bC (H:Hp) (a:Addr) (o:HO):Hp:=fun b=>if b=a then some o else H b
theorem af {H:Hp} {a:Addr} {o:HO}:bC H a o a=some o:=by unfold bC;rw [if_pos rfl]
theorem ak {H:Hp} {a b:Addr} {o:HO} (h:b≠a):bC H a o b=H b:=by unfold bC;rw [if_neg h]
theorem bb {H:Hp} {a b:Addr} {o u:HO} (h:H a=some o) (h':H b=some u) (d:o≠u):a≠b:=by
 intro e;subst e;rw [h] at h';exact d (Option.some.inj h')
theorem aw {H:Hp} {a b:Addr} {o:HO} (h:H a=some o) (h':H b=none):a≠b:=by
 intro e;subst e;rw [h] at h';cases h'
section
variable (P:Program) (w:World)
def f7 (H:Hp) (h:Heap) (a:Addr):HO→Prop
 | .lst xs=>xs.length≤sizeLine∧∃(its:List Value) (n:Nat),bw xs its∧h.get? a=some {cls:= .type "list",data:= .seq its.toArray n}
 | .tup xs=>xs.length≤sizeLine∧∃its:List Value,bw xs its∧IsTup h a its.toArray
 | .dK kvs=>kvs.length≤sizeLine∧(a==sysModules)=false∧∃vs,KV kvs vs∧h.DictOf (jL P w) a vs
 | .dT kvs=>kvs.length≤sizeLine∧(a==sysModules)=false∧∃xs:List (List vo×Addr×Value),
   Paired (fun(p:List vo×V) (q:List vo×Addr×Value)=>p.1=q.1∧H q.2.1=some (.tup (p.1.map kV))∧cj p.2 q.2.2) kvs xs∧
   ∃o es ep,h.get? a=some o∧o.ExactDict∧o.data= .dict es ep∧es.toList=xs.map (entryOfKey (tupleKind (jL P w)))∧(xs.map (·.1)).Nodup
 | .set S n=>h.SetOf (intKind P w) a S n
 | .ins C dx fs=>H dx=some (.own a)∧fs.length≤1000∧dx≠a∧h.get? a=some (PySem.W.instObj C dx)∧
   ∃mA,h.Ns1 dx mA∧(∀f,su (fs.lookup f) (mA f))∧PySem.Within mA (fs.map (·.1))
 | .own _=>∃o,h.get? a=some o
 | .xd fs=>∃mA,h.Ns1 a mA∧∀f,su (fs.lookup f) (mA f)
 | .rng lo hi=>∃t u v,h.get? a=some {cls:= .type "range",data:= .fields #[.int lo t,.int hi u,.int 1 v]}
 | .frz o u=>h.get? a=some o∧f7 H h a u
 | .tbl ps=>h.get? a=some {cls:= .none,data:= .fields ps}
 | .met f x=>h.get? a=some (PySem.W.methodObj (.ref f) (.ref x))
 | .ext φ=>φ h∧(∃o,h.get? a=some o)∧∀h1 h2:Heap,φ h1→(∀o,h1.get? a=some o→h2.get? a=some o)→φ h2
def sr (H:Hp) (h:Heap):Prop:=∀a o,H a=some o→f7 P w H h a o
end
section
variable {P:Program} {w:World} {H H':Hp} {h h':Heap} {a:Addr} {o:HO}
theorem f7.lt (x:f7 P w H h a o):a<h.objs.size:=by
 cases o with
 | lst xs=>obtain⟨_,_,_,_,e⟩:=x;exact Heap.lt_size e
 | tup xs=>obtain⟨_,_,_,p⟩:=x;exact p.lt
 | dK kvs=>obtain⟨_,_,_,_,o,_,_,e,_⟩:=x;exact Heap.lt_size e
 | dT kvs=>obtain⟨_,_,_,_,o,_,_,e,_⟩:=x;exact Heap.lt_size e
 | set S n=>obtain⟨o,_,_,_,e,_⟩:=x;exact Heap.lt_size e
 | ins C dx fs=>obtain⟨_,_,_,e,_⟩:=x;exact Heap.lt_size e
 | own y=>obtain⟨_,e⟩:=x;exact Heap.lt_size e
 | xd fs=>obtain⟨_,⟨_,_,_,e,_⟩,_⟩:=x;exact Heap.lt_size e
 | rng lo hi=>obtain⟨_,_,_,e⟩:=x;exact Heap.lt_size e
 | frz ob u=>obtain⟨e,_⟩:=x;exact Heap.lt_size e
 | tbl ps=>exact Heap.lt_size (show h.get? a=some _ from x)
 | met f y=>exact Heap.lt_size (show h.get? a=some _ from x)
 | ext φ=>obtain⟨_,⟨_,e⟩,_⟩:=x;exact Heap.lt_size e
theorem Paired.mapP {α β:Type} {F G:α→β→Prop}:∀{l₁:List α} {l₂:List β},Paired F l₁ l₂→(∀a b,F a b→G a b)→Paired G l₁ l₂
 | _,_,.nil,_=> .nil
 | _,_,.cons r t,f=> .cons (f _ _ r) (Paired.mapP t f)
theorem f7.stay (x:f7 P w H h a o) (k:∀b u,(b=a∨H b=some (.own a))→h.get? b=some u→h'.get? b=some u)
  (ho:∀b,H b=some (.own a)→H' b=some (.own a)) (ht:∀b xs,H b=some (.tup xs)→H' b=some (.tup xs)):f7 P w H' h' a o:=by
 induction o with
 | lst xs=>obtain⟨z,its,n,r,e⟩:=x;exact⟨z,its,n,r,k _ _ (.inl rfl) e⟩
 | tup xs=>obtain⟨z,its,r,ob,e,c⟩:=x;exact⟨z,its,r,ob,k _ _ (.inl rfl) e,c⟩
 | dK kvs=>obtain⟨z,y,vs,r,ob,es,ep,e,c⟩:=x;exact⟨z,y,vs,r,ob,es,ep,k _ _ (.inl rfl) e,c⟩
 | dT kvs=>
  obtain⟨z,y,xs,r,ob,es,ep,e,c⟩:=x
  exact⟨z,y,xs,Paired.mapP r fun p q z=>⟨z.1,ht _ _ z.2.1,z.2.2⟩,ob,es,ep,k _ _ (.inl rfl) e,c⟩
 | set S n=>obtain⟨ob,es,ep,t,e,c⟩:=x;exact⟨ob,es,ep,t,k _ _ (.inl rfl) e,c⟩
 | ins C dx fs=>
  obtain⟨d,z,ne,e,mA,⟨od,es,ep,e2,c⟩,r⟩:=x
  exact⟨ho _ d,z,ne,k _ _ (.inl rfl) e,mA,⟨od,es,ep,k _ _ (.inr d) e2,c⟩,r⟩
 | own y=>obtain⟨ob,e⟩:=x;exact⟨ob,k _ _ (.inl rfl) e⟩
 | xd fs=>obtain⟨mA,⟨od,es,ep,e,c⟩,r⟩:=x;exact⟨mA,⟨od,es,ep,k _ _ (.inl rfl) e,c⟩,r⟩
 | rng lo hi=>obtain⟨t,u,v,e⟩:=x;exact⟨t,u,v,k _ _ (.inl rfl) e⟩
 | frz ob u ih=>obtain⟨e,q⟩:=x;exact⟨k _ _ (.inl rfl) e,ih q⟩
 | tbl ps=>
  have e:h.get? a=some {cls:= .none,data:= .fields ps}:=x
  show h'.get? a=some {cls:= .none,data:= .fields ps}
  exact k a _ (.inl rfl) e
 | met f y=>
  have e:h.get? a=some (PySem.W.methodObj (.ref f) (.ref y)):=x
  show h'.get? a=some (PySem.W.methodObj (.ref f) (.ref y))
  exact k a _ (.inl rfl) e
 | ext φ=>obtain⟨p,⟨o,e⟩,st⟩:=x;exact⟨st _ _ p fun o q=>k _ _ (.inl rfl) q,⟨o,k _ _ (.inl rfl) e⟩,st⟩
theorem sr.lt (x:sr P w H h) (e:H a=some o):a<h.objs.size:=(x a o e).lt
theorem sr.fresh (x:sr P w H h) (e:h.objs.size≤a):H a=none:=by
 cases q:H a with
 | none=>rfl
 | some u=>exact absurd (Nat.lt_of_lt_of_le (x.lt q) e) (Nat.lt_irrefl _)
theorem sr.kept (x:sr P w H h) (k:∀b u,h.get? b=some u→h'.get? b=some u):sr P w H h':=fun a o e=>
 (x a o e).stay (fun b u _ q=>k b u q) (fun _ q=>q) fun _ _ q=>q
theorem sr.laid (x:sr P w H h) (k:∀b u,h.get? b=some u→h'.get? b=some u) (hp:h.objs.size≤a) (new:f7 P w (bC H a o) h' a o):sr P w (bC H a o) h':=fun b u e=>by
 have hn:=x.fresh hp
 by_cases hb:b=a
 ·subst hb;rw [af] at e;cases e;exact new
 ·rw [ak hb] at e
  exact(x b u e).stay (fun c v _ q=>k c v q) (fun c q=>by rw [ak (aw q hn)];exact q) fun c xs q=>by rw [ak (aw q hn)];exact q
end
def Rd (H:Hp) (a:Addr) (u:HO):Prop:=H a=some u∨∃o,H a=some (.frz o u)
theorem Rd.ok {P:Program} {w:World} {H:Hp} {h:Heap} {a:Addr} {u:HO} (r:Rd H a u) (x:sr P w H h):f7 P w H h a u:=by
 rcases r with r | ⟨o,r⟩
 ·exact x a u r
 ·obtain⟨_,q⟩:=x a _ r
  exact q
def Ma:Option HO→Prop
 | some (.lst _)=>True
 | some (.dK _)=>True
 | some (.dT _)=>True
 | some (.set _ _)=>True
 | some (.ins _ _ _)=>True
 | some (.ext _)=>True
 | _=>False
section
variable {P:Program} {w:World} {H:Hp} {h h':Heap} {x e:Addr} {o':HO}
theorem sr.write (ok:sr P w H h) (mu:Ma (H x)) (he:e=x∨H e=some (.own x)) (k:∀b u,b≠e→h.get? b=some u→h'.get? b=some u) (heo:∃u,h'.get? e=some u)
  (new:f7 P w (bC H x o') h' x o'):sr P w (bC H x o') h':=fun b u q=>by
 have nown:∀c y,H c=some (.own y)→c≠x:=fun c y r z=>by subst z;rw [r] at mu;exact mu
 have ntup:∀c xs,H c=some (.tup xs)→c≠x:=fun c xs r z=>by subst z;rw [r] at mu;exact mu
 by_cases hb:b=x
 ·subst hb;rw [af] at q;cases q;exact new
 ·rw [ak hb] at q
  by_cases hbe:b=e
  ·have q':H b=some (.own x):=by
    rcases he with z | z
    ·exact absurd (hbe.trans z) hb
    ·rw [hbe];exact z
   rw [q] at q';cases q'
   obtain⟨v,hv⟩:=heo
   exact⟨v,by rw [hbe];exact hv⟩
  ·refine(ok b u q).stay (fun c v hc r=>k c v ?_ r) (fun c r=>by rw [ak (nown c b r)];exact r) fun c xs r=>by rw [ak (ntup c xs r)];exact r
   rcases hc with rfl | hc
   ·exact hbe
   ·rintro rfl
    rcases he with z | z
    ·exact nown c b hc z
    ·rw [hc] at z;cases z;exact hb rfl
end
structure Un (fs ex:List Addr) (H H':Hp) (h h':Heap):Prop where
 keep:∀b o,h.get? b=some o→H b=none→b ∉ fs→b ∉ ex→h'.get? b=some o
 slot:∀b o,h.get? b=some o→H b=none→b∈fs→b ∉ ex→∃sl,h'.get? b=some {o with slots:=sl}
 free:∀b o,h.get? b=some o→H b=none→b ∉ ex→H' b=none
 there:∀b o,h.get? b=some o→b ∉ ex→∃o',h'.get? b=some o'
 tups:∀b xs,H b=some (.tup xs)→H' b=some (.tup xs)
 frzs:∀b o u,H b=some (.frz o u)→H' b=some (.frz o u)
 tbls:∀b ps,H b=some (.tbl ps)→∃more,H' b=some (.tbl (ps++more))
section
variable {fs fs' ex ex':List Addr} {H H1 H2:Hp} {h h1 h2 h':Heap} {a x e:Addr} {o:HO}
theorem Un.any (u:Un fs ex H H1 h h1) {b:Addr} {ob:Obj} (q:h.get? b=some ob) (n:H b=none) (hx:b ∉ ex):∃sl,h1.get? b=some {ob with slots:=sl}:=by
 by_cases hb:b∈fs
 ·exact u.slot b ob q n hb hx
 ·exact⟨ob.slots,u.keep b ob q n hb hx⟩
theorem Un.kept (k:∀b u,h.get? b=some u→h'.get? b=some u):Un fs ex H H h h':=
 ⟨fun b ob q _ _ _=>k b ob q,fun b ob q _ _ _=>⟨ob.slots,k b ob q⟩,fun _ _ _ n _=>n,fun b ob q _=>⟨ob,k b ob q⟩,fun _ _ q=>q,fun _ _ _ q=>q,fun _ ps q=>⟨#[],by rw [q];simp⟩⟩
theorem Un.refl:Un fs ex H H h h:=Un.kept fun _ _ q=>q
theorem Un.laid (k:∀b u,h.get? b=some u→h'.get? b=some u) (hp:h.objs.size≤a) (hn:H a=none):Un fs ex H (bC H a o) h h' where
 keep:=fun b u q _ _ _=>k b u q
 slot:=fun b u q _ _ _=>⟨u.slots,k b u q⟩
 free:=fun b u q n _=>by rw [ak (Nat.ne_of_lt (Nat.lt_of_lt_of_le (Heap.lt_size q) hp))];exact n
 there:=fun b u q _=>⟨u,k b u q⟩
 tups:=fun b xs q=>by rw [ak (aw q hn)];exact q
 frzs:=fun b u xs q=>by rw [ak (aw q hn)];exact q
 tbls:=fun b ps q=>⟨#[],by rw [ak (aw q hn),q];simp⟩
theorem Un.write (mu:Ma (H x)) (he:e=x∨H e=some (.own x)) (k:∀b u,b≠e→h.get? b=some u→h'.get? b=some u) (heo:∃u,h'.get? e=some u):Un fs ex H (bC H x o) h h':=by
 have hx:∀b,H b=none→b≠x:=fun b n z=>by subst z;rw [n] at mu;exact mu
 have hb:∀b,H b=none→b≠e:=fun b n z=>by
  subst z
  rcases he with r | r
  ·exact hx b n r
  ·rw [n] at r;cases r
 have hm:∀b u,H b=some u→¬Ma (some u)→b≠x:=fun b u q nm z=>by subst z;rw [q] at mu;exact nm mu
 refine⟨fun b u q n _ _=>k b u (hb b n) q,fun b u q n _ _=>⟨u.slots,k b u (hb b n) q⟩,fun b u q n _=>by rw [ak (hx b n)];exact n,fun b u q _=> ?_,
  fun b xs q=>by rw [ak (hm b _ q fun z=>z)];exact q,fun b u xs q=>by rw [ak (hm b _ q fun z=>z)];exact q,fun b ps q=>⟨#[],by rw [ak (hm b _ q fun z=>z),q];simp⟩⟩
 by_cases hbe:b=e
 ·subst hbe;exact heo
 ·exact⟨u,k b u hbe q⟩
end
def Mg (h:Heap) (H:Hp):List Addr:=(List.range h.objs.size).filter fun a=>(H a).isSome
def BC (h:Heap) (H:Hp):Heap:=PySem.W.hideAll h (Mg h H)
theorem Gf (h:Heap) (H:Hp):(BC h H).objs.size=h.objs.size:=PySem.W.hideAll_size _ _
theorem HK {h:Heap} {H:Hp} {b:Addr} {o:Obj} (e:h.get? b=some o) (n:H b=none):(BC h H).get? b=some o:=
 PySem.W.hideAll_get _ e fun hm=>by
  have q:(H b).isSome=true:=(List.mem_filter.mp hm).2
  rw [n] at q;simp at q
theorem JC {h:Heap} {H:Hp} {b:Addr} {o:Obj} (e:(BC h H).get? b=some o):h.get? b=some o∧H b=none:=by
 have e':h.get? b=some o:=PySem.W.of_hideAll (Mg h H) e
 refine⟨e',?_⟩
 cases q:H b with
 | none=>rfl
 | some x=>
  have hm:b∈Mg h H:=List.mem_filter.mpr ⟨List.mem_range.mpr (Heap.lt_size e'),by simp [q]⟩
  have z:(BC h H).get? b=none:=PySem.W.hideAll_none (Mg h H) hm
  rw [z] at e;cases e
end L2
namespace L2
open PySem PySem.Spec PyProof.Rows
structure Mod (K:PySem.W.Frag) (mg:Str→Option Value) (base:Heap):Prop where
 kin:K.In base
 glob:base.Ns mainGlobals mg
 blt:∃mb,base.Ns builtinsNs mb∧∀x:Str,x≠"__name__"→mb x=bootBuiltins x
 nolimit:base.NoLimit
structure Cx where
 prog:Program
 w:World
 K:PySem.W.Frag
 mg:Str→Option Value
 base:Heap
 A:Around
 N:List Str
 s_0:Shared
 H_0:Hp
 env:Env
 outer:List Env
 stack:List Env
 ex:List Addr
 fn:Str→Bool
 calm:Bool
 pn:List (Addr×Obj)
 xe:Value→Shared→Prop
def HF (l:List Env):List Addr:=l.filterMap (·.frame)
abbrev Cx.fs (X:Cx):List Addr:=HF X.outer
def Kp (sc:Scope) (x:Str):Prop:=sc.names.lookup x=some .local∨sc.names.lookup x=some .cell∨sc.names.lookup x=some .free
def Km (sc:Scope) (x:Str):Prop:=sc.names.lookup x=some .local∨sc.names.lookup x=some .cell
def Mi (env:Env) (h:Heap) (m:Str→Option Value) (x:Str) (u:Value):Prop:=
 (env.kindOf x=some .local∧m x=some u)∨((env.kindOf x=some .cell∨env.kindOf x=some .free)∧∃c,env.cells.lookup x=some c∧h.IsCell c (some u))
structure Cx.Ok (X:Cx):Prop where
 mod:Mod X.K X.mg X.base
 kind:X.env.scope.kind= .function
 glob:X.env.globals=mainGlobals
 blt:X.env.builtins=builtinsNs
 above:X.s_0.heap.objs.size≤X.env.locals
 inj:∀x y c,X.env.cells.lookup x=some c→X.env.cells.lookup y=some c→x=y
 has:∀x,(X.env.kindOf x=some .cell∨X.env.kindOf x=some .free)→∃c,X.env.cells.lookup x=some c
 cab:∀x c,X.fn x=true→X.env.cells.lookup x=some c→X.s_0.heap.objs.size≤c
 hd:X.calm=true→X.A.handled=none
 frames:X.A.frames=some X.stack
 stk:X.stack=X.outer∨(X.stack=X.env::X.outer∧X.env.frame=some X.env.locals)
 exf:∀b∈X.ex,b≠X.env.locals∧∀x c,X.env.cells.lookup x=some c→c≠b
 bs:∀b o,X.base.get? b=some o→X.s_0.heap.get? b=some o∧X.H_0 b=none
 bsz:X.base.objs.size≤X.s_0.heap.objs.size
 noex:∀b o,X.base.get? b=some o→b ∉ X.ex
 exfs:∀b∈X.ex,b ∉ X.fs
 funs:X.s_0.heap.FunFrames X.base X.outer
 frf:∀b∈X.fs,X.H_0 b=none
structure a8 (X:Cx) (pins:List (Addr×Obj)) (σ:List (Option V)) (H:Hp) (s:Shared):Prop where
 ok:X.Ok
 os:s.os=X.s_0.os
 bare:AllBare s.gens
 base:Un X.fs X.ex X.H_0 H X.s_0.heap s.heap
 loc:∃m,s.heap.Ns X.env.locals m∧∀(i:Nat) (x:Str) (v:V),X.N[i]?=some x→σ[i]?=some (some v)→Kp X.env.scope x→∃u,cj v u∧Mi X.env s.heap m x u
 cell:∀x c,X.env.cells.lookup x=some c→∃v,s.heap.IsCell c v
 free:H X.env.locals=none
 freeC:∀x c,X.env.cells.lookup x=some c→H c=none
 pin:∀p∈X.pn++pins,s.heap.get? p.1=some p.2∧H p.1=none∧p.1≠X.env.locals∧p.1 ∉ X.fs∧∀v,p.2.data≠ .cell v
 hok:sr X.prog X.w H s.heap
 len:σ.length=X.N.length
section
variable {X:Cx} {pins:List (Addr×Obj)} {σ:List (Option V)} {H H':Hp} {s:Shared} {h':Heap}
theorem Cx.Ok.nofr (ok:X.Ok) {b:Addr} {o:Obj} (e:X.base.get? b=some o):b ∉ X.fs:=fun hb=>by
 have:=(ok.funs.mem hb).1
 rw [e] at this;cases this
theorem a8.bs (I:a8 X pins σ H s):∀b o,X.base.get? b=some o→s.heap.get? b=some o∧H b=none:=fun b o e=>
 ⟨I.base.keep b o (I.ok.bs b o e).1 (I.ok.bs b o e).2 (I.ok.nofr e) (I.ok.noex b o e),I.base.free b o (I.ok.bs b o e).1 (I.ok.bs b o e).2 (I.ok.noex b o e)⟩
theorem a8.bk (I:a8 X pins σ H s):∀b o,X.base.get? b=some o→s.heap.get? b=some o:=fun b o e=>(I.bs b o e).1
theorem a8.mod (I:a8 X pins σ H s):Mod X.K X.mg X.base:=I.ok.mod
theorem a8.kIn (I:a8 X pins σ H s):X.K.In s.heap:=I.ok.mod.kin.keeps I.bk
theorem a8.nolimit (I:a8 X pins σ H s):s.heap.NoLimit:=I.ok.mod.nolimit.keeps I.bk
theorem a8.fr (I:a8 X pins σ H s):∃m,Fr X.base X.env.locals s.heap m:=
 let ⟨m,hn,_⟩:=I.loc
 ⟨m,hn,I.bk,Nat.le_trans I.ok.bsz I.ok.above⟩
theorem a8.lt (I:a8 X pins σ H s):X.env.locals<s.heap.objs.size:=let ⟨_,hn,_⟩:=I.loc;hn.lt
theorem a8.sz (I:a8 X pins σ H s):X.s_0.heap.objs.size≤s.heap.objs.size:=Nat.le_trans I.ok.above (Nat.le_of_lt I.lt)
theorem a8.nofs (I:a8 X pins σ H s) {a:Addr} (h:s.heap.objs.size≤a):a ∉ X.fs:=fun hb=>by
 obtain⟨_,o,ho,_⟩:=I.ok.funs.mem hb
 exact absurd (Nat.lt_of_lt_of_le (Heap.lt_size ho) (Nat.le_trans I.sz h)) (Nat.lt_irrefl _)
theorem a8.cne (I:a8 X pins σ H s):∀x c,X.env.cells.lookup x=some c→c≠X.env.locals:=fun x c e z=>by
 obtain⟨v,o,ho,hd⟩:=I.cell x c e
 obtain⟨m,⟨o',es,ep,ho',hd',_⟩,_⟩:=I.loc
 rw [z,ho'] at ho;cases ho;rw [hd'] at hd;cases hd
theorem a8.funs (I:a8 X pins σ H s):s.heap.FunFrames X.base X.outer:=by
 have all:∀(l:List Env),(∀b∈HF l,b∈X.fs)→X.s_0.heap.FunFrames X.base l→s.heap.FunFrames X.base l:=by
  intro l
  induction l with
  | nil=>intro _ _;trivial
  | cons env r ih=>
   intro hs hl
   obtain⟨hk,⟨L,o,hf,hn,ho,hd⟩,hr⟩:=hl
   have hL:L∈X.fs:=hs L (by unfold HF;rw [List.filterMap_cons,hf];exact List.mem_cons_self)
   obtain⟨sl,e⟩:=I.base.slot L o ho (I.ok.frf L hL) hL fun z=>I.ok.exfs L z hL
   exact⟨hk,⟨L,_,hf,hn,e,hd⟩,ih (fun b hb=>hs b (by unfold HF;rw [List.filterMap_cons,hf];exact List.mem_cons_of_mem _ hb)) hr⟩
 exact all X.outer (fun _ hb=>hb) I.ok.funs
theorem a8.stack (I:a8 X pins σ H s):s.heap.FunFrames X.base X.stack:=by
 rcases I.ok.stk with e | ⟨e,hf⟩
 ·rw [e];exact I.funs
 ·rw [e]
  obtain⟨m,hn,_⟩:=I.loc
  refine .cons (by rw [I.ok.kind];decide) hf hn ?_ I.funs
  exact Heap.get?_none_of_le (Nat.le_trans I.ok.bsz I.ok.above)
theorem a8.stkSub (I:a8 X pins σ H s):∀b∈HF X.stack,b∈X.env.locals::X.fs:=fun b hb=>by
 rcases I.ok.stk with e | ⟨e,hf⟩
 ·rw [e] at hb;exact List.mem_cons_of_mem _ hb
 ·rw [e] at hb
  unfold HF at hb
  rw [List.filterMap_cons,hf] at hb
  exact hb
theorem a8.stkFree (I:a8 X pins σ H s):∀b∈HF X.stack,H b=none:=fun b hb=>by
 rcases List.mem_cons.mp (I.stkSub b hb) with e | hb
 ·rw [e];exact I.free
 ·obtain⟨_,o,ho,_⟩:=I.ok.funs.mem hb
  exact I.base.free b o ho (I.ok.frf b hb) fun z=>I.ok.exfs b z hb
theorem a8.step {g':Array GenState} {t':Nat} {d':Drawn} {ch:List Addr} (I:a8 X pins σ H s)
  (hch:∀b∈ch,(b∈X.ex∨X.s_0.heap.objs.size≤b)∧b≠X.env.locals∧(∀x c,X.env.cells.lookup x=some c→c≠b)∧∀p∈X.pn++pins,p.1≠b)
  (keep:∀b o,b≠X.env.locals→b ∉ X.fs→b ∉ ch→s.heap.get? b=some o→H b=none→h'.get? b=some o)
  (slot:∀b o,b≠X.env.locals→b∈X.fs→b ∉ ch→s.heap.get? b=some o→H b=none→∃sl,h'.get? b=some {o with slots:=sl}) (free:∀b o,b ∉ ch→s.heap.get? b=some o→H b=none→H' b=none)
  (there:∀b o,b ∉ ch→s.heap.get? b=some o→∃o',h'.get? b=some o')
  (tups:∀b xs,H b=some (.tup xs)→H' b=some (.tup xs)) (frzs:∀b o u,H b=some (.frz o u)→H' b=some (.frz o u)) (tbls:∀b ps,H b=some (.tbl ps)→∃more,H' b=some (.tbl (ps++more)))
  (ns:∀m,s.heap.Ns X.env.locals m→h'.Ns X.env.locals m) (hok:sr X.prog X.w H' h') (hg:AllBare g'):
  a8 X pins σ H' {s with heap:=h',gens:=g',drawn:=d',toks:=t'}:=by
 have neL:∀b o,X.s_0.heap.get? b=some o→b≠X.env.locals:=fun b o e=>Nat.ne_of_lt (Nat.lt_of_lt_of_le (Heap.lt_size e) I.ok.above)
 have neC:∀b o,X.s_0.heap.get? b=some o→b ∉ X.ex→b ∉ ch:=fun b o e hx hb=>by
  rcases (hch b hb).1 with z | z
  ·exact hx z
  ·exact absurd (Nat.lt_of_lt_of_le (Heap.lt_size e) z) (Nat.lt_irrefl _)
 have cellK:∀x c,X.env.cells.lookup x=some c→∀v,s.heap.IsCell c v→h'.IsCell c v:=fun x c e v ⟨o,ho,hd⟩=>by
  have nch:c ∉ ch:=fun z=>(hch c z).2.2.1 x c e rfl
  by_cases hc:c∈X.fs
  ·obtain⟨sl,q⟩:=slot c o (I.cne x c e) hc nch ho (I.freeC x c e)
   exact⟨_,q,hd⟩
  ·exact⟨o,keep c o (I.cne x c e) hc nch ho (I.freeC x c e),hd⟩
 refine⟨I.ok,I.os,hg,⟨fun b o e n hb hx=> ?_,fun b o e n hb hx=> ?_,fun b o e n hx=> ?_,fun b o e hx=> ?_,fun b xs e=>tups b xs (I.base.tups b xs e),fun b o xs e=>frzs b o xs (I.base.frzs b o xs e),fun b ps e=> ?_⟩,?_,fun x c e=> ?_,?_,fun x c e=> ?_,fun p hp=> ?_,hok,I.len⟩
 ·exact keep b o (neL b o e) hb (neC b o e hx) (I.base.keep b o e n hb hx) (I.base.free b o e n hx)
 ·obtain⟨sl,e1⟩:=I.base.slot b o e n hb hx
  obtain⟨sl',e2⟩:=slot b _ (neL b o e) hb (neC b o e hx) e1 (I.base.free b o e n hx)
  exact⟨sl',e2⟩
 ·obtain⟨o',e1⟩:=I.base.there b o e hx
  exact free b o' (neC b o e hx) e1 (I.base.free b o e n hx)
 ·obtain⟨o',e1⟩:=I.base.there b o e hx
  exact there b o' (neC b o e hx) e1
 ·obtain⟨m1,e1⟩:=I.base.tbls b ps e
  obtain⟨m2,e2⟩:=tbls b _ e1
  exact⟨m1++m2,by rw [e2,Array.append_assoc]⟩
 ·obtain⟨m,hn,hl⟩:=I.loc
  refine⟨m,ns m hn,fun i x v e1 e2 e3=> ?_⟩
  obtain⟨u,r,l⟩:=hl i x v e1 e2 e3
  refine⟨u,r,?_⟩
  rcases l with l | ⟨k,c,e,z⟩
  ·exact .inl l
  ·exact .inr ⟨k,c,e,cellK x c e _ z⟩
 ·obtain⟨v,z⟩:=I.cell x c e
  exact⟨v,cellK x c e v z⟩
 ·obtain⟨m,⟨o,_,_,ho,_⟩,_⟩:=I.loc
  exact free _ o (fun z=>(hch _ z).2.1 rfl) ho I.free
 ·obtain⟨v,o,ho,hd⟩:=I.cell x c e
  exact free c o (fun z=>(hch c z).2.2.1 x c e rfl) ho (I.freeC x c e)
 ·obtain⟨e,n,ne,nf,d⟩:=I.pin p hp
  have nch:p.1 ∉ ch:=fun z=>(hch p.1 z).2.2.2 p hp rfl
  exact⟨keep p.1 p.2 ne nf nch e n,free p.1 p.2 nch e n,ne,nf,d⟩
theorem a8.un {t':Nat} (I:a8 X pins σ H s) (u:Un X.fs [] H H' s.heap h') (hok:sr X.prog X.w H' h'):a8 X pins σ H' {s with heap:=h',toks:=t'}:=by
 obtain⟨m,⟨o,es,ep,ho,r⟩,_⟩:=id I.loc
 obtain⟨sl,hL⟩:=u.any ho I.free (by simp)
 exact I.step (g':=s.gens) (d':=s.drawn) (ch:= []) (fun _ z=>nomatch z) (fun b o _ hb _ e n=>u.keep b o e n hb (by simp)) (fun b o _ hb _ e n=>u.slot b o e n hb (by simp)) (fun b o _ e n=>u.free b o e n (by simp)) (fun b o _ e=>u.there b o e (by simp)) u.tups u.frzs u.tbls (fun m' hm=>by
  obtain⟨o',es',ep',ho',r'⟩:=hm
  rw [ho] at ho';cases ho'
  exact⟨_,es',ep',hL,r'⟩) hok I.bare
theorem a8.call {g':Array GenState} {t':Nat} {d':Drawn} {ch:List Addr} (I:a8 X pins σ H s) (u:Un (HF X.stack) ch H H' s.heap h') (hok:sr X.prog X.w H' h') (hg:AllBare g')
  (hch:∀b∈ch,(b∈X.ex∨X.s_0.heap.objs.size≤b)∧b≠X.env.locals∧(∀x c,X.env.cells.lookup x=some c→c≠b)∧∀p∈X.pn++pins,p.1≠b):
  a8 X pins σ H' {s with heap:=h',gens:=g',drawn:=d',toks:=t'}:=by
 obtain⟨m,⟨o,es,ep,ho,r⟩,_⟩:=id I.loc
 obtain⟨sl,hL⟩:=u.any ho I.free fun z=>(hch _ z).2.1 rfl
 exact I.step (ch:=ch) hch (fun b o hL hb hc e n=>u.keep b o e n (fun z=>(List.mem_cons.mp (I.stkSub b z)).elim hL hb) hc) (fun b o _ _ hc e n=>u.any e n hc) (fun b o hc e n=>u.free b o e n hc) (fun b o hc e=>u.there b o e hc) u.tups u.frzs u.tbls (fun m' hm=>by
  obtain⟨o',es',ep',ho',r'⟩:=hm
  rw [ho] at ho';cases ho'
  exact⟨_,es',ep',hL,r'⟩) hok hg
theorem a8.turned {t':Nat} {it:Addr} (I:a8 X pins σ H s) (k:∀b o,b≠it→s.heap.get? b=some o→h'.get? b=some o) (hn:H it=none) (hL:it≠X.env.locals)
  (h1:it∈X.ex∨X.s_0.heap.objs.size≤it) (h2:∀x c,X.env.cells.lookup x=some c→c≠it) (h3:∀p∈X.pn++pins,p.1≠it):a8 X pins σ H {s with heap:=h',toks:=t'}:=by
 have nit:∀b u,H b=some u→b≠it:=fun b u e z=>by rw [z,hn] at e;cases e
 refine I.step (g':=s.gens) (d':=s.drawn) (ch:= [it]) (fun b hb=> ?_) (fun b o _ _ hc e _=>k b o (fun z=>hc (by simp [z])) e) (fun b o _ _ hc e _=>⟨o.slots,k b o (fun z=>hc (by simp [z])) e⟩) (fun _ _ _ _ n=>n)
  (fun b o hc e=>⟨o,k b o (fun z=>hc (by simp [z])) e⟩) (fun _ _ e=>e) (fun _ _ _ e=>e) (fun b ps e=>⟨#[],by rw [e];simp⟩) (fun m hm=> ?_) (fun b u e=> ?_) I.bare
 ·have e:b=it:=by simpa using hb
  subst e
  exact⟨h1,hL,h2,h3⟩
 ·obtain⟨o,es,ep,ho,r⟩:=hm
  exact⟨o,es,ep,k _ o (Ne.symm hL) ho,r⟩
 ·refine(I.hok b u e).stay (fun c v hc q=>k c v ?_ q) (fun _ q=>q) fun _ _ q=>q
  rcases hc with z | z
  ·rw [z];exact nit b u e
  ·exact nit c _ z
theorem a8.tok (I:a8 X pins σ H s) (t:Nat):a8 X pins σ H {s with toks:=t}:=I.un (h':=s.heap) (t':=t) Un.refl I.hok
theorem a8.kept {t':Nat} (I:a8 X pins σ H s) (k:∀b u,s.heap.get? b=some u→h'.get? b=some u):a8 X pins σ H {s with heap:=h',toks:=t'}:=I.un (Un.kept k) (I.hok.kept k)
theorem a8.laid {a:Addr} {o:HO} {t':Nat} (I:a8 X pins σ H s) (k:∀b u,s.heap.get? b=some u→h'.get? b=some u) (hp:s.heap.objs.size≤a) (new:f7 X.prog X.w (bC H a o) h' a o):
  a8 X pins σ (bC H a o) {s with heap:=h',toks:=t'}:=I.un (Un.laid k hp (I.hok.fresh hp)) (I.hok.laid k hp new)
theorem a8.write {x e:Addr} {o:HO} {t':Nat} (I:a8 X pins σ H s) (mu:Ma (H x)) (he:e=x∨H e=some (.own x)) (k:∀b u,b≠e→s.heap.get? b=some u→h'.get? b=some u) (heo:∃u,h'.get? e=some u)
  (new:f7 X.prog X.w (bC H x o) h' x o):a8 X pins σ (bC H x o) {s with heap:=h',toks:=t'}:=I.un (Un.write mu he k heo) (I.hok.write mu he k heo new)
theorem a8.weak {σ':List (Option V)} (I:a8 X pins σ H s) (hl:σ'.length=σ.length) (w:∀(i:Nat) v,σ'[i]?=some (some v)→σ[i]?=some (some v)):a8 X pins σ' H s:=
 ⟨I.ok,I.os,I.bare,I.base,let ⟨m,hn,hl'⟩:=I.loc;⟨m,hn,fun i x v e1 e2 e3=>hl' i x v e1 (w i v e2) e3⟩,I.cell,I.free,I.freeC,I.pin,I.hok,hl.trans I.len⟩
theorem a8.pins_of {pins':List (Addr×Obj)} (I:a8 X pins σ H s) (h:∀p∈pins',s.heap.get? p.1=some p.2∧H p.1=none∧p.1≠X.env.locals∧p.1 ∉ X.fs∧∀v,p.2.data≠ .cell v):a8 X pins' σ H s:=
 ⟨I.ok,I.os,I.bare,I.base,I.loc,I.cell,I.free,I.freeC,fun p hp=>(List.mem_append.mp hp).elim (fun z=>I.pin p (List.mem_append_left _ z)) (h p),I.hok,I.len⟩
theorem yO {N:List Str} (hN:N.Nodup) {i j:Nat} {x:Str} (a:N[i]?=some x) (b:N[j]?=some x):i=j:=by
 obtain⟨h1,e1⟩:=List.getElem?_eq_some_iff.mp a
 obtain⟨h2,e2⟩:=List.getElem?_eq_some_iff.mp b
 exact(List.getElem_inj hN).mp (e1.trans e2.symm)
theorem Bm {M:Model} {A:Around} {E:Value→Shared→Prop} {i:Nat} {x:Str} {v:V} {u:Value} {Q:Unit→Shared→Prop} (I:a8 X pins σ H s) (hN:X.N.Nodup) (hi:X.N[i]?=some x) (hx:Km X.env.scope x) (r:cj v u)
  (h:∀s',a8 X pins (σ.set i (some v)) H s'→(∃a,Heap.SameBut a s.heap s'.heap∧(a=X.env.locals∨X.env.cells.lookup x=some a))→Q () s') (hf:X.fn x=true∨X.env.scope.names.lookup x=some .local:=by first | exact .inl rfl | exact .inr rfl | assumption):wpAny M A (storeName X.env x u) Q E s:=by
 obtain⟨m,hn,hl⟩:=id I.loc
 have hcls:(X.env.scope.kind== .class || (X.env.scope.kind== .module && X.env.locals !=X.env.globals))=false:=by rw [I.ok.kind];rfl
 have hiσ:i<σ.length:=by rw [I.len];exact(List.getElem?_eq_some_iff.mp hi).1
 have cne:=I.cne
 have tracked:∀{a:Addr} {h':Heap},(∃o,s.heap.get? a=some o∧H a=none)→Heap.SameBut a s.heap h'→sr X.prog X.w H h':=fun {a h'} ha hs b ob e=>by
  obtain⟨_,_,hfree⟩:=ha
  refine(I.hok b ob e).stay (fun c w' hc q=>(hs.2 c ?_).trans q) (fun _ q=>q) fun _ _ q=>q
  rintro rfl
  rcases hc with rfl | hc
  ·rw [hfree] at e;cases e
  ·rw [hfree] at hc;cases hc
 rcases hx with hk | hk
 ·refine wpAny_storeName_local hk hn (fun h' hn' hs=> ?_) hcls
  obtain⟨oL,_,_,hoL,_⟩:=id hn
  refine h _ ⟨I.ok,I.os,I.bare,⟨fun b o e n hb hx=> ?_,fun b o e n hb hx=> ?_,I.base.free,fun b o e hx=> ?_,I.base.tups,I.base.frzs,I.base.tbls⟩,⟨_,hn',fun j y v' e1 e2 e3=> ?_⟩,fun y c e=> ?_,I.free,I.freeC,fun p hp=> ?_,tracked ⟨oL,hoL,I.free⟩ hs,by simpa using I.len⟩ ⟨_,hs,.inl rfl⟩
  ·exact(hs.2 b (Nat.ne_of_lt (Nat.lt_of_lt_of_le (Heap.lt_size e) I.ok.above))).trans (I.base.keep b o e n hb hx)
  ·obtain⟨sl,e1⟩:=I.base.slot b o e n hb hx
   exact⟨sl,(hs.2 b (Nat.ne_of_lt (Nat.lt_of_lt_of_le (Heap.lt_size e) I.ok.above))).trans e1⟩
  ·obtain⟨o',e1⟩:=I.base.there b o e hx
   exact⟨o',(hs.2 b (Nat.ne_of_lt (Nat.lt_of_lt_of_le (Heap.lt_size e) I.ok.above))).trans e1⟩
  ·by_cases hj:j=i
   ·subst hj
    rw [hi] at e1;cases e1
    rw [List.getElem?_set_self hiσ] at e2
    cases e2
    exact⟨u,r,.inl ⟨hk,by simp⟩⟩
   ·rw [List.getElem?_set_ne (Ne.symm hj)] at e2
    obtain⟨u',r',q⟩:=hl j y v' e1 e2 e3
    refine⟨u',r',?_⟩
    rcases q with⟨k,e⟩ | ⟨k,c,e,z⟩
    ·refine .inl ⟨k,?_⟩
     have:y≠x:=fun e=>hj (yO hN e1 (e▸hi))
     simp [this,e]
    ·exact .inr ⟨k,c,e,z.sameBut hs (cne y c e)⟩
  ·obtain⟨w',z⟩:=I.cell y c e
   exact⟨w',z.sameBut hs (cne y c e)⟩
  ·obtain⟨e,n,ne,nf,d⟩:=I.pin p hp
   exact⟨(hs.2 p.1 ne).trans e,n,ne,nf,d⟩
 ·have hfn:X.fn x=true:=by
   rcases hf with z | z
   ·exact z
   ·rw [z] at hk;cases hk
  obtain⟨c,hc⟩:=I.ok.has x (.inl hk)
  obtain⟨w',z⟩:=I.cell x c hc
  refine wpAny_storeName_cell I.ok.kind hk hc z (fun h' hc' hs=> ?_)
  obtain⟨oc,hoc,hocd⟩:=id z
  refine h {s with heap:=h'} ⟨I.ok,I.os,I.bare,⟨fun b o e n hb hx=> ?_,fun b o e n hb hx=> ?_,I.base.free,fun b o e hx=> ?_,I.base.tups,I.base.frzs,I.base.tbls⟩,⟨m,hn.sameBut hs (Ne.symm (cne x c hc)),fun j y v' e1 e2 e3=> ?_⟩,fun y c' e=> ?_,I.free,I.freeC,fun p hp=> ?_,tracked ⟨oc,hoc,I.freeC x c hc⟩ hs,by simpa using I.len⟩ ⟨c,hs,.inr hc⟩
  ·exact(hs.2 b (Nat.ne_of_lt (Nat.lt_of_lt_of_le (Heap.lt_size e) (I.ok.cab x c hfn hc)))).trans (I.base.keep b o e n hb hx)
  ·obtain⟨sl,e1⟩:=I.base.slot b o e n hb hx
   exact⟨sl,(hs.2 b (Nat.ne_of_lt (Nat.lt_of_lt_of_le (Heap.lt_size e) (I.ok.cab x c hfn hc)))).trans e1⟩
  ·obtain⟨o',e1⟩:=I.base.there b o e hx
   exact⟨o',(hs.2 b (Nat.ne_of_lt (Nat.lt_of_lt_of_le (Heap.lt_size e) (I.ok.cab x c hfn hc)))).trans e1⟩
  ·by_cases hj:j=i
   ·subst hj
    rw [hi] at e1;cases e1
    rw [List.getElem?_set_self hiσ] at e2
    cases e2
    exact⟨u,r,.inr ⟨.inl hk,c,hc,hc'⟩⟩
   ·rw [List.getElem?_set_ne (Ne.symm hj)] at e2
    obtain⟨u',r',q⟩:=hl j y v' e1 e2 e3
    refine⟨u',r',?_⟩
    rcases q with q | ⟨k,c',e,z'⟩
    ·exact .inl q
    ·refine .inr ⟨k,c',e,z'.sameBut hs ?_⟩
     rintro rfl
     exact hj (yO hN e1 (I.ok.inj _ _ _ e hc▸hi))
  ·by_cases hcc:c'=c
   ·subst hcc;exact⟨_,hc'⟩
   ·obtain⟨w2,z2⟩:=I.cell y c' e
    exact⟨w2,z2.sameBut hs hcc⟩
  ·obtain⟨e,n,ne,nf,d⟩:=I.pin p hp
   refine⟨(hs.2 p.1 ?_).trans e,n,ne,nf,d⟩
   intro q
   rw [q,hoc] at e
   have q':oc=p.2:=Option.some.inj e
   exact d w' (by rw [←q'];exact hocd)
theorem zT {M:Model} {A:Around} {E:Value→Shared→Prop} {i:Nat} {x:Str} {v:V} {u:Value} {Q:Unit→Shared→Prop} (I:a8 X pins σ H s) (hN:X.N.Nodup) (hi:X.N[i]?=some x) (hx:Km X.env.scope x) (r:cj v u)
  (h:∀s',a8 X pins (σ.set i (some v)) H s'→Q () s') (hf:X.fn x=true∨X.env.scope.names.lookup x=some .local:=by first | exact .inl rfl | exact .inr rfl | assumption):wpAny M A (storeName X.env x u) Q E s:=
 Bm I hN hi hx r (fun s' I' _=>h s' I') hf
theorem a8.call' {s':Shared} {ch:List Addr} (I:a8 X pins σ H s) (ho:s'.os=s.os) (u:Un (HF X.stack) ch H H' s.heap s'.heap) (hok:sr X.prog X.w H' s'.heap) (hg:AllBare s'.gens)
  (hch:∀b∈ch,(b∈X.ex∨X.s_0.heap.objs.size≤b)∧b≠X.env.locals∧(∀x c,X.env.cells.lookup x=some c→c≠b)∧∀p∈X.pn++pins,p.1≠b):a8 X pins σ H' s':=by
 obtain⟨h',g',d',t',o'⟩:=s'
 have e:o'=s.os:=ho
 subst e
 exact I.call (g':=g') (t':=t') (d':=d') u hok hg hch
end
abbrev XK:=Value→Option Addr→Hp→Prop
abbrev St:=List (Option V)
abbrev VK:=V→Hp→Prop
abbrev TE:=St→Hp→VK→Prop
abbrev TT:=St→Hp→(Bool→Hp→Prop)→Prop
abbrev TA:=St→Hp→(List V→Hp→Prop)→Prop
structure Cw where
 nx:St→Hp→Prop
 rt:VK
 bk:St→Hp→Prop:=fun _ _=>False
 ct:St→Hp→Prop:=fun _ _=>False
abbrev TS:=Cw→St→Hp→Prop
def EP (X:Cx) (pins:List (Addr×Obj)) (σ:St) (Q:VK) (u:Value) (s':Shared):Prop:=∃v H',a8 X pins σ H' s'∧cj v u∧Q v H'
def TP (X:Cx) (pins:List (Addr×Obj)) (σ:St) (Q:Bool→Hp→Prop) (b:Bool) (s':Shared):Prop:=∃H',a8 X pins σ H' s'∧Q b H'
def AP (X:Cx) (pins:List (Addr×Obj)) (σ:St) (Q:List V→Hp→Prop) (us:List Value) (s':Shared):Prop:=∃vs H',a8 X pins σ H' s'∧bw vs us∧Q vs H'
def SP (X:Cx) (pins:List (Addr×Obj)) (D:Cw) (f:Flow) (s':Shared):Prop:=
 match f with
 | .next=>∃σ' H',a8 X pins σ' H' s'∧D.nx σ' H'
 | .brk=>∃σ' H',a8 X pins σ' H' s'∧D.bk σ' H'
 | .cont=>∃σ' H',a8 X pins σ' H' s'∧D.ct σ' H'
 | .ret u=>∃v σ' H',a8 X pins σ' H' s'∧cj v u∧D.rt v H'
def PE (X:Cx) (e:Expr) (t:TE):Prop:=
 ∀(pins:List (Addr×Obj)) (s:Shared) (σ:St) (H:Hp) (Q:VK),a8 X pins σ H s→t σ H Q→wpAny (model X.prog X.w) X.A (eval e X.env) (EP X pins σ Q) X.xe s
def PT (X:Cx) (e:Expr) (t:TT):Prop:=
 ∀(pins:List (Addr×Obj)) (s:Shared) (σ:St) (H:Hp) (Q:Bool→Hp→Prop),a8 X pins σ H s→t σ H Q→wpAny (model X.prog X.w) X.A (isTrue e X.env (eval e X.env)) (TP X pins σ Q) X.xe s
def PW (X:Cx) (e:Expr) (t:TT):Prop:=
 ∀(whole:Sem Value) (pins:List (Addr×Obj)) (s:Shared) (σ:St) (H:Hp) (Q:Bool→Hp→Prop),a8 X pins σ H s→t σ H Q→wpAny (model X.prog X.w) X.A (isTrue e X.env whole) (TP X pins σ Q) X.xe s
def PA (X:Cx) (es:List Expr) (t:TA):Prop:=
 ∀(pos:Pos) (pins:List (Addr×Obj)) (s:Shared) (σ:St) (H:Hp) (Q:List V→Hp→Prop),a8 X pins σ H s→t σ H Q→wpAny (model X.prog X.w) X.A (spliced (backTo pos (starEach es X.env))) (AP X pins σ Q) X.xe s
def PS (X:Cx) (st:Stmt) (t:TS):Prop:=
 ∀(pins:List (Addr×Obj)) (s:Shared) (σ:St) (H:Hp) (D:Cw),a8 X pins σ H s→t D σ H→wpAny (model X.prog X.w) X.A (exec st X.env) (SP X pins D) X.xe s
def D9 (X:Cx) (st:List Stmt) (t:TS):Prop:=
 ∀(pins:List (Addr×Obj)) (s:Shared) (σ:St) (H:Hp) (D:Cw),a8 X pins σ H s→t D σ H→wpAny (model X.prog X.w) X.A (execs st X.env) (SP X pins D) X.xe s
theorem dn {α:Type} {t:Sem α} {Q Q':α→Shared→Prop} {M:Model} {A:Around} {E:Value→Shared→Prop} {s:Shared} (h:wpAny M A t Q E s) (hQ:∀a s,Q a s→Q' a s):wpAny M A t Q' E s:=wpAny_mono h hQ fun _ _ x=>x
end L2
namespace L2
open PySem PySem.Spec PyProof.Rows
section
variable {X:Cx}
theorem Nn {a b:Expr} {ta tb:TE} (ha:PE X a ta) (hb:PE X b tb) {pins:List (Addr×Obj)} {s:Shared} {σ:St} {H:Hp} {R:V→V→Hp→Prop} (I:a8 X pins σ H s) (h:ta σ H fun x H1=>tb σ H1 fun y H2=>R x y H2)
  {α:Type} {Q:α→Shared→Prop} {f:Value→Value→Sem α}
  (hf:∀v u s2 x y H2,a8 X pins σ H2 s2→cj x v→cj y u→R x y H2→wpAny (model X.prog X.w) X.A (f v u) Q X.xe s2):
  wpAny (model X.prog X.w) X.A (eval a X.env) (fun v s₁=>wpAny (model X.prog X.w) X.A (eval b X.env) (fun u s₂=>wpAny (model X.prog X.w) X.A (f v u) Q X.xe s₂) X.xe s₁) X.xe s:=by
 refine dn (ha pins s σ H _ I h) fun v s1 ⟨x,H1,I1,r1,q1⟩=> ?_
 refine dn (hb pins s1 σ H1 _ I1 q1) fun u s2 ⟨y,H2,I2,r2,q2⟩=> ?_
 exact hf v u s2 x y H2 I2 r1 r2 q2
def Lb (i:Nat):TE:=fun σ H Q=>∃v,σ[i]?=some (some v)∧Q v H
def tC (v:V):TE:=fun _ H Q=>Q v H
theorem Ix {i:Nat} {x:Str} {pos:Pos} (hN:X.N[i]?=some x) (hv:Kp X.env.scope x) (hd:(x==("__debug__":Str))=false:=by decide) (hcd:(x==("__classdict__":Str))=false:=by decide):PE X (.Name x pos) (Lb i):=by
 intro pins s σ H Q I h
 obtain⟨v,e,h⟩:=h
 obtain⟨m,hn,hl⟩:=I.loc
 obtain⟨u,r,l⟩:=hl i x v hN e hv
 have fin:EP X pins σ Q u s:=⟨v,H,I,r,h⟩
 rcases l with⟨hk,hm⟩ | ⟨hk,c,hc,hcell⟩
 ·exact wpAny_Name (wpAny_loadName_local I.ok.kind hk hn hm fin) hd
 ·rcases hk with hk | hk
  ·exact wpAny_Name (wpAny_loadName_cell I.ok.kind hk hc hcell fin) hd
  ·exact wpAny_Name (wpAny_loadName_free I.ok.kind hk hc hcell fin hcd) hd
theorem am {i j pos}:PE X (.Constant (.int i) j pos) (tC (.int i)):=fun _ _ _ H _ I h=>wpAny_Constant_int ⟨.int i,H,I.tok _,⟨_,rfl⟩,h⟩
theorem Kb {b j pos}:PE X (.Constant (.bool b) j pos) (tC (.bl b)):=fun _ _ _ H _ I h=>Constant_bool ⟨.bl b,H,I,rfl,h⟩
theorem ck {j pos}:PE X (.Constant .none j pos) (tC .non):=fun _ _ _ H _ I h=>Constant_none ⟨.non,H,I,rfl,h⟩
def Gl (X:Cx) (x:Str):Prop:=X.env.kindOf x=some .globalImplicit
theorem yf {E:Value→Shared→Prop} {pins:List (Addr×Obj)} {s:Shared} {σ:St} {H:Hp} {x:Str} {u:Value} {pos:Pos} {Q:Value→Shared→Prop} (I:a8 X pins σ H s) (hg:Gl X x) (hm:X.mg x=some u) (h:Q u s)
  (hd:(x==("__debug__":Str))=false:=by decide):wpAny (model X.prog X.w) X.A (eval (.Name x pos) X.env) Q E s:=
 Calls.Name_function_global I.ok.kind hg (Calls.loadGlobal_global (by rw [I.ok.glob];exact I.mod.glob.keeps I.bk) hm h) hd
theorem sC {E:Value→Shared→Prop} {pins:List (Addr×Obj)} {s:Shared} {σ:St} {H:Hp} {x:Str} {u:Value} {pos:Pos} {Q:Value→Shared→Prop} (I:a8 X pins σ H s) (hg:Gl X x) (hm:X.mg x=none) (hv:bootBuiltins x=some u) (h:Q u s)
  (hn:x≠"__name__":=by decide) (hd:(x==("__debug__":Str))=false:=by decide):wpAny (model X.prog X.w) X.A (eval (.Name x pos) X.env) Q E s:=by
 obtain⟨mb,h1,h2⟩:=I.mod.blt
 exact Calls.Name_function_global I.ok.kind hg (Calls.loadGlobal_builtin (by rw [I.ok.glob];exact I.mod.glob.keeps I.bk) hm (by rw [I.ok.blt];exact h1.keeps I.bk) ((h2 x hn).trans hv) h) hd
theorem FB {x:Str} {v:V} {u:Value} {pos:Pos} (hg:Gl X x) (hm:X.mg x=some u) (r:cj v u) (hd:(x==("__debug__":Str))=false:=by decide):PE X (.Name x pos) (tC v):=
 fun _ _ _ H _ I h=>yf I hg hm ⟨v,H,I,r,h⟩ hd
variable {a b:Expr} {ta tb:TE} {pos:Pos}
def PC (X:Cx) (op:CmpOp) (a b:Expr) (t:TE):Prop:=
 ∀(pins:List (Addr×Obj)) (s:Shared) (σ:St) (H:Hp) (Q:VK),a8 X pins σ H s→t σ H Q→
  wpAny (model X.prog X.w) X.A (eval a X.env) (fun v s₁=>wpAny (model X.prog X.w) X.A (eval b X.env) (fun u s₂=>wpAny (model X.prog X.w) X.A (compareOp op v u) (EP X pins σ Q) X.xe s₂) X.xe s₁) X.xe s
def tB (t:TE):TT:=fun σ H Q=>t σ H fun x H1=>∃c,x= .bl c∧Q c H1
theorem KS {op:CmpOp} {t:TE} (h:PC X op a b t) (h1:behindInMarks op b=false:=by first | exact nobehind _ (by decide) (by decide) | rfl):PE X (.Compare a [op] [b] pos) t:=fun pins s σ H Q I hw=>wpAny_Compare1 (h pins s σ H Q I hw) h1
theorem KZ {op:CmpOp} {t:TE} (h:PC X op a b t) (h1:behindInMarks op b=false:=by first | exact nobehind _ (by decide) (by decide) | rfl):PT X (.Compare a [op] [b] pos) (tB t):=by
 intro pins s σ H Q I hw
 refine wpAny_isTrue_Compare1 (dn (h pins s σ H _ I hw) fun v s1 h1=>dn h1 fun u s2 h2=>dn h2 fun c s3 ⟨x,H1,I1,r1,q1⟩=> ?_) h1
 obtain⟨d,rfl,q⟩:=q1
 cases r1
 exact wpAny_truthy_bool ⟨H1,I1,q⟩
theorem aP {e:Expr} {t:TE} (h:PE X e t) (he:∀whole,isTrue e X.env whole=(do let v ←whole;standAt e.pos;holding [v] (truthy v)):=by intro _;rfl):PT X e (tB t):=by
 intro pins s σ H Q I hw
 refine isTrue_plain (dn (h pins s σ H _ I hw) fun v s1 ⟨x,H1,I1,r1,q1⟩=> ?_) (he _)
 obtain⟨d,rfl,q⟩:=q1
 cases r1
 exact wpAny_truthy_bool ⟨H1,I1,q⟩
variable {tA tB':TT} {rest:List Expr}
def MN (t u:TT):TT:=fun σ H Q=>t σ H fun c H1=>if c=true then u σ H1 Q else Q false H1
def Nj (t u:TT):TT:=fun σ H Q=>t σ H fun c H1=>if c=true then Q true H1 else u σ H1 Q
def MS (t:TT):TT:=fun σ H Q=>t σ H fun c H1=>Q (!c) H1
theorem JL (ha:PT X a tA):PW X (.BoolOp .And [a] pos) tA:=by
 intro wh pins s σ H Q I h
 refine isTrue_and (dn (ha pins s σ H Q I h) fun c s1 e=> ?_)
 cases c with
 | true=>exact isTrue_and_nil e
 | false=>exact e
theorem fN (ha:PT X a tA):PW X (.BoolOp .Or [a] pos) tA:=by
 intro wh pins s σ H Q I h
 refine isTrue_or (dn (ha pins s σ H Q I h) fun c s1 e=> ?_)
 cases c with
 | false=>exact isTrue_or_nil e
 | true=>exact e
theorem K0 (ha:PT X a tA) (hb:PW X (.BoolOp .And (b::rest) pos) tB'):PW X (.BoolOp .And (a::b::rest) pos) (MN tA tB'):=by
 intro wh pins s σ H Q I h
 refine isTrue_and (dn (ha pins s σ H _ I h) fun c s1 ⟨H1,I1,q1⟩=> ?_)
 cases c with
 | true=>exact hb wh pins s1 σ H1 Q I1 q1
 | false=>exact⟨H1,I1,q1⟩
theorem fI (ha:PT X a tA) (hb:PW X (.BoolOp .Or (b::rest) pos) tB'):PW X (.BoolOp .Or (a::b::rest) pos) (Nj tA tB'):=by
 intro wh pins s σ H Q I h
 refine isTrue_or (dn (ha pins s σ H _ I h) fun c s1 ⟨H1,I1,q1⟩=> ?_)
 cases c with
 | true=>exact⟨H1,I1,q1⟩
 | false=>exact hb wh pins s1 σ H1 Q I1 q1
theorem aS (ha:PT X a tA):PT X (.UnaryOp .Not a pos) (MS tA):=by
 intro pins s σ H Q I h
 exact isTrue_not (ha pins s σ H (fun c H1=>Q (!c) H1) I h)
def LP (ta tb:TE):TE:=fun σ H Q=>ta σ H fun x H1=>∃c,x= .bl c∧if c=true then tb σ H1 Q else Q (.bl false) H1
def LW (ta:TE):TE:=fun σ H Q=>ta σ H fun x H1=>∃c,x= .bl c∧Q (.bl (!c)) H1
theorem KU {op} {t:TE} (h:PE X a t):PE X (.BoolOp op [a] pos) t:=fun pins s σ H Q I hw=>BoolOp_one (h pins s σ H Q I hw)
theorem Iq (ha:PE X a ta) (hb:PE X (.BoolOp .And (b::rest) pos) tb):PE X (.BoolOp .And (a::b::rest) pos) (LP ta tb):=by
 intro pins s σ H Q I h
 refine BoolOp_and (dn (ha pins s σ H _ I h) fun v s1 ⟨x,H1,I1,r1,q1⟩=> ?_)
 obtain⟨c,rfl,q1⟩:=q1
 cases r1
 refine wpAny_truthy_bool ?_
 cases c with
 | true=>exact hb pins s1 σ H1 Q I1 q1
 | false=>exact⟨.bl false,H1,I1,rfl,q1⟩
theorem KT (ha:PE X a ta):PE X (.UnaryOp .Not a pos) (LW ta):=by
 intro pins s σ H Q I h
 refine UnaryOp_ (dn (ha pins s σ H _ I h) fun v s1 ⟨x,H1,I1,r1,q1⟩=> ?_)
 obtain⟨c,rfl,q1⟩:=q1
 cases r1
 exact not_of (wpAny_truthy_bool ⟨.bl (!c),H1,I1,rfl,q1⟩)
def Ni (t:TT) (ta tb:TE):TE:=fun σ H Q=>t σ H fun c H1=>if c=true then ta σ H1 Q else tb σ H1 Q
theorem uF {c:Expr} (hc:PT X c tA) (ha:PE X a ta) (hb:PE X b tb):PE X (.IfExp c a b pos) (Ni tA ta tb):=by
 intro pins s σ H Q I h
 refine wpAny_IfExp (dn (hc pins s σ H _ I h) fun d s1 ⟨H1,I1,q1⟩=> ?_)
 cases d with
 | true=>exact ha pins s1 σ H1 Q I1 q1
 | false=>exact hb pins s1 σ H1 Q I1 q1
end
end L2
namespace L2
open PySem PySem.Spec PyProof.Rows
def aX (K:PySem.W.Frag) (H:Hp) (a:Addr) (xs:List V):Prop:=
 Rd H a (.lst xs)∨
  ∃(o:Obj) (its:Array Value) (n:Nat),K.lookup a=some o∧o.cls= .type "list"∧o.dict=none∧o.data= .seq its n∧its.size≤sizeLine∧bw xs its.toList
def Ea (K:PySem.W.Frag) (H:Hp) (a:Addr) (xs:List V):Prop:=
 Rd H a (.tup xs)∨
  ∃(o:Obj) (its:Array Value) (n:Nat),K.lookup a=some o∧o.cls= .type "tuple"∧o.data= .seq its n∧its.size≤sizeLine∧bw xs its.toList
def Mn:Value→Option V
 | .none=>some .non
 | .bool b=>some (.bl b)
 | .int i _=>some (.int i)
 | .str x _=>some (.str x)
 | .bytes b _=>some (.byt b)
 | .float b _=>some (.flt b)
 | .ref a=>some (.ref a)
 | .type n=>some (.ty n)
 | _=>none
theorem cj.abs {x:V} {u:Value} (r:cj x u):Mn u=some x:=by
 cases x with
 | non=>cases r;rfl
 | bl _=>cases r;rfl
 | int _=>obtain⟨t,rfl⟩:=r;rfl
 | str _=>obtain⟨t,rfl⟩:=r;rfl
 | byt _=>obtain⟨t,rfl⟩:=r;rfl
 | flt _=>obtain⟨t,rfl⟩:=r;rfl
 | ref _=>cases r;rfl
 | ty _=>cases r;rfl
theorem cj.inj {x y:V} {u:Value} (r:cj x u) (q:cj y u):x=y:=Option.some.inj (r.abs.symm.trans q.abs)
theorem bw.inj:∀{xs ys:List V} {us:List Value},bw xs us→bw ys us→xs=ys
 | _,_,_,.nil,.nil=>rfl
 | _,_,_,.cons r t,.cons r' t'=>by rw [r.inj r',bw.inj t t']
section
variable {X:Cx} {pins:List (Addr×Obj)} {σ:St} {H:Hp} {s:Shared} {a:Addr} {xs ys:List V}
theorem aX.of {K:PySem.W.Frag} (h:H a=some (.lst xs)):aX K H a xs:= .inl (.inl h)
theorem Ea.of {K:PySem.W.Frag} (h:H a=some (.tup xs)):Ea K H a xs:= .inl (.inl h)
theorem a8.list (I:a8 X pins σ H s) (h:aX X.K H a xs):∃its:List Value,bw xs its∧PlainL s.heap a its.toArray∧xs.length≤sizeLine:=by
 rcases h with h | ⟨o,its,n,hk,hc,hd,hs,hz,r⟩
 ·obtain⟨z,its,n,r,e⟩:=h.ok I.hok
  exact⟨its,r,⟨_,n,e,rfl,rfl,rfl⟩,z⟩
 ·refine⟨its.toList,r,⟨o,n,I.kIn a o hk,hc,hd,by simpa using hs⟩,?_⟩
  have e:=r.length
  simp only [Array.length_toList] at e
  omega
theorem a8.tuple (I:a8 X pins σ H s) (h:Ea X.K H a xs):∃its:List Value,bw xs its∧IsTup s.heap a its.toArray∧xs.length≤sizeLine:=by
 rcases h with h | ⟨o,its,n,hk,hc,hs,hz,r⟩
 ·obtain⟨z,its,r,p⟩:=h.ok I.hok
  exact⟨its,r,p,z⟩
 ·refine⟨its.toList,r,⟨o,I.kIn a o hk,hc,n,by simpa using hs⟩,?_⟩
  have e:=r.length
  simp only [Array.length_toList] at e
  omega
theorem a8.list_inj (I:a8 X pins σ H s) (h:aX X.K H a xs) (h':aX X.K H a ys):xs=ys:=by
 obtain⟨its,r,⟨o,n,e,_,_,d⟩,_⟩:=I.list h
 obtain⟨its',r',⟨o',n',e',_,_,d'⟩,_⟩:=I.list h'
 rw [e] at e';cases e'
 rw [d] at d'
 injection d' with d1 _
 have:its=its':=by simpa using congrArg Array.toList d1
 subst this
 exact r.inj r'
end
abbrev Cx.wish (X:Cx) (E:Value→Shared→Prop):Cx:={X with xe:=E}
abbrev Cx.nox (X:Cx):Cx:=X.wish fun _ _=>False
theorem Cx.Ok.wish {X:Cx} (ok:X.Ok) (E:Value→Shared→Prop):(X.wish E).Ok:=
 ⟨ok.mod,ok.kind,ok.glob,ok.blt,ok.above,ok.inj,ok.has,ok.cab,ok.hd,ok.frames,ok.stk,ok.exf,ok.bs,ok.bsz,ok.noex,ok.exfs,ok.funs,ok.frf⟩
theorem Cx.Ok.unwish {X:Cx} {E:Value→Shared→Prop} (ok:(X.wish E).Ok):X.Ok:=
 ⟨ok.mod,ok.kind,ok.glob,ok.blt,ok.above,ok.inj,ok.has,ok.cab,ok.hd,ok.frames,ok.stk,ok.exf,ok.bs,ok.bsz,ok.noex,ok.exfs,ok.funs,ok.frf⟩
section
variable {X:Cx} {pins:List (Addr×Obj)} {σ:St} {H:Hp} {s:Shared} {E:Value→Shared→Prop}
theorem a8.wish (I:a8 X pins σ H s) (E:Value→Shared→Prop):a8 (X.wish E) pins σ H s:=⟨I.ok.wish E,I.os,I.bare,I.base,I.loc,I.cell,I.free,I.freeC,I.pin,I.hok,I.len⟩
theorem a8.unwish (I:a8 (X.wish E) pins σ H s):a8 X pins σ H s:=⟨I.ok.unwish,I.os,I.bare,I.base,I.loc,I.cell,I.free,I.freeC,I.pin,I.hok,I.len⟩
theorem SP.unwish {D:Cw} {f:Flow} {s':Shared} (h:SP (X.wish E) pins D f s'):SP X pins D f s':=by
 cases f with
 | next=>obtain⟨σ',H',I,q⟩:=h;exact⟨σ',H',I.unwish,q⟩
 | brk=>obtain⟨σ',H',I,q⟩:=h;exact⟨σ',H',I.unwish,q⟩
 | cont=>obtain⟨σ',H',I,q⟩:=h;exact⟨σ',H',I.unwish,q⟩
 | ret u=>obtain⟨v,σ',H',I,r,q⟩:=h;exact⟨v,σ',H',I.unwish,r,q⟩
theorem D9.nox {st:List Stmt} {t:TS} (h:D9 X.nox st t):D9 X st t:=fun pins s σ H D I hw=>
 wpAny_mono (h pins s σ H D (I.wish _) hw) (fun _ _ q=>q.unwish) fun _ _ z=>False.elim z
end
section
variable {X:Cx} {st:Stmt} {rest:List Stmt} {t u:TS} {e:Expr} {te:TE} {pos:Pos}
def LV:TS:=fun D σ H=>D.nx σ H
def MU (t u:TS):TS:=fun D σ H=>t {D with nx:=u D} σ H
theorem aE:D9 X [] LV:=fun _ _ σ H _ I h=>wpAny_execs_nil ⟨σ,H,I,h⟩
theorem ac (h1:PS X st t) (h2:D9 X rest u):D9 X (st::rest) (MU t u):=by
 intro pins s σ H D I h
 refine wpAny_execs_cons (dn (h1 pins s σ H {D with nx:=u D} I h) fun f s1 q=> ?_)
 cases f with
 | next=>
  obtain⟨σ',H',I',q⟩:=q
  exact h2 pins s1 σ' H' D I' q
 | ret v=>exact q
 | brk=>exact q
 | cont=>exact q
theorem ae (h1:PS X st t):D9 X [st] t:=by
 intro pins s σ H D I h
 refine wpAny_execs_cons (dn (h1 pins s σ H D I h) fun f s1 q=> ?_)
 cases f with
 | next=>exact wpAny_execs_nil q
 | ret v=>exact q
 | brk=>exact q
 | cont=>exact q
theorem a8.quiet {pins:List (Addr×Obj)} {σ:St} {H:Hp} {s:Shared} (I:a8 X pins σ H s):interactive X.env=false:=by simp [interactive,I.ok.kind]
def LS (te:TE):TS:=fun D σ H=>te σ H fun _ H1=>D.nx σ H1
theorem eU (he:PE X e te) (hs:swapsWith e none pos.line X.env=pure false:=by rfl):PS X (.Expr e pos) (LS te):=by
 intro pins s σ H D I h
 exact wpAny_Expr_any (dn (he pins s σ H _ I h) fun v s1 ⟨x,H1,I1,r1,q1⟩=>⟨σ,H1,I1,q1⟩) I.quiet hs
def MT (te:TE):TS:=fun D σ H=>te σ H D.rt
theorem aj (he:PE X e te):PS X (.Return (some e) pos) (MT te):=by
 intro pins s σ H D I h
 exact wpAny_Return_some (dn (he pins s σ H _ I h) fun v s1 ⟨x,H1,I1,r1,q1⟩=>⟨x,σ,H1,I1,r1,q1⟩)
def MQ (c:TT) (t u:TS):TS:=fun D σ H=>c σ H fun b H1=>if b=true then t D σ H1 else u D σ H1
theorem aQ {c:Expr} {a b:List Stmt} {tc:TT} (hc:PT X c tc) (ha:D9 X a t) (hb:D9 X b u):PS X (.If c a b pos) (MQ tc t u):=by
 intro pins s σ H D I h
 refine wpAny_If (dn (hc pins s σ H _ I h) fun d s1 ⟨H1,I1,q1⟩=> ?_)
 cases d with
 | true=>exact ha pins s1 σ H1 D I1 q1
 | false=>exact hb pins s1 σ H1 D I1 q1
end
abbrev TG:=V→St→Hp→(St→Hp→Prop)→Prop
abbrev J4:=List V→St→Hp→(St→Hp→Prop)→Prop
def PG (X:Cx) (target:Expr) (t:TG):Prop:=
 ∀(pins:List (Addr×Obj)) (s:Shared) (σ:St) (H:Hp) (v:V) (u:Value) (Q:St→Hp→Prop),a8 X pins σ H s→cj v u→t v σ H Q→
  wpAny (model X.prog X.w) X.A (assign target X.env u) (fun _ s'=>∃σ' H',a8 X pins σ' H' s'∧Q σ' H') X.xe s
def Ln (X:Cx) (ts:List Expr) (t:J4):Prop:=
 ∀(pins:List (Addr×Obj)) (s:Shared) (σ:St) (H:Hp) (vs:List V) (us:List Value) (Q:St→Hp→Prop),a8 X pins σ H s→bw vs us→t vs σ H Q→
  wpAny (model X.prog X.w) X.A (assignInOrder ((assignEach ts X.env).map (·.2)) us) (fun _ s'=>∃σ' H',a8 X pins σ' H' s'∧Q σ' H') X.xe s
abbrev Hk:=V→V→V→Hp→(Hp→Prop)→Prop
def Ko (X:Cx) (t:Hk):Prop:=
 ∀(pins:List (Addr×Obj)) (s:Shared) (σ:St) (H:Hp) (o i v:V) (ov iv u:Value) (Q:Hp→Prop),a8 X pins σ H s→cj o ov→cj i iv→cj v u→t o i v H Q→
  wpAny (model X.prog X.w) X.A (setItem ov iv u) (fun _ s'=>∃H',a8 X pins σ H' s'∧Q H') X.xe s
abbrev Lh:=V→V→Hp→VK→Prop
def Mj (X:Cx) (op:Operator) (t:Lh):Prop:=
 ∀(pins:List (Addr×Obj)) (s:Shared) (σ:St) (H:Hp) (x y:V) (v u:Value) (Q:VK),a8 X pins σ H s→cj x v→cj y u→t x y H Q→
  wpAny (model X.prog X.w) X.A (inplaceOp op v u) (EP X pins σ Q) X.xe s
section
variable {X:Cx} {pos:Pos}
def AS (i:Nat):TG:=fun v σ H Q=>Q (σ.set i (some v)) H
theorem JI {i:Nat} {x:Str} (hN:X.N.Nodup) (hi:X.N[i]?=some x) (hx:Km X.env.scope x) (hf:X.fn x=true∨X.env.scope.names.lookup x=some .local:=by first | exact .inl rfl | exact .inr rfl | assumption):PG X (.Name x pos) (AS i):=by
 intro pins s σ H v u Q I r h
 exact wpAny_assign_Name (zT I hN hi hx r (fun s' I'=>⟨_,H,I',h⟩) hf)
def Mu:J4:=fun vs σ H Q=>vs= []∧Q σ H
def Lq (t:TG) (u:J4):J4:=fun vs σ H Q=>∃v r,vs=v::r∧t v σ H fun σ' H'=>u r σ' H' Q
theorem nH:Ln X [] Mu:=by
 intro pins s σ H vs us Q I r h
 obtain⟨e,h⟩:=h
 subst e
 cases r
 exact assignInOrder_nil ⟨σ,H,I,h⟩
theorem dC {e:Expr} {es:List Expr} {t:TG} {u:J4} (h1:PG X e t) (h2:Ln X es u)
  (hs:(assignEach (e::es) X.env).map (·.2)=assign e X.env::(assignEach es X.env).map (·.2):=by rfl):Ln X (e::es) (Lq t u):=by
 intro pins s σ H vs us Q I r h
 obtain⟨v,vr,e1,h⟩:=h
 subst e1
 cases r with
 | cons r rr=>
  rw [hs]
  refine assignInOrder_cons (dn (h1 pins s σ H _ _ _ I r h) fun _ s1 ⟨σ1,H1,I1,q1⟩=> ?_)
  exact h2 pins s1 σ1 H1 _ _ Q I1 rr q1
def Lr (K:PySem.W.Frag) (n:Nat) (t:J4):TG:=fun v σ H Q=>∃a xs,v= .ref a∧Ea K H a xs∧xs.length=n∧t xs σ H Q
theorem BU {es:List Expr} {k:Nat} {t:J4} {n:Nat} (hc:X.calm=true) (h:Ln X es t)
  (hn:(assignEach es X.env).length=n:=by rfl) (hst:(assignEach es X.env).findIdx? (·.1)=none:=by rfl):PG X (.Tuple es k pos) (Lr X.K n t):=by
 intro pins s σ H v u Q I r hw
 obtain⟨a,xs,e1,hq,hl,hw⟩:=hw
 subst e1
 cases r
 obtain⟨its,rv,ht,hz⟩:=I.tuple hq
 refine assign_Tuple_tuple (I.ok.hd hc) ht (by simp [hn,←hl,rv.length]) hst fun h' hx=> ?_
 have I1:a8 X pins σ H {s with heap:=h'}:=I.kept (t':=s.toks) fun b o e=>hx b o (Nat.ne_of_lt (Heap.lt_size e)) e
 exact h pins _ σ H xs _ Q I1 (by simpa using rv) hw
def Mv (to ti:TE) (t:Hk):TG:=fun v σ H Q=>to σ H fun o H1=>ti σ H1 fun i H2=>t o i v H2 fun H3=>Q σ H3
theorem nG {o i:Expr} {to ti:TE} {t:Hk} (ho:PE X o to) (hi:PE X i ti) (hs:Ko X t)
  (ha:∀v,assign (.Subscript o i pos) X.env v=(do
   let ov ←holding [v] (eval o X.env)
   let iv ←holding [v,ov] (eval i X.env)
   standAt pos
   holding [v,ov,iv] (setItem ov iv v)
   release [v,ov,iv] []):=by intro _;rfl):PG X (.Subscript o i pos) (Mv to ti t):=by
 intro pins s σ H v u Q I r h
 rw [ha]
 refine wpAny_bind (wpAny_holding (dn (ho pins s σ H _ I h) fun ov s1 ⟨x,H1,I1,r1,q1⟩=> ?_))
 refine wpAny_bind (wpAny_holding (dn (hi pins s1 σ H1 _ I1 q1) fun iv s2 ⟨y,H2,I2,r2,q2⟩=> ?_))
 refine wpAny_bind (wpAny_standAt (wpAny_bind (wpAny_holding (dn (hs pins s2 σ H2 x y v ov iv u _ I2 r1 r2 r q2) fun _ s3 ⟨H3,I3,q3⟩=> ?_))))
 exact wpAny_release ⟨σ,H3,I3,q3⟩
def JW (te:TE) (g:TG):TS:=fun D σ H=>te σ H fun x H1=>g x σ H1 D.nx
theorem nJ {tg e:Expr} {te:TE} {g:TG} (he:PE X e te) (hg:PG X tg g) (hs:swapsWithSole [tg] e pos.line X.env=pure false:=by rfl) (hw:swappedStores [tg] e X.env=pure none:=by rfl)
  (h1:(assignEach [tg] X.env).map (·.2)= [assign tg X.env]:=by rfl):PS X (.Assign [tg] e pos) (JW te g):=by
 intro pins s σ H D I h
 refine wpAny_Assign_stores (dn (he pins s σ H _ I h) fun v s1 ⟨x,H1,I1,r1,q1⟩=> ?_) hs hw
 rw [h1]
 exact dn (hg pins s1 σ H1 x v _ I1 r1 q1) fun _ s2 q=>q
theorem KY {i:Nat} {x:Str} {e:Expr} {te:TE} {pos':Pos} (hN:X.N.Nodup) (hi:X.N[i]?=some x) (hx:Km X.env.scope x) (he:PE X e te) (hs:swapsWith e (some (.Name x pos')) pos.line X.env=pure false:=by rfl) (hf:X.fn x=true∨X.env.scope.names.lookup x=some .local:=by first | exact .inl rfl | exact .inr rfl | assumption):
  PS X (.Assign [.Name x pos'] e pos) (JW te (AS i)):=by
 intro pins s σ H D I h
 refine wpAny_Assign_Name (dn (he pins s σ H _ I h) fun v s1 ⟨y,H1,I1,r1,q1⟩=> ?_) hs
 exact zT I1 hN hi hx r1 (fun s2 I2=>⟨_,H1,I2,q1⟩) hf
def MO (i:Nat) (te:TE) (ti:Lh):TS:=fun D σ H=>∃x,σ[i]?=some (some x)∧te σ H fun y H1=>ti x y H1 fun z H2=>D.nx (σ.set i (some z)) H2
theorem lN {i:Nat} {x:Str} {e:Expr} {te:TE} {op:Operator} {ti:Lh} {pos':Pos} (hN:X.N.Nodup) (hi:X.N[i]?=some x) (hx:Km X.env.scope x) (he:PE X e te) (ho:Mj X op ti) (hf:X.fn x=true∨X.env.scope.names.lookup x=some .local:=by first | exact .inl rfl | exact .inr rfl | assumption):
  PS X (.AugAssign (.Name x pos') op e pos) (MO i te ti):=by
 intro pins s σ H D I h
 obtain⟨v,e1,h⟩:=h
 obtain⟨m,hn,hl⟩:=I.loc
 have vis:Kp X.env.scope x:=by rcases hx with k | k;exact .inl k;exact .inr (.inl k)
 obtain⟨u,r,l⟩:=hl i x v hi e1 vis
 refine wpAny_AugAssign_Name ?_
 have go:wpAny (model X.prog X.w) X.A (eval e X.env) (fun w s₂=>wpAny (model X.prog X.w) X.A (inplaceOp op u w) (fun r s₃=>wpAny (model X.prog X.w) X.A (storeName X.env x r) (fun _=>SP X pins D .next) X.xe s₃) X.xe s₂) X.xe s:=by
  refine dn (he pins s σ H _ I h) fun w s1 ⟨y,H1,I1,r1,q1⟩=> ?_
  refine dn (ho pins s1 σ H1 v y u w _ I1 r r1 q1) fun z s2 ⟨zv,H2,I2,r2,q2⟩=> ?_
  exact zT I2 hN hi hx r2 (fun s3 I3=>⟨_,H2,I3,q2⟩) hf
 rcases l with⟨hk,hm⟩ | ⟨hk,c,hc,hcell⟩
 ·exact wpAny_loadName_local I.ok.kind hk hn hm go
 ·rcases hk with hk | hk
  ·exact wpAny_loadName_cell I.ok.kind hk hc hcell go
  ·rcases hx with k | k
   ·have:X.env.scope.names.lookup x=some .free:=hk
    rw [k] at this;cases this
   ·have:X.env.scope.names.lookup x=some .free:=hk
    rw [k] at this;cases this
def LQ (to ti te:TE) (tget:V→V→Hp→VK→Prop) (tip:Lh) (tset:Hk):TS:=fun D σ H=>to σ H fun o H1=>ti σ H1 fun i H2=>tget o i H2 fun x H3=>te σ H3 fun y H4=>tip x y H4 fun z H5=>tset o i z H5 fun H6=>D.nx σ H6
def Lm (X:Cx) (t:V→V→Hp→VK→Prop):Prop:=
 ∀(pins:List (Addr×Obj)) (s:Shared) (σ:St) (H:Hp) (o i:V) (ov iv:Value) (Q:VK),a8 X pins σ H s→cj o ov→cj i iv→t o i H Q→
  wpAny (model X.prog X.w) X.A (getItem ov iv) (EP X pins σ Q) X.xe s
theorem JK {o i e:Expr} {to ti te:TE} {tget:V→V→Hp→VK→Prop} {tip:Lh} {tset:Hk} {op:Operator} {tpos:Pos} (ho:PE X o to) (hi:PE X i ti) (hg:Lm X tget) (he:PE X e te) (hp:Mj X op tip) (hs:Ko X tset)
  (ha:∀ov iv new,augStore i ov iv new=(do holding [new,ov,iv] (setItem ov iv new);release [new,ov,iv] [];pure .next):=by intros;rfl):PS X (.AugAssign (.Subscript o i tpos) op e pos) (LQ to ti te tget tip tset):=by
 intro pins s σ H D I h
 refine wpAny_AugAssign_SubscriptAny (dn (ho pins s σ H _ I h) fun ov s1 ⟨x1,H1,I1,r1,q1⟩=> ?_) ha
 refine dn (hi pins s1 σ H1 _ I1 q1) fun iv s2 ⟨x2,H2,I2,r2,q2⟩=> ?_
 refine dn (hg pins s2 σ H2 x1 x2 ov iv _ I2 r1 r2 q2) fun old s3 ⟨x3,H3,I3,r3,q3⟩=> ?_
 refine dn (he pins s3 σ H3 _ I3 q3) fun v s4 ⟨x4,H4,I4,r4,q4⟩=> ?_
 refine dn (hp pins s4 σ H4 x3 x4 old v _ I4 r3 r4 q4) fun new s5 ⟨x5,H5,I5,r5,q5⟩=> ?_
 exact dn (hs pins s5 σ H5 x1 x2 x5 ov iv new _ I5 r1 r2 r5 q5) fun _ s6 ⟨H6,I6,q6⟩=>⟨σ,H6,I6,q6⟩
def Nd (f:Int→Int→Int):Lh:=fun x y H Q=>∃i j,x= .int i∧y= .int j∧Q (.int (f i j)) H
theorem j8:Mj X .Add (Nd fun i j=>i+j):=by
 intro pins s σ H x y v u Q I r1 r2 h
 obtain⟨i,j,e1,e2,q⟩:=h
 subst e1;subst e2
 obtain⟨t,rfl⟩:=r1
 obtain⟨t',rfl⟩:=r2
 exact iadd_int ⟨.int _,H,I.tok _,⟨_,rfl⟩,q⟩
end
section
variable {X:Cx} {pos:Pos}
def Ld (c:TT) (tb:TS):TS:=fun D σ H=>∃W:Nat→St→Hp→Prop,(∃m,W m σ H)∧∀m σ H,W m σ H→
 c σ H fun b H1=>if b=true then ∃N:St→Hp→Prop,(∀σ' H',N σ' H'→∃m',m'<m∧W m' σ' H')∧tb {D with nx:=N,ct:=N,bk:=D.nx} σ H1 else D.nx σ H1
theorem jk {c:Expr} {body:List Stmt} {tc:TT} {tb:TS} (hp:PassesOwn (model X.prog X.w) X.A X.env X.xe) (hc:PT X c tc) (hb:D9 X body tb):PS X (.While c body [] pos) (Ld tc tb):=by
 intro pins s σ H D I h
 obtain⟨W,⟨m0,w0⟩,turn⟩:=h
 refine wpAny_While (codeAny_whileLoop (fun n s'=>∃σ' H',a8 X pins σ' H' s'∧W n σ' H') ?_ m0 ⟨σ,H,I,w0⟩)
 rintro n s1 ⟨σ1,H1,I1,w1⟩
 refine wpAny_passesOwn hp (dn (hc pins s1 σ1 H1 _ I1 (turn n σ1 H1 w1)) fun b s2 ⟨H2,I2,q2⟩=> ?_)
 cases b with
 | true=>
  obtain⟨N,hN,q2⟩:=q2
  rw [if_pos rfl]
  refine wpAny_passesOwn hp (dn (hb pins s2 σ1 H2 _ I2 q2) fun f s3 q3=> ?_)
  cases f with
  | next=>
   obtain⟨σ3,H3,I3,n3⟩:=q3
   obtain⟨m',hm,w3⟩:=hN σ3 H3 n3
   exact⟨m',hm,σ3,H3,I3,w3⟩
  | cont=>
   obtain⟨σ3,H3,I3,n3⟩:=q3
   obtain⟨m',hm,w3⟩:=hN σ3 H3 n3
   exact⟨m',hm,σ3,H3,I3,w3⟩
  | brk=>exact q3
  | ret v=>exact q3
 | false=>
  rw [if_neg Bool.false_ne_true]
  exact wpAny_execs_nil ⟨σ1,H2,I2,q2⟩
end
structure It where
 go:Nat→Hp→Prop
 yld:Nat→Hp→V→Hp→Prop
 stop:Nat→Hp→Prop
def xr (X:Cx) (pins:List (Addr×Obj)) (H:Hp) (b:Addr):Prop:=
 H b=none∧b≠X.env.locals∧b ∉ X.fs∧(b∈X.ex∨X.s_0.heap.objs.size≤b)∧(∀x c,X.env.cells.lookup x=some c→c≠b)∧∀p∈X.pn++pins,p.1≠b
theorem a8.fpOk {X:Cx} {pins:List (Addr×Obj)} {σ:St} {H H':Hp} {s:Shared} {b:Addr} (I:a8 X pins σ H s) (hb:s.heap.objs.size≤b) (hn:H' b=none):xr X pins H' b:=by
 refine⟨hn,Nat.ne_of_gt (Nat.lt_of_lt_of_le I.lt hb),I.nofs hb,.inr (Nat.le_trans I.sz hb),fun x c e z=> ?_,fun p hp z=> ?_⟩
 ·obtain⟨v,q⟩:=I.cell x c e
  exact absurd (Nat.lt_of_lt_of_le q.lt (by rw [z];exact hb)) (Nat.lt_irrefl _)
 ·exact absurd (Nat.lt_of_lt_of_le (Heap.lt_size (I.pin p hp).1) (by rw [z];exact hb)) (Nat.lt_irrefl _)
structure Jf (P:Program) (w:World) (K:PySem.W.Frag) (tg:Expr) (J:It) (fp:List Addr) (it:Addr) (tn:Nat→Heap→Prop):Prop where
 mem:it∈fp
 obj:∀i h,tn i h→∀b∈fp,∃o,h.get? b=some o∧∀v,o.data≠ .cell v
 keep:∀i h h',tn i h→(∀b∈fp,∀o,h.get? b=some o→h'.get? b=some o)→tn i h'
 item:∀(X:Cx),X.prog=P→X.w=w→X.K=K→X.calm=true→∀(i:Nat) (pins:List (Addr×Obj)) (s:Shared) (σ:St) (H:Hp) (E:Value→Shared→Prop),a8 X pins σ H s→(∀b∈fp,xr X pins H b)→tn i s.heap→J.go i H→
  wpAny (model P w) X.A (pyNext (.ref it)) (fun r s1=>∃u,r=some u∧
   wpAny (model P w) X.A (letOwnedTupleGo tg (.ref it) u) (fun _ s2=>∃x H',a8 X pins σ H' s2∧cj x u∧J.yld i H x H'∧tn (i+1) s2.heap∧∀b∈fp,H' b=none) E s1) E s
 done:∀(X:Cx),X.prog=P→X.w=w→X.K=K→X.calm=true→∀(i:Nat) (pins:List (Addr×Obj)) (s:Shared) (σ:St) (H:Hp) (E:Value→Shared→Prop),a8 X pins σ H s→(∀b∈fp,xr X pins H b)→tn i s.heap→J.stop i H→
  wpAny (model P w) X.A (pyNext (.ref it)) (fun r s1=>r=none∧a8 X pins σ H s1) E s
 self:∀(A:Around) (i:Nat) (s:Shared) (Q:Value→Shared→Prop) (E:Value→Shared→Prop),tn i s.heap→Q (.ref it) s→wpAny (model P w) A (pyIter (.ref it)) Q E s
abbrev TI:=St→Hp→(It→Hp→Prop)→Prop
def MY (X:Cx) (pins:List (Addr×Obj)) (σ:St) (tg:Expr) (R:It→Hp→Prop) (itv:Value) (s2:Shared):Prop:=
 ∃(it:Addr) (fp:List Addr) (tn:Nat→Heap→Prop) (J:It) (H':Hp),itv= .ref it∧a8 X pins σ H' s2∧Jf X.prog X.w X.K tg J fp it tn∧tn 0 s2.heap∧(∀b∈fp,xr X pins H' b)∧R J H'
def PI (X:Cx) (tg iter:Expr) (wi:TI):Prop:=
 ∀(pins:List (Addr×Obj)) (s:Shared) (σ:St) (H:Hp) (R:It→Hp→Prop),a8 X pins σ H s→wi σ H R→
  wpAny (model X.prog X.w) X.A (eval iter X.env) (fun v s1=>wpAny (model X.prog X.w) X.A (pyIter v) (MY X pins σ tg R) X.xe s1) X.xe s
theorem J6 {M:Model} {A:Around} {E:Value→Shared→Prop} {s:Shared} {tg:Expr} {it:Addr} {u:Value} {o:Obj} {n:String} {vs:Array Value} {Q:Unit→Shared→Prop} (ho:s.heap.get? it=some o) (hc:o.cls= .type n) (hd:o.data= .fields vs)
  (hn: ["enumerate","zip","dict_itemiterator","dict_reverseitemiterator","odict_iterator","itertools.zip_longest","itertools.pairwise"].contains n=false) (hQ:Q () s):wpAny M A (letOwnedTupleGo tg (.ref it) u) Q E s:=by
 unfold letOwnedTupleGo
 cases tg<;>first
  | exact wpAny_pure hQ
  | (cases u<;>first
    | exact wpAny_pure hQ
    | (refine wpAny_bind (wpAny_load ho ?_)
       rw [hc,hd]
       show wpAny M A (if (["enumerate","zip","dict_itemiterator","dict_reverseitemiterator","odict_iterator","itertools.zip_longest","itertools.pairwise"].contains n && vs[0]?==some (rawInt _))=true then _ else _) Q E s
       rw [if_neg (by intro h;rw [hn,Bool.false_and] at h;cases h)]
       exact wpAny_pure hQ))
def J1 (K:PySem.W.Frag) (a:Addr):It:=
 ⟨fun i H=>∃xs x,aX K H a xs∧xs[i]?=some x,fun i H x H'=>H'=H∧∀xs,aX K H a xs→xs[i]?=some x,fun i H=>∃xs,aX K H a xs∧xs.length≤i⟩
def Jb (lo:Int) (n:Nat):It:=⟨fun i _=>i<n,fun i H x H'=>H'=H∧x= .int (lo+i),fun i _=>n≤i⟩
theorem Ha {P:Program} {w:World} {K:PySem.W.Frag} {tg:Expr} (a it:Addr):Jf P w K tg (J1 K a) [it] it (fun i h=>h.IsListIter it a i) where
 mem:=by simp
 obj:=fun i h st b hb=>by
  have e:b=it:=by simpa using hb
  subst e
  obtain⟨o,e,c,d⟩:=st
  exact⟨o,e,fun v z=>by rw [d] at z;cases z⟩
 keep:=fun i h h' st k=>st.at fun o e=>k it (by simp) o e
 item:=by
  intro X hP hw hK hc i pins s σ H E I hf st hg
  subst hP hw hK
  obtain⟨xs,x,hq,hx⟩:=hg
  obtain⟨its,rv,p,hz⟩:=I.list hq
  obtain⟨u,hu,ru⟩:=rv.get hx
  obtain⟨f0,f1,f2,f3,f4,f5⟩:=hf it (by simp)
  refine wpAny_pyNext_list_item st p.isList (x:=u) (by simpa using hu) fun h' st' sb=> ?_
  have I1:a8 X pins σ H {s with heap:=h'}:=I.turned (t':=s.toks) (fun b o hb e=>(sb.2 b hb).trans e) f0 f1 f3 f4 f5
  obtain⟨o,e,c,d⟩:=id st'
  exact⟨u,rfl,J6 (s:={s with heap:=h'}) e c d (by decide) ⟨x,H,I1,ru,⟨rfl,fun ys hy=>by rw [I.list_inj hy hq];exact hx⟩,st',fun b hb=>(hf b hb).1⟩⟩
 done:=by
  intro X hP hw hK hc i pins s σ H E I hf st hg
  subst hP hw hK
  obtain⟨xs,hq,hx⟩:=hg
  obtain⟨its,rv,p,hz⟩:=I.list hq
  obtain⟨f0,f1,f2,f3,f4,f5⟩:=hf it (by simp)
  have hl:=rv.length
  exact wpAny_pyNext_list_end (I.ok.hd hc) st p.isList (by simp;omega) fun h' eb=>⟨rfl,I.turned (t':=s.toks) (fun b o hb e=>eb b o hb e) f0 f1 f3 f4 f5⟩
 self:=fun _ _ _ _ _ st h=>wpAny_pyIter_listiter st h
theorem EZ {P:Program} {w:World} {K:PySem.W.Frag} {tg:Expr} (it:Addr) (lo:Int) (n:Nat):Jf P w K tg (Jb lo n) [it] it (fun i h=>IsRangeIter h it (lo+(i:Nat)*1) ((n:Int) - (i:Nat)) 1) where
 mem:=by simp
 obj:=fun i h st b hb=>by
  have e:b=it:=by simpa using hb
  subst e
  exact⟨_,st,fun v z=>by
   have z':Data.fields _=Data.cell v:=z
   cases z'⟩
 keep:=fun i h h' st k=>k it (by simp) _ st
 item:=by
  intro X hP hw hK hc i pins s σ H E I hf st hg
  subst hP hw hK
  obtain⟨f0,f1,f2,f3,f4,f5⟩:=hf it (by simp)
  have W:=Walks.range (prog:=X.prog) (w:=X.w) (I.ok.hd hc) it lo 1 n
  refine W.item i s _ _ hg st fun v h' tk hv st' kk=> ?_
  obtain⟨t,rfl⟩:=hv
  have I1:a8 X pins σ H {s with heap:=h',toks:=tk}:=I.turned (fun b o hb e=>kk b o (by simpa using hb) e) f0 f1 f3 f4 f5
  refine⟨_,rfl,J6 (s:={s with heap:=h',toks:=tk}) (n:="range_iterator") st' rfl rfl (by decide) ⟨.int (lo+i),H,I1,⟨t,?_⟩,⟨rfl,rfl⟩,st',fun b hb=>(hf b hb).1⟩⟩
  rw [Int.mul_one]
 done:=by
  intro X hP hw hK hc i pins s σ H E I hf st hg
  subst hP hw hK
  obtain⟨f0,f1,f2,f3,f4,f5⟩:=hf it (by simp)
  exact wpAny_pyNext_range_end (I.ok.hd hc) st (by have:n≤i:=hg;omega) fun h' eb=>⟨rfl,I.turned (t':=s.toks) (fun b o hb e=>eb b o hb e) f0 f1 f3 f4 f5⟩
 self:=fun _ _ _ _ _ st h=>wpAny_pyIter_rangeiter st h
end L2
namespace L2
open PySem PySem.Spec PyProof.Rows
section
variable {X:Cx} {tg:Expr}
def Lu (K:PySem.W.Frag) (tl:TE):TI:=fun σ H R=>tl σ H fun x H1=>∃a,x= .ref a∧(∃xs,aX K H1 a xs)∧R (J1 K a) H1
theorem bW {l:Expr} {tl:TE} (hl:PE X l tl):PI X tg l (Lu X.K tl):=by
 intro pins s σ H R I h
 refine dn (hl pins s σ H _ I h) fun v s1 ⟨x,H1,I1,r1,q1⟩=> ?_
 obtain⟨a,e,⟨xs,hq⟩,q⟩:=q1
 subst e
 cases r1
 obtain⟨its,rv,p,hz⟩:=I1.list hq
 refine wpAny_pyIter_list p.isList ?_
 refine⟨s1.heap.objs.size,[s1.heap.objs.size],_,_,H1,rfl,I1.kept (t':=s1.toks) fun b o e=>Heap.get?_push_of_some _ e,Ha a _,⟨_,Heap.get?_push_size _ rfl,rfl,rfl⟩,fun b hb=> ?_,q⟩
 have e:b=s1.heap.objs.size:=by simpa using hb
 subst e
 exact I1.fpOk (Nat.le_refl _) (I1.hok.fresh (Nat.le_refl _))
theorem Dk {pins:List (Addr×Obj)} {σ:St} {H:Hp} {s:Shared} {R:It→Hp→Prop} {E:Value→Shared→Prop} {lo hi:Int} {t u v:Tok} {tk:Nat} (I:a8 X pins σ H s) (h1: -(2 ^ 62)≤lo) (h2:lo<2 ^ 62) (h3: -(2 ^ 62)≤hi) (h4:hi<2 ^ 62)
  (q:R (Jb lo (hi - lo).toNat) H):wpAny (model X.prog X.w) X.A (pyIter (.ref s.heap.objs.size)) (MY X pins σ tg R) E {s with heap:=s.heap.push {cls:= .type "range",data:= .fields #[.int lo t,.int hi u,.int 1 v]},toks:=tk}:=by
 refine wpAny_pyIter_range (IsRange.new ..) (small_one h1 h2 h3 h4) ?_
 have I1:a8 X pins σ H {s with heap:=s.heap.push {cls:= .type "range",data:= .fields #[.int lo t,.int hi u,.int 1 v]},toks:=tk}:=I.kept fun b o e=>Heap.get?_push_of_some _ e
 refine⟨(s.heap.push {cls:= .type "range",data:= .fields #[.int lo t,.int hi u,.int 1 v]}).objs.size,[(s.heap.push {cls:= .type "range",data:= .fields #[.int lo t,.int hi u,.int 1 v]}).objs.size],_,_,H,rfl,
  I1.kept (t':=tk) fun b o e=>Heap.get?_push_of_some _ e,EZ _ lo (hi - lo).toNat,?_,fun b hb=> ?_,q⟩
 ·have e1:lo+((0:Nat):Int)*1=lo:=by simp
  have e2:(((hi - lo).toNat:Nat):Int) - ((0:Nat):Int)=Builtin.Range.rangeSize lo hi 1:=by rw [rangeSize_one];split<;>omega
  show IsRangeIter _ _ (lo+((0:Nat):Int)*1) ((((hi - lo).toNat:Nat):Int) - ((0:Nat):Int)) 1
  rw [e1,e2]
  exact Heap.get?_push_size _ rfl
 ·have e:b=(s.heap.push {cls:= .type "range",data:= .fields #[.int lo t,.int hi u,.int 1 v]}).objs.size:=by simpa using hb
  subst e
  exact I1.fpOk (Nat.le_refl _) (I1.hok.fresh (Nat.le_refl _))
def Lv (ta:TA):TI:=fun σ H R=>ta σ H fun vs H1=>∃j:Int,vs= [.int j]∧-(2 ^ 62)≤j∧j<2 ^ 62∧R (Jb 0 j.toNat) H1
def Lw (ta:TA):TI:=fun σ H R=>ta σ H fun vs H1=>∃i j:Int,vs= [.int i,.int j]∧(-(2 ^ 62)≤i∧i<2 ^ 62∧-(2 ^ 62)≤j∧j<2 ^ 62)∧R (Jb i (j - i).toNat) H1
theorem bR {a:Expr} {ta:TA} {p pos:Pos} (hg:Gl X "range") (hm:X.mg "range"=none) (ha:PA X [a] ta) (hs:starEach [a] X.env= [(false,eval a X.env)]:=by rfl):PI X tg (.Call (.Name "range" p) [a] [] pos) (Lv ta):=by
 intro pins s σ H R I h
 refine Call_ (sC I hg hm boot_range (PyProof.Rows.callWith_type1 (dn (ha pos pins s σ H _ I h) fun us s1 ⟨vs,H1,I1,r1,q1⟩=> ?_) hs rfl))
 obtain⟨j,e,q1,q2,q⟩:=q1
 subst e
 cases r1 with
 | cons r rr=>
  cases rr
  obtain⟨t,rfl⟩:=r
  exact call_range_1 (Dk I1 (by omega) (by omega) q1 q2 (by simpa using q))
theorem GR {a b:Expr} {ta:TA} {p pos:Pos} (hg:Gl X "range") (hm:X.mg "range"=none) (ha:PA X [a,b] ta) (hs:starEach [a,b] X.env= [(false,eval a X.env),(false,eval b X.env)]:=by rfl) (hs2:starEach [b] X.env= [(false,eval b X.env)]:=by rfl):
  PI X tg (.Call (.Name "range" p) [a,b] [] pos) (Lw ta):=by
 intro pins s σ H R I h
 refine Call_ (sC I hg hm boot_range (PyProof.Rows.callWith_type1 (dn (ha pos pins s σ H _ I h) fun us s1 ⟨vs,H1,I1,r1,q1⟩=> ?_) (by rw [hs,hs2]) (by rw [hs2];rfl)))
 obtain⟨i,j,e,⟨q1,q2,q3,q4⟩,q⟩:=q1
 subst e
 cases r1 with
 | cons r rr=>
  cases rr with
  | cons r' rr=>
   cases rr
   obtain⟨t,rfl⟩:=r
   obtain⟨t',rfl⟩:=r'
   exact call_range_2 (Dk I1 q1 q2 q3 q4 q)
def MP (wi:TI) (g:TG) (tb:TS):TS:=fun D σ H=>wi σ H fun J H1=>∃W:Nat→Nat→St→Hp→Prop,(∃m,W 0 m σ H1)∧∀i m σ H,W i m σ H→
 (J.stop i H∧D.nx σ H)∨(J.go i H∧∃N:St→Hp→Prop,(∀σ' H',N σ' H'→∃m',m'<m∧W (i+1) m' σ' H')∧∀x H',J.yld i H x H'→g x σ H' fun σ2 H2=>tb {D with nx:=N,ct:=N,bk:=D.nx} σ2 H2)
def y9 (fp:List Addr) (h:Heap):List (Addr×Obj):=fp.filterMap fun b=>(h.get? b).map fun o=>(b,o)
theorem sJ {fp:List Addr} {h:Heap} {b:Addr} {o:Obj} (hb:b∈fp) (e:h.get? b=some o):(b,o)∈y9 fp h:=List.mem_filterMap.mpr ⟨b,hb,by rw [e];rfl⟩
theorem Gx {fp:List Addr} {h:Heap} {p:Addr×Obj} (hp:p∈y9 fp h):p.1∈fp∧h.get? p.1=some p.2:=by
 obtain⟨b,hb,e⟩:=List.mem_filterMap.mp hp
 cases q:h.get? b with
 | none=>rw [q] at e;cases e
 | some o=>
  rw [q] at e
  have e':(b,o)=p:=Option.some.inj e
  subst e'
  exact⟨hb,q⟩
theorem a8.pinned {pins:List (Addr×Obj)} {σ:St} {H:Hp} {s:Shared} {fp:List Addr} (I:a8 X pins σ H s) (hf:∀b∈fp,xr X pins H b) (ho:∀b∈fp,∃o,s.heap.get? b=some o∧∀v,o.data≠ .cell v):a8 X (pins++y9 fp s.heap) σ H s:=
 I.pins_of fun p hp=>(List.mem_append.mp hp).elim (fun z=>I.pin p (List.mem_append_right _ z)) fun z=>by
  obtain⟨hb,e⟩:=Gx z
  obtain⟨f0,f1,f2,_⟩:=hf p.1 hb
  obtain⟨o,e',d⟩:=ho p.1 hb
  rw [e] at e';cases e'
  exact⟨e,f0,f1,f2,d⟩
theorem a8.unpinned {pins pl:List (Addr×Obj)} {σ:St} {H:Hp} {s:Shared} (I:a8 X (pins++pl) σ H s):a8 X pins σ H s:=I.pins_of fun p hp=>I.pin p (List.mem_append_right _ (List.mem_append_left _ hp))
theorem cZ {iter:Expr} {body:List Stmt} {wi:TI} {g:TG} {tb:TS} {pos:Pos} (hp:PassesOwn (model X.prog X.w) X.A X.env X.xe) (hc:X.calm=true) (hi:PI X tg iter wi) (hg:PG X tg g) (hb:D9 X body tb)
  (hs:∀x,foldedSetIterable iter X.env x=pure x:=by intro _;rfl):PS X (.For tg iter body [] pos) (MP wi g tb):=by
 intro pins s σ H D I h
 refine wpAny_For (dn (hi pins s σ H _ I h) fun v s1 h1=>dn h1 fun itv s2 h2=> ?_) hs
 obtain⟨it,fp,tn,J,H2,e,I2,T,st2,f2,W,⟨m0,w0⟩,turn⟩:=h2
 subst e
 have stat:∀{H':Hp},(∀b∈fp,H' b=none)→∀b∈fp,xr X pins H' b:=fun hn b hb=>⟨hn b hb,(f2 b hb).2⟩
 refine codeAny_forLoop_any (fun n s'=>∃i σ' H',a8 X pins σ' H' s'∧tn i s'.heap∧(∀b∈fp,H' b=none)∧W i n σ' H') ?_ m0 ⟨0,σ,H2,I2,st2,fun b hb=>(f2 b hb).1,w0⟩
 rintro n s3 ⟨i,σ3,H3,I3,st3,fr3,w3⟩
 rcases turn i n σ3 H3 w3 with⟨stop,qn⟩ | ⟨go,N,hN,step⟩
 ·refine wpAny_passesOwn hp (dn (T.done X rfl rfl rfl hc i pins s3 σ3 H3 X.xe I3 (stat fr3) st3 stop) fun r s4 ⟨hr,I4⟩=> ?_)
  subst hr
  exact wpAny_execs_nil ⟨σ3,H3,I4,qn⟩
 ·refine wpAny_passesOwn hp (dn (T.item X rfl rfl rfl hc i pins s3 σ3 H3 X.xe I3 (stat fr3) st3 go) fun r s4 ⟨u,hr,h4⟩=> ?_)
  subst hr
  refine wpAny_passesOwn hp (dn h4 fun _ s5 ⟨x,H5,I5,r5,y5,st5,fr5⟩=> ?_)
  have I5':=I5.pinned (stat fr5) (T.obj _ _ st5)
  refine wpAny_passesOwn hp (dn (hg _ s5 σ3 H5 x u _ I5' r5 (step x H5 y5)) fun _ s6 ⟨σ6,H6,I6,q6⟩=> ?_)
  refine wpAny_passesOwn hp (dn (hb _ s6 σ6 H6 _ I6 q6) fun f s7 q7=> ?_)
  have again:∀{σ7:St} {H7:Hp},a8 X (pins++y9 fp s5.heap) σ7 H7 s7→N σ7 H7→∃m,m<n∧∃i σ' H',a8 X pins σ' H' s7∧tn i s7.heap∧(∀b∈fp,H' b=none)∧W i m σ' H':=fun {σ7 H7} I7 n7=>by
   obtain⟨m',hm,w7⟩:=hN σ7 H7 n7
   refine⟨m',hm,i+1,σ7,H7,I7.unpinned,T.keep _ _ _ st5 fun b hb o e=>(I7.pin (b,o) (List.mem_append_right _ (List.mem_append_right _ (sJ hb e)))).1,fun b hb=> ?_,w7⟩
   obtain⟨o,e,d⟩:=T.obj _ _ st5 b hb
   exact(I7.pin (b,o) (List.mem_append_right _ (List.mem_append_right _ (sJ hb e)))).2.1
  cases f with
  | next=>obtain⟨σ7,H7,I7,n7⟩:=q7;exact again I7 n7
  | cont=>obtain⟨σ7,H7,I7,n7⟩:=q7;exact again I7 n7
  | brk=>obtain⟨σ7,H7,I7,q7⟩:=q7;exact⟨σ7,H7,I7.unpinned,q7⟩
  | ret v=>obtain⟨x7,σ7,H7,I7,r7,q7⟩:=q7;exact⟨x7,σ7,H7,I7.unpinned,r7,q7⟩
end
theorem c9 {K:PySem.W.Frag} {a:Addr} {xs:List V} {g:TG} {tb:TS} {D:Cw} {σ:St} {H:Hp} (Pv:Nat→St→Hp→Prop) (h0:Pv 0 σ H) (hl:∀i σ H,i≤xs.length→Pv i σ H→aX K H a xs)
  (hs:∀i x σ H,xs[i]?=some x→Pv i σ H→g x σ H fun σ2 H2=>tb {D with nx:=Pv (i+1),ct:=Pv (i+1),bk:=D.nx} σ2 H2) (hd:∀σ H,Pv xs.length σ H→D.nx σ H):
  ∃W:Nat→Nat→St→Hp→Prop,(∃m,W 0 m σ H)∧∀i m σ H,W i m σ H→
   ((J1 K a).stop i H∧D.nx σ H)∨((J1 K a).go i H∧∃N:St→Hp→Prop,(∀σ' H',N σ' H'→∃m',m'<m∧W (i+1) m' σ' H')∧∀x H',(J1 K a).yld i H x H'→g x σ H' fun σ2 H2=>tb {D with nx:=N,ct:=N,bk:=D.nx} σ2 H2):=by
 refine⟨fun i m σ H=>m=xs.length - i∧i≤xs.length∧Pv i σ H,⟨xs.length,by simp,Nat.zero_le _,h0⟩,?_⟩
 rintro i m σ H ⟨rfl,hi,p⟩
 have q:=hl i σ H hi p
 by_cases hlt:i<xs.length
 ·refine .inr ⟨⟨xs,xs[i],q,by simp [hlt]⟩,Pv (i+1),fun σ' H' p'=>⟨xs.length - (i+1),by omega,rfl,hlt,p'⟩,fun x H' y=> ?_⟩
  obtain⟨e,y⟩:=y
  subst e
  exact hs i x σ _ (y xs q) p
 ·have e:i=xs.length:=by omega
  subst e
  exact .inl ⟨⟨xs,q,Nat.le_refl _⟩,hd σ H p⟩
theorem fy {lo:Int} {n:Nat} {g:TG} {tb:TS} {D:Cw} {σ:St} {H:Hp} (Pv:Nat→St→Hp→Prop) (h0:Pv 0 σ H)
  (hs:∀i σ H,i<n→Pv i σ H→g (.int (lo+i)) σ H fun σ2 H2=>tb {D with nx:=Pv (i+1),ct:=Pv (i+1),bk:=D.nx} σ2 H2) (hd:∀σ H,Pv n σ H→D.nx σ H):
  ∃W:Nat→Nat→St→Hp→Prop,(∃m,W 0 m σ H)∧∀i m σ H,W i m σ H→
   ((Jb lo n).stop i H∧D.nx σ H)∨((Jb lo n).go i H∧∃N:St→Hp→Prop,(∀σ' H',N σ' H'→∃m',m'<m∧W (i+1) m' σ' H')∧∀x H',(Jb lo n).yld i H x H'→g x σ H' fun σ2 H2=>tb {D with nx:=N,ct:=N,bk:=D.nx} σ2 H2):=by
 refine⟨fun i m σ H=>m=n - i∧i≤n∧Pv i σ H,⟨n,by simp,Nat.zero_le _,h0⟩,?_⟩
 rintro i m σ H ⟨rfl,hi,p⟩
 by_cases hlt:i<n
 ·refine .inr ⟨hlt,Pv (i+1),fun σ' H' p'=>⟨n - (i+1),by omega,rfl,hlt,p'⟩,fun x H' y=> ?_⟩
  obtain⟨e,y⟩:=y
  subst e y
  exact hs i σ _ hlt p
 ·have e:i=n:=by omega
  subst e
  exact .inl ⟨Nat.le_refl _,hd σ H p⟩
end L2
namespace L2
open PySem PySem.Spec PyProof.Rows
abbrev R2:=V→V→Hp→VK→Prop
def yr (X:Cx) (f:Value→Value→Sem Value) (r:R2):Prop:=
 ∀(pins:List (Addr×Obj)) (s:Shared) (σ:St) (H:Hp) (x y:V) (v u:Value) (Q:VK),a8 X pins σ H s→cj x v→cj y u→r x y H Q→
  wpAny (model X.prog X.w) X.A (f v u) (EP X pins σ Q) X.xe s
def Mm (X:Cx) (f:Value→Sem Value) (r:V→Hp→VK→Prop):Prop:=
 ∀(pins:List (Addr×Obj)) (s:Shared) (σ:St) (H:Hp) (x:V) (v:Value) (Q:VK),a8 X pins σ H s→cj x v→r x H Q→
  wpAny (model X.prog X.w) X.A (f v) (EP X pins σ Q) X.xe s
def oK (X:Cx) (f:Value) (r:List V→Hp→VK→Prop):Prop:=
 ∀(pins:List (Addr×Obj)) (s:Shared) (σ:St) (H:Hp) (xs:List V) (us:List Value) (Q:VK),a8 X pins σ H s→bw xs us→r xs H Q→
  wpAny (model X.prog X.w) X.A (call f us) (EP X pins σ Q) X.xe s
def LX (r:R2) (ta tb:TE):TE:=fun σ H Q=>ta σ H fun x H1=>tb σ H1 fun y H2=>r x y H2 Q
def Nl (r:V→Hp→VK→Prop) (ta:TE):TE:=fun σ H Q=>ta σ H fun x H1=>r x H1 Q
def rI (C:Int→Int→Prop) (g:Int→Int→V):R2:=fun x y H Q=>∃i j,x= .int i∧y= .int j∧C i j∧Q (g i j) H
def JO (g:Int→Int→V):R2:=fun x y H Q=>∃i j,x= .int i∧y= .int j∧Q (g i j) H
def rU (g:Int→V):V→Hp→VK→Prop:=fun x H Q=>∃i,x= .int i∧Q (g i) H
section
variable {X:Cx} {a b c:Expr} {ta tb tc:TE} {pos:Pos}
theorem Kt (ha:PE X a ta) (hb:PE X b tb) {pins:List (Addr×Obj)} {s:Shared} {σ:St} {H:Hp} {R:V→V→Hp→Prop} (I:a8 X pins σ H s)
  (h:ta σ H fun x H1=>tb σ H1 fun y H2=>R x y H2) {Q:Value→Shared→Prop} {f:Value→Value→Sem Value}
  (hf:∀v u s2 x y H2,a8 X pins σ H2 s2→cj x v→cj y u→R x y H2→wpAny (model X.prog X.w) X.A (f v u) Q X.xe s2):
  wpAny (model X.prog X.w) X.A (eval a X.env) (fun v s₁=>wpAny (model X.prog X.w) X.A (eval b X.env) (fun u s₂=>wpAny (model X.prog X.w) X.A (f v u) Q X.xe s₂) X.xe s₁) X.xe s:=by
 refine dn (ha pins s σ H _ I h) fun v s1 ⟨x,H1,I1,r1,q1⟩=> ?_
 refine dn (hb pins s1 σ H1 _ I1 q1) fun u s2 ⟨y,H2,I2,r2,q2⟩=> ?_
 exact hf v u s2 x y H2 I2 r1 r2 q2
theorem aB {op:Operator} {r:R2} (ho:yr X (binaryOp op) r) (ha:PE X a ta) (hb:PE X b tb):PE X (.BinOp a op b pos) (LX r ta tb):=by
 intro pins s σ H Q I h
 exact wpAny_BinOp (Kt ha hb I h fun v u s2 x y H2 I2 rx ry q=>ho pins s2 σ H2 x y v u Q I2 rx ry q)
theorem FC {op:UnaryOp} {r:V→Hp→VK→Prop} (ho:Mm X (unaryOp op) r) (ha:PE X a ta):PE X (.UnaryOp op a pos) (Nl r ta):=by
 intro pins s σ H Q I h
 exact UnaryOp_ (dn (ha pins s σ H _ I h) fun v s1 ⟨x,H1,I1,r1,q1⟩=>ho pins s1 σ H1 x v Q I1 r1 q1)
theorem MA {f:Value→Value→Sem Value} {C:Int→Int→Prop} {g:Int→Int→Int}
  (rule:∀(i j:Int) (t u:Tok) (s:Shared) (Q:Value→Shared→Prop) (E:Value→Shared→Prop),C i j→Q (.int (g i j) s.toks) {s with toks:=s.toks+1}→wpAny (model X.prog X.w) X.A (f (.int i t) (.int j u)) Q E s):
  yr X f (rI C fun i j=> .int (g i j)):=by
 intro pins s σ H x y v u Q I rx ry h
 obtain⟨i,j,rfl,rfl,hc,q⟩:=h
 obtain⟨t,rfl⟩:=rx
 obtain⟨t',rfl⟩:=ry
 exact rule i j t t' s _ _ hc ⟨.int (g i j),H,I.tok _,⟨_,rfl⟩,q⟩
theorem KO {f:Value→Value→Sem Value} {g:Int→Int→Int}
  (rule:∀(i j:Int) (t u:Tok) (s:Shared) (Q:Value→Shared→Prop) (E:Value→Shared→Prop),Q (.int (g i j) s.toks) {s with toks:=s.toks+1}→wpAny (model X.prog X.w) X.A (f (.int i t) (.int j u)) Q E s):
  yr X f (JO fun i j=> .int (g i j)):=by
 intro pins s σ H x y v u Q I rx ry h
 obtain⟨i,j,rfl,rfl,q⟩:=h
 obtain⟨t,rfl⟩:=rx
 obtain⟨t',rfl⟩:=ry
 exact rule i j t t' s _ _ ⟨.int (g i j),H,I.tok _,⟨_,rfl⟩,q⟩
theorem JD {f:Value→Value→Sem Value} {g:Int→Int→Bool}
  (rule:∀(i j:Int) (t u:Tok) (s:Shared) (Q:Value→Shared→Prop) (E:Value→Shared→Prop),Q (.bool (g i j)) s→wpAny (model X.prog X.w) X.A (f (.int i t) (.int j u)) Q E s):
  yr X f (JO fun i j=> .bl (g i j)):=by
 intro pins s σ H x y v u Q I rx ry h
 obtain⟨i,j,rfl,rfl,q⟩:=h
 obtain⟨t,rfl⟩:=rx
 obtain⟨t',rfl⟩:=ry
 exact rule i j t t' s _ _ ⟨.bl (g i j),H,I,rfl,q⟩
theorem bG:yr X (binaryOp .Add) (JO fun i j=> .int (i+j)):=KO fun _ _ _ _ _ _ _ q=>add_int q
theorem bI:yr X (binaryOp .Sub) (JO fun i j=> .int (i - j)):=KO fun _ _ _ _ _ _ _ q=>sub_int q
theorem sU:yr X (binaryOp .Mod) (rI (fun _ j=>0<j) fun i j=> .int (i%j)):=MA fun i j _ _ _ _ _ hc q=>by
 have h1:(0:Int)<j:=hc
 exact mod_int' (by omega) (by rw [Int.fmod_eq_emod_of_nonneg i (by omega)];exact q)
theorem Ik:yr X (binaryOp .BitAnd) (JO fun i j=> .int (Builtin.bitAnd i j)):=KO fun _ _ _ _ _ _ _ q=>and_int q
theorem Nm {f:Value→Sem Value} {g:Int→Int}
  (rule:∀(i:Int) (t:Tok) (s:Shared) (Q:Value→Shared→Prop) (E:Value→Shared→Prop),Q (.int (g i) s.toks) {s with toks:=s.toks+1}→wpAny (model X.prog X.w) X.A (f (.int i t)) Q E s):
  Mm X f (rU fun i=> .int (g i)):=by
 intro pins s σ H x v Q I rx h
 obtain⟨i,rfl,q⟩:=h
 obtain⟨t,rfl⟩:=rx
 exact rule i t s _ _ ⟨.int (g i),H,I.tok _,⟨_,rfl⟩,q⟩
theorem Cn:Mm X (unaryOp .USub) (rU fun i=> .int (-i)):=Nm fun _ _ _ _ _ q=>neg_int q
end
def LN:V→V→Bool
 | .non,.non=>true | .non,.int _=>true | .int _,.non=>true | .non,.bl _=>true | .bl _,.non=>true | .non,.str _=>true | .str _,.non=>true
 | .int _,.int _=>true | .bl _,.bl _=>true | .str _,.str _=>true | .byt _,.byt _=>true
 | .int _,.str _=>true | .str _,.int _=>true | .bl _,.str _=>true | .str _,.bl _=>true
 | _,_=>false
def Nf:R2:=fun x y H Q=>LN x y=true∧Q (.bl (decide (x=y))) H
def Ng:R2:=fun x y H Q=>LN x y=true∧Q (.bl (!decide (x=y))) H
theorem Fe {i j:Int}:decide (V.int i=V.int j)=(i==j):=by
 rw [Bool.eq_iff_iff]
 simp
theorem HB {i j:Bool}:decide (V.bl i=V.bl j)=(i==j):=by
 rw [Bool.eq_iff_iff]
 simp
theorem Ff {i j:Str}:decide (V.str i=V.str j)=(i==j):=by
 rw [Bool.eq_iff_iff]
 simp
theorem Fd {i j:Array UInt8}:decide (V.byt i=V.byt j)=(i.toList==j.toList):=by
 rw [Bool.eq_iff_iff]
 cases i
 cases j
 simp
section
variable {X:Cx} {a b c:Expr} {ta tb tc:TE} {pos:Pos}
theorem b9 {pins:List (Addr×Obj)} {σ:St} {H:Hp} {s:Shared} {Q:VK} {k k':Bool} (I:a8 X pins σ H s) (q:Q (.bl k) H) (e:k=k'):EP X pins σ Q (.bool k') s:=by
 subst e
 exact⟨.bl k,H,I,rfl,q⟩
theorem oR:yr X (compareOp .Eq) Nf:=by
 intro pins s σ H x y v u Q I rx ry h
 obtain⟨hs,q⟩:=h
 cases x with
 | non=>
  cases rx
  cases y with
  | non=>cases ry;exact PySem.EqNone.eq_none_none (b9 I q (by simp))
  | bl j=>cases ry;exact PySem.EqNone.eq_none_bool (b9 I q (by simp))
  | int j=>obtain⟨t',rfl⟩:=ry;exact PySem.EqNone.eq_none_int (b9 I q (by simp))
  | str j=>obtain⟨t',rfl⟩:=ry;exact PySem.EqNone.eq_none_str (b9 I q (by simp))
  | _=>exact absurd (show false=true from hs) Bool.false_ne_true
 | bl i=>
  cases rx
  cases y with
  | non=>cases ry;exact PySem.EqNone.eq_bool_none (b9 I q (by simp))
  | bl j=>cases ry;exact eq_bool (b9 I q HB)
  | str j=>obtain⟨t',rfl⟩:=ry;exact PySem.EqMixed.eq_bool_str (b9 I q (by simp))
  | _=>exact absurd (show false=true from hs) Bool.false_ne_true
 | int i=>
  obtain⟨t,rfl⟩:=rx
  cases y with
  | non=>cases ry;exact PySem.EqNone.eq_int_none (b9 I q (by simp))
  | int j=>obtain⟨t',rfl⟩:=ry;exact eq_int (b9 I q Fe)
  | str j=>obtain⟨t',rfl⟩:=ry;exact PySem.EqMixed.eq_int_str (b9 I q (by simp))
  | _=>exact absurd (show false=true from hs) Bool.false_ne_true
 | str i=>
  obtain⟨t,rfl⟩:=rx
  cases y with
  | non=>cases ry;exact PySem.EqNone.eq_str_none (b9 I q (by simp))
  | bl j=>cases ry;exact PySem.EqMixed.eq_str_bool (b9 I q (by simp))
  | int j=>obtain⟨t',rfl⟩:=ry;exact PySem.EqMixed.eq_str_int (b9 I q (by simp))
  | str j=>obtain⟨t',rfl⟩:=ry;exact eq_str (b9 I q Ff)
  | _=>exact absurd (show false=true from hs) Bool.false_ne_true
 | byt i=>
  obtain⟨t,rfl⟩:=rx
  cases y with
  | byt j=>obtain⟨t',rfl⟩:=ry;exact PySem.W.eq_bytes (b9 I q Fd)
  | _=>exact absurd (show false=true from hs) Bool.false_ne_true
 | _=>cases y<;>exact absurd (show false=true from hs) Bool.false_ne_true
theorem FA:yr X (compareOp .NotEq) Ng:=by
 intro pins s σ H x y v u Q I rx ry h
 obtain⟨hs,q⟩:=h
 cases x with
 | non=>
  cases rx
  cases y with
  | non=>cases ry;exact PySem.EqNone.ne_none_none (b9 I q (by simp))
  | bl j=>cases ry;exact PySem.EqNone.ne_none_bool (b9 I q (by simp))
  | int j=>obtain⟨t',rfl⟩:=ry;exact PySem.EqNone.ne_none_int (b9 I q (by simp))
  | str j=>obtain⟨t',rfl⟩:=ry;exact PySem.EqNone.ne_none_str (b9 I q (by simp))
  | _=>exact absurd (show false=true from hs) Bool.false_ne_true
 | bl i=>
  cases rx
  cases y with
  | non=>cases ry;exact PySem.EqNone.ne_bool_none (b9 I q (by simp))
  | bl j=>cases ry;exact ne_bool (b9 I q (congrArg not HB))
  | str j=>obtain⟨t',rfl⟩:=ry;exact PySem.EqMixed.ne_bool_str (b9 I q (by simp))
  | _=>exact absurd (show false=true from hs) Bool.false_ne_true
 | int i=>
  obtain⟨t,rfl⟩:=rx
  cases y with
  | non=>cases ry;exact PySem.EqNone.ne_int_none (b9 I q (by simp))
  | int j=>obtain⟨t',rfl⟩:=ry;exact ne_int (b9 I q (congrArg not Fe))
  | str j=>obtain⟨t',rfl⟩:=ry;exact PySem.EqMixed.ne_int_str (b9 I q (by simp))
  | _=>exact absurd (show false=true from hs) Bool.false_ne_true
 | str i=>
  obtain⟨t,rfl⟩:=rx
  cases y with
  | non=>cases ry;exact PySem.EqNone.ne_str_none (b9 I q (by simp))
  | bl j=>cases ry;exact PySem.EqMixed.ne_str_bool (b9 I q (by simp))
  | int j=>obtain⟨t',rfl⟩:=ry;exact PySem.EqMixed.ne_str_int (b9 I q (by simp))
  | str j=>obtain⟨t',rfl⟩:=ry;exact ne_str (b9 I q (congrArg not Ff))
  | _=>exact absurd (show false=true from hs) Bool.false_ne_true
 | byt i=>
  obtain⟨t,rfl⟩:=rx
  cases y with
  | byt j=>obtain⟨t',rfl⟩:=ry;exact PySem.W.ne_bytes (b9 I q (congrArg not Fd))
  | _=>exact absurd (show false=true from hs) Bool.false_ne_true
 | _=>cases y<;>exact absurd (show false=true from hs) Bool.false_ne_true
theorem jj:yr X (compareOp .Lt) (JO fun i j=> .bl (decide (i<j))):=JD fun _ _ _ _ _ _ _ q=>lt_int q
theorem Ka:yr X (compareOp .LtE) (JO fun i j=> .bl (decide (i≤j))):=JD fun _ _ _ _ _ _ _ q=>le_int q
theorem rP:yr X (compareOp .Gt) (JO fun i j=> .bl (decide (j<i))):=JD fun _ _ _ _ _ _ _ q=>gt_int q
theorem Fz:yr X (compareOp .GtE) (JO fun i j=> .bl (decide (j≤i))):=JD fun _ _ _ _ _ _ _ q=>ge_int q
theorem iS:yr X (compareOp .Is) (fun x y H Q=>y= .non∧Q (.bl (decide (x= .non))) H):=by
 intro pins s σ H x y v u Q I rx ry h
 obtain⟨rfl,q⟩:=h
 cases ry
 refine is_none_gen (b9 I q ?_)
 cases x<;>first
  | (cases rx;rfl)
  | (obtain⟨t,rfl⟩:=rx;rfl)
theorem aV (b:Expr) {op:CmpOp} (h:op≠ .In:=by decide) (h2:op≠ .NotIn:=by decide):behindInMarks op b=false:=by
 have e1:(op==CmpOp.In)=false:=by cases op<;>first | rfl | exact absurd rfl h
 have e2:(op==CmpOp.NotIn)=false:=by cases op<;>first | rfl | exact absurd rfl h2
 cases b<;>simp [behindInMarks,e1,e2]
theorem BS {op:CmpOp} {r:R2} (ho:yr X (compareOp op) r) (ha:PE X a ta) (hb:PE X b tb) (hm:behindInMarks op b=false):PE X (.Compare a [op] [b] pos) (LX r ta tb):=by
 intro pins s σ H Q I h
 exact wpAny_Compare1 (Kt ha hb I h fun v u s2 x y H2 I2 rx ry q=>ho pins s2 σ H2 x y v u Q I2 rx ry q) hm
def L0 (t:TE):TT:=fun σ H Q=>t σ H fun x H'=>∃k,x= .bl k∧Q k H'
theorem aO {op:CmpOp} {r:R2} (ho:yr X (compareOp op) r) (ha:PE X a ta) (hb:PE X b tb) (hm:behindInMarks op b=false):PT X (.Compare a [op] [b] pos) (L0 (LX r ta tb)):=by
 intro pins s σ H Q I h
 refine wpAny_isTrue_Compare1 (dn (ha pins s σ H _ I h) fun v s1 ⟨x,H1,I1,r1,q1⟩=>dn (hb pins s1 σ H1 _ I1 q1) fun u s2 ⟨y,H2,I2,r2,q2⟩=>
  dn (ho pins s2 σ H2 x y v u _ I2 r1 r2 q2) fun c s3 ⟨z,H3,I3,r3,k,e,q3⟩=> ?_) hm
 subst e
 cases r3
 exact wpAny_truthy_bool ⟨H3,I3,q3⟩
def K9 (r r':R2) (ta tb tc:TE):TE:=fun σ H Q=>ta σ H fun x H1=>tb σ H1 fun y H2=>r x y H2 fun z H3=>∃k,z= .bl k∧
 (if k=true then tc σ H3 fun w' H4=>r' y w' H4 Q else Q (.bl false) H3)
theorem Ir {op op':CmpOp} {r r':R2} (ho:yr X (compareOp op) r) (ho':yr X (compareOp op') r') (ha:PE X a ta) (hb:PE X b tb) (hc:PE X c tc)
  (hm:lastMarks [op,op'] [b,c]=false:=by with_unfolding_all rfl):PE X (.Compare a [op,op'] [b,c] pos) (K9 r r' ta tb tc):=by
 intro pins s σ H Q I h
 refine Compare_chain (dn (ha pins s σ H _ I h) fun v s1 ⟨x,H1,I1,r1,q1⟩=>chain_link (dn (hb pins s1 σ H1 _ I1 q1) fun u s2 ⟨y,H2,I2,r2,q2⟩=>
  dn (ho pins s2 σ H2 x y v u _ I2 r1 r2 q2) fun d s3 ⟨z,H3,I3,r3,k,e,q3⟩=> ?_)) hm
 subst e
 cases r3
 refine wpAny_truthy_bool ?_
 cases k with
 | false=>exact ite_ff ⟨.bl false,H3,I3,rfl,q3⟩
 | true=>exact ite_tt (chain_last (dn (hc pins s3 σ H3 _ I3 q3) fun w' s4 ⟨z',H4,I4,r4,q4⟩=>ho' pins s4 σ H4 y z' u w' Q I4 r2 r4 q4))
theorem yJ:(sizeLine:Nat)<2 ^ 63:=by rw [sizeLine_eq];decide
theorem FP {x:V} {us:List Value} (r:bw [x] us):∃u,us= [u]∧cj x u:=by
 cases r with
 | cons r1 r2=>cases r2;exact⟨_,rfl,r1⟩
theorem Kf {x y:V} {us:List Value} (r:bw [x,y] us):∃u w',us= [u,w']∧cj x u∧cj y w':=by
 cases r with
 | cons r1 r2=>
  cases r2 with
  | cons r3 r4=>cases r4;exact⟨_,_,rfl,r1,r3⟩
theorem CC:oK X (.builtin "abs") (fun xs H Q=>∃i,xs= [.int i]∧Q (.int (if i<0 then -i else i)) H):=by
 intro pins s σ H xs us Q I r h
 obtain⟨i,rfl,q⟩:=h
 obtain⟨u,rfl,t,rfl⟩:=FP r
 exact call_abs_int fun u tk=>⟨.int (if i<0 then -i else i),H,I.tok _,⟨_,rfl⟩,q⟩
theorem F6 (hc:X.calm=true):oK X (.builtin "max") (fun xs H Q=>∃i j,xs= [.int i,.int j]∧Q (.int (if j>i then j else i)) H):=by
 intro pins s σ H xs us Q I r h
 obtain⟨i,j,rfl,q⟩:=h
 obtain⟨u,w',rfl,⟨t,rfl⟩,⟨t',rfl⟩⟩:=Kf r
 refine max_two_ints (I.ok.hd hc) fun h' tk k=>⟨_,H,I.kept k,?_,q⟩
 by_cases hj:j>i
 ·rw [if_pos hj,if_pos hj];exact⟨_,rfl⟩
 ·rw [if_neg hj,if_neg hj];exact⟨_,rfl⟩
theorem AL (hc:X.calm=true):oK X (.builtin "min") (fun xs H Q=>∃i j,xs= [.int i,.int j]∧Q (.int (if j<i then j else i)) H):=by
 intro pins s σ H xs us Q I r h
 obtain⟨i,j,rfl,q⟩:=h
 obtain⟨u,w',rfl,⟨t,rfl⟩,⟨t',rfl⟩⟩:=Kf r
 refine min_two_ints (I.ok.hd hc) fun h' tk k=>⟨_,H,I.kept k,?_,q⟩
 by_cases hj:j<i
 ·rw [if_pos hj,if_pos hj];exact⟨_,rfl⟩
 ·rw [if_neg hj,if_neg hj];exact⟨_,rfl⟩
end
end L2
namespace L2
open PySem PySem.Spec PyProof.Rows
structure Ec (h:Heap) (x dx C:Addr) (mA:Str→Option Value):Prop where
 obj:h.get? x=some (PySem.W.instObj C dx)
 ns:h.Ns1 dx mA
 ne:dx≠x
theorem Gv {h:Heap} {dx:Addr} {mA:Str→Option Value} (n:h.Ns1 dx mA):∃od,h.get? dx=some od∧∀name,PySem.W.lookIn name od=some (mA name):=by
 obtain⟨o,es,ep,ho,hd,hk,_,hm⟩:=n
 refine⟨o,ho,fun name=> ?_⟩
 have e:=hm name
 unfold nsFind findBy at e
 rw [←Array.find?_toList] at e
 unfold PySem.W.lookIn
 rw [hd]
 dsimp only
 split
 ·rename_i y q
  rw [q] at e
  exact congrArg some e
 ·rename_i q
  rw [q] at e
  have a:es.toList.any (·.refKey)=false:=by
   rw [List.any_eq_false]
   intro y hy
   obtain⟨z,t,hkey⟩:=hk y (Array.mem_toList_iff.mp hy)
   simp [DictEntry.refKey,hkey]
  have a':¬es.toList.any (·.refKey)=true:=by rw [a];exact Bool.false_ne_true
  rw [if_neg a']
  exact congrArg some e
theorem Ec.look {h:Heap} {x dx C:Addr} {mA:Str→Option Value} (I:Ec h x dx C mA):∃od,PySem.W.InstAt h x (PySem.W.instObj C dx) C (some od)∧∀name,PySem.W.lookIn name od=some (mA name):=
 let ⟨od,ho,hl⟩:=Gv I.ns
 ⟨od,⟨I.obj,rfl,rfl,ho⟩,hl⟩
section
variable {prog:Program} {w:World} {A:Around} {E:Value→Shared→Prop} {s:Shared} {K:PySem.W.Frag} {x dx C f:Addr} {mA:Str→Option Value} {name:Str} {v:Value}
theorem Fi {expr:Bool} {Q:Value→Shared→Prop} (X:K.In s.heap) (I:Ec s.heap x dx C mA) (hg:PySem.W.plainGet K C name=true) (hh:PySem.W.hasDictIn K C=true)
  (ha:PySem.W.findIn K (.ref C) name=some none) (hv:mA name=some v) (hv':PySem.W.handedIn v=true) (h:Q v {s with toks:=s.toks+1}):
  wpAny (model prog w) A (getAttr (.ref x) name expr) Q E s:=by
 obtain⟨od,J,hl⟩:=I.look
 exact PySem.W.get_value X J (PySem.W.plainGet_of hg).1 (PySem.W.findObj_own hh ha rfl (by rw [hl,hv])) hv' h
theorem HJ {pl:Sem Bool} {Q:Value×List Value→Shared→Prop} (X:K.In s.heap) (I:Ec s.heap x dx C mA) (hg:PySem.W.plainGet K C name=true)
  (hf:PySem.W.findIn K (.ref C) name=some (some (.ref f))) (ht:PySem.W.isFn K (.ref f)=true) (hv:mA name=none) (h:Q (.ref f,[.ref x]) s):
  wpAny (model prog w) A (getMethod (.ref x) name pl) Q E s:=by
 obtain⟨od,J,hl⟩:=I.look
 exact PySem.W.method_fn X J (PySem.W.plainGet_of hg).1 (PySem.W.plainGet_of hg).2 hf (beq_iff_eq.mp ht) (by show(PySem.W.lookIn name od).map (·.isSome)=some false;rw [hl,hv];rfl) h
theorem JR {ns:List Str} {Q:Unit→Shared→Prop} (X:K.In s.heap) (I:Ec s.heap x dx C mA)
  (hs:PySem.W.findIn K (.ref C) "__setattr__"=some (some (.builtin "object.__setattr__"))) (hp:PySem.W.plainOver K C=true) (ht:PySem.W.takerIn K C name=some none) (hh:PySem.W.hasDictIn K C=true)
  (hw:PySem.Within mA ns) (hsz:ns.length≤sizeLine)
  (h:∀h',Ec h' x dx C (fun y=>if y=name then some v else mA y)→Heap.SameBut dx s.heap h'→Q () {s with heap:=h',toks:=s.toks+2}):
  wpAny (model prog w) A (setAttr (.ref x) name v) Q E s:=by
 obtain⟨od,J,hl⟩:=I.look
 refine PySem.W.set_plain X J hs (PySem.W.osa_open (s:={s with toks:=s.toks+1}) (r:=none) X J hp ht fun b=> ?_)
 obtain⟨cd,hc,hd'⟩:=PySem.W.any_some hh
 have hx:s.heap.get? x=some ⟨.ref C,some dx,.plain,#[]⟩:=I.obj
 refine wpAny_bind (wpAny_pure (wpAny_bind (wpAny_bind (wpAny_loadPart hx (wpAny_bind (PySem.W.Looks.here (s:={s with toks:=s.toks+1}) (PySem.W.looks_clsIn X hc) ?_))))))
 rw [hd']
 refine wpAny_pure (a:=some dx) (wpAny_bind (wpAny_pure (wpAny_bind ?_)))
 refine wpAny_nsSet1 (s:={s with toks:=s.toks+1}) I.ns fun h' hn2 hs2=> ?_
 obtain⟨oD,esD,epD,hoD,hdD,hcD⟩:=hn2.count (PySem.Within.cons name v hw)
 refine wpAny_bind (wpAny_lookBehind hoD (by rw [hdD];exact pastItsLine_dict (Nat.le_trans hcD (by rw [List.length_cons];omega))) ?_)
 exact wpAny_pure (h _ ⟨(hs2.2 _ (Ne.symm I.ne)).trans I.obj,hn2,I.ne⟩ hs2)
theorem HY {R:Result→Shared→Prop} {vs:List Value} {kw:List (Str×Value)} (X:K.In s.heap) (hm:PySem.W.makesIn K C=true)
  (hi:PySem.W.findIn K (.ref C) "__init__"=some (some (.ref f))) (hf:PySem.W.typeIn K (.ref f)=some (.type "function"))
  (h:codeAny (model prog w) (A.under (.builtin "type.__call__" ⟨.ref C::vs,kw⟩)) (.call (.ref f) ⟨.ref (s.heap.objs.size+1)::vs,kw⟩) (PySem.W.InitBack (s.heap.objs.size+1) R)
   {s with heap:=(s.heap.push PySem.W.emptyDict).push (PySem.W.instObj C s.heap.objs.size)}):
  codeAny (model prog w) A (.call (.ref C) ⟨vs,kw⟩) R s:=by
 obtain⟨hh,g,d,t,os⟩:=s
 exact PySem.W.make_core (PySem.W.makes_of X hm) (PySem.W.looks_findIn X hi) (fun self=>PySem.W.bind_fn X self hf) (.inl rfl) h
end
def jo (f:Str) (v:V):List (Str×V)→List (Str×V)
 | []=> [(f,v)]
 | (g,x)::r=>if g=f then(g,v)::r else(g,x)::jo f v r
theorem wS (f g:Str) (v:V):∀fs:List (Str×V),(jo f v fs).lookup g=if g=f then some v else fs.lookup g
 | []=>by
  show List.lookup g [(f,v)]=_
  by_cases h:g=f
  ·have hb:(g==f)=true:=beq_iff_eq.mpr h
   simp only [List.lookup,hb,if_pos h]
  ·have hb:(g==f)=false:=beq_eq_false_iff_ne.mpr h
   simp only [List.lookup,hb,if_neg h]
 | (k,x)::r=>by
  have ih:=wS f g v r
  rw [show jo f v ((k,x)::r)=(if k=f then(k,v)::r else(k,x)::jo f v r) from rfl]
  by_cases hk:k=f
  ·rw [if_pos hk]
   by_cases h:g=k
   ·have hb:(g==k)=true:=beq_iff_eq.mpr h
    simp only [List.lookup,hb,if_pos (h.trans hk)]
   ·have hb:(g==k)=false:=beq_eq_false_iff_ne.mpr h
    simp only [List.lookup,hb,if_neg (fun e:g=f=>h (e.trans hk.symm))]
  ·rw [if_neg hk]
   by_cases h:g=k
   ·have hb:(g==k)=true:=beq_iff_eq.mpr h
    simp only [List.lookup,hb,if_neg (fun e:g=f=>hk (h.symm.trans e))]
   ·have hb:(g==k)=false:=beq_eq_false_iff_ne.mpr h
    simp only [List.lookup,hb]
    exact ih
theorem vw (f:Str) (v:V):∀fs:List (Str×V),f∈(jo f v fs).map (·.1)∧∀g,g∈fs.map (·.1)→g∈(jo f v fs).map (·.1)
 | []=>⟨by simp [jo],fun g h=>by simp at h⟩
 | (k,x)::r=>by
  obtain⟨i1,i2⟩:=vw f v r
  rw [show jo f v ((k,x)::r)=(if k=f then(k,v)::r else(k,x)::jo f v r) from rfl]
  by_cases hk:k=f
  ·rw [if_pos hk]
   subst hk
   exact⟨by simp,fun g h=>by simpa using h⟩
  ·rw [if_neg hk]
   refine⟨?_,fun g h=> ?_⟩
   ·rw [List.map_cons]
    exact List.mem_cons_of_mem _ i1
   ·rw [List.map_cons] at h⊢
    rcases List.mem_cons.mp h with e | e
    ·exact List.mem_cons.mpr (.inl e)
    ·exact List.mem_cons_of_mem _ (i2 g e)
theorem wR (f:Str) (v:V):∀fs:List (Str×V),(jo f v fs).length≤fs.length+1
 | []=>by simp [jo]
 | (k,x)::r=>by
  have ih:=wR f v r
  rw [show jo f v ((k,x)::r)=(if k=f then(k,v)::r else(k,x)::jo f v r) from rfl]
  by_cases hk:k=f
  ·rw [if_pos hk,List.length_cons,List.length_cons];omega
  ·rw [if_neg hk,List.length_cons,List.length_cons];omega
theorem su.some_of {v:V} {o:Option Value} (r:su (some v) o):∃u,o=some u∧cj v u:=by
 cases o with
 | none=>exact(show False from r).elim
 | some u=>exact⟨u,rfl,r⟩
theorem su.none_of {o:Option Value} (r:su none o):o=none:=by
 cases o with
 | none=>rfl
 | some u=>exact(show False from r).elim
theorem AT {v:V} {u:Value} (r:cj v u):PySem.W.handedIn u=true:=by
 cases v with
 | non=>cases (show u=Value.none from r);rfl
 | bl b=>cases (show u=Value.bool b from r);rfl
 | int i=>obtain⟨t,e⟩:=(show ∃t,u=Value.int i t from r);cases e;rfl
 | str x=>obtain⟨t,e⟩:=(show ∃t,u=Value.str x t from r);cases e;rfl
 | byt b=>obtain⟨t,e⟩:=(show ∃t,u=Value.bytes b t from r);cases e;rfl
 | flt b=>obtain⟨t,e⟩:=(show ∃t,u=Value.float b t from r);cases e;rfl
 | ref a=>cases (show u=Value.ref a from r);rfl
 | ty n=>cases (show u=Value.type n from r);rfl
section
variable {P:Program} {w:World} {H H':Hp} {h h':Heap} {a C dx:Addr} {fs fs':List (Str×V)}
theorem ye (hok:sr P w H h) (e:H a=some (.ins C dx fs)):∃mA,Ec h a dx C mA∧(∀f,su (fs.lookup f) (mA f))∧PySem.Within mA (fs.map (·.1))∧fs.length≤1000∧H dx=some (.own a):=by
 obtain⟨d,z,ne,ob,mA,n,r,q⟩:=(show f7 P w H h a (.ins C dx fs) from hok a _ e)
 exact⟨mA,⟨ob,n,ne⟩,r,q,z,d⟩
end
structure D8 (K:PySem.W.Frag) (C:Addr):Prop where
 pg:PySem.W.plainGet K C Str.empty=true
 hd:PySem.W.hasDictIn K C=true
 po:PySem.W.plainOver K C=true
 sa:PySem.W.findIn K (.ref C) "__setattr__"=some (some (.builtin "object.__setattr__"))
theorem D8.get {K:PySem.W.Frag} {C:Addr} (c:D8 K C) (f:Str):PySem.W.plainGet K C f=true:=c.pg
def iM (K:PySem.W.Frag) (C:Addr) (f:Str):Prop:=PySem.W.findIn K (.ref C) f=some none
theorem iM.taker {K:PySem.W.Frag} {C:Addr} {f:Str} (n:iM K C f):PySem.W.takerIn K C f=some none:=by
 unfold PySem.W.takerIn
 rw [show PySem.W.findIn K (.ref C) f=some none from n]
 rfl
structure Hj (K:PySem.W.Frag) (C:Addr) (m:Str) (f:Addr):Prop where
 at_:PySem.W.findIn K (.ref C) m=some (some (.ref f))
 fn:PySem.W.isFn K (.ref f)=true
 kp:PySem.W.keepIn K (.ref f)=true
section
variable {X:Cx} {pins:List (Addr×Obj)} {σ:St} {H:Hp} {s:Shared} {a C dx:Addr} {fs:List (Str×V)} {f:Str} {v:V} {A:Around} {E:Value→Shared→Prop}
theorem yG {b:Bool} {Q:Value→Shared→Prop} (I:a8 X pins σ H s) (e:H a=some (.ins C dx fs)) (c:D8 X.K C) (n:iM X.K C f) (l:fs.lookup f=some v)
  (h:∀u s',a8 X pins σ H s'→cj v u→Q u s'):wpAny (model X.prog X.w) A (getAttr (.ref a) f b) Q E s:=by
 obtain⟨mA,O,r,_,_,_⟩:=ye I.hok e
 obtain⟨u,hu,ru⟩:=su.some_of (v:=v) (o:=mA f) (by rw [←l];exact r f)
 exact Fi I.kIn O (c.get f) c.hd n hu (AT ru) (h u _ (I.tok _) ru)
theorem sy {m:Str} {g:Addr} {pl:Sem Bool} {Q:Value×List Value→Shared→Prop} (I:a8 X pins σ H s) (e:H a=some (.ins C dx fs)) (c:D8 X.K C) (k:Hj X.K C m g) (l:fs.lookup m=none)
  (h:Q (.ref g,[.ref a]) s):wpAny (model X.prog X.w) A (getMethod (.ref a) m pl) Q E s:=by
 obtain⟨mA,O,r,_,_,_⟩:=ye I.hok e
 have hn:mA m=none:=su.none_of (by rw [←l];exact r m)
 exact HJ I.kIn O (c.get m) k.at_ k.fn hn h
theorem zC {y:V} {u:Value} {Q:Unit→Shared→Prop} (I:a8 X pins σ H s) (e:H a=some (.ins C dx fs)) (c:D8 X.K C) (n:iM X.K C f) (hl:fs.length<1000) (ry:cj y u)
  (h:∀s',a8 X pins σ (bC H a (.ins C dx (jo f y fs))) s'→Q () s'):wpAny (model X.prog X.w) A (setAttr (.ref a) f u) Q E s:=by
 obtain⟨mA,O,r,wi,_,ho⟩:=ye I.hok e
 have hz:(fs.map (·.1)).length≤sizeLine:=by rw [List.length_map,sizeLine_eq];omega
 refine JR I.kIn O c.sa c.po n.taker c.hd wi hz fun h' O' sb=>h _ ?_
 have hd:∃o,h'.get? dx=some o:=let ⟨o,_,_,e',_⟩:=O'.ns;⟨o,e'⟩
 refine I.write (x:=a) (e:=dx) (by rw [e];exact True.intro) (.inr ho) (fun b q hb z=>(sb.2 b hb).trans z) hd ?_
 refine⟨by rw [ak O.ne];exact ho,?_,O.ne,O'.obj,_,O'.ns,fun g=> ?_,fun g hg=> ?_⟩
 ·have:=wR f y fs;omega
 ·show su ((jo f y fs).lookup g) (if g=f then some u else mA g)
  rw [wS]
  by_cases q:g=f
  ·rw [if_pos q,if_pos q];exact ry
  ·rw [if_neg q,if_neg q];exact r g
 ·by_cases q:g=f
  ·rw [q];exact(vw f y fs).1
  ·refine(vw f y fs).2 g (wi g fun z=>hg ?_)
   show(if g=f then some u else mA g)=none
   rw [if_neg q];exact z
theorem a8.made (I:a8 X pins σ H s):a8 X pins σ (bC (bC H s.heap.objs.size (.own (s.heap.objs.size+1))) (s.heap.objs.size+1) (.ins C s.heap.objs.size []))
  {s with heap:=(s.heap.push PySem.W.emptyDict).push (PySem.W.instObj C s.heap.objs.size)}:=by
 have e1:(s.heap.push PySem.W.emptyDict).get? s.heap.objs.size=some PySem.W.emptyDict:=Heap.get?_push_size s.heap rfl
 have e2:((s.heap.push PySem.W.emptyDict).push (PySem.W.instObj C s.heap.objs.size)).get? (s.heap.objs.size+1)=some (PySem.W.instObj C s.heap.objs.size):=by
  have:=Heap.get?_push_size (s.heap.push PySem.W.emptyDict) (o:=PySem.W.instObj C s.heap.objs.size) rfl
  rwa [Heap.size_push] at this
 have e3:(s.heap.push PySem.W.emptyDict).Ns s.heap.objs.size (fun _=>none):=⟨PySem.W.emptyDict,#[],_,e1,rfl,(fun e he=>absurd he (by simp)),fun _=>rfl⟩
 have I1:=I.laid (a:=s.heap.objs.size) (o:= .own (s.heap.objs.size+1)) (h':=s.heap.push PySem.W.emptyDict) (t':=s.toks) (fun b u q=>Heap.get?_push_of_some _ q) (Nat.le_refl _) ⟨_,e1⟩
 refine I1.laid (a:=s.heap.objs.size+1) (o:= .ins C s.heap.objs.size []) (t':=s.toks) (fun b u q=>Heap.get?_push_of_some _ q) (Nat.le_of_eq (Heap.size_push _ _)) ?_
 have ne:s.heap.objs.size≠s.heap.objs.size+1:=Nat.ne_of_lt (Nat.lt_succ_self _)
 refine⟨by rw [ak ne,af],Nat.zero_le _,ne,e2,fun _=>none,(Heap.Ns1.of_empty e3).at fun o q=>Heap.get?_push_of_some _ q,fun _=>True.intro,fun y hy=>absurd rfl hy⟩
theorem Fa {prog:Program} {w:World} {env:Env} {e:Expr} {f:Str} {pos:Pos} {s:Shared} {Q:Value→Shared→Prop} (hb:attributeBase e f env (eval e env)=eval e env)
  (h:wpAny (model prog w) A (eval e env) (fun o s₁=>wpAny (model prog w) A (getAttr o f true) Q E s₁) E s):wpAny (model prog w) A (eval (.Attribute e f pos) env) Q E s:=
 Attribute_any_ h (by rw [arm_eval_Attribute,hb])
end
def LT (K:PySem.W.Frag) (ta:TE) (f:Str):TE:=fun σ H Q=>ta σ H fun x H1=>∃a C dx fs v,x= .ref a∧H1 a=some (.ins C dx fs)∧D8 K C∧iM K C f∧fs.lookup f=some v∧Q v H1
def MK (K:PySem.W.Frag) (ta tv:TE) (f:Str):TS:=fun D σ H=>tv σ H fun y H1=>ta σ H1 fun x H2=>∃a C dx fs,x= .ref a∧H2 a=some (.ins C dx fs)∧D8 K C∧iM K C f∧fs.length<1000∧
 D.nx σ (bC H2 a (.ins C dx (jo f y fs)))
def Lj (X:Cx) (op:Operator) (rd:V→V→Hp→VK→Prop):Prop:=
 ∀(pins:List (Addr×Obj)) (s:Shared) (σ:St) (H:Hp) (x y:V) (u v:Value) (Q:VK),a8 X pins σ H s→cj x u→cj y v→rd x y H Q→wpAny (model X.prog X.w) X.A (inplaceOp op u v) (EP X pins σ Q) X.xe s
def JQ (K:PySem.W.Frag) (ta tv:TE) (rd:V→V→Hp→VK→Prop) (f:Str):TS:=fun D σ H=>ta σ H fun x H1=>∃a C dx fs v,x= .ref a∧H1 a=some (.ins C dx fs)∧D8 K C∧iM K C f∧fs.lookup f=some v∧
 tv σ H1 fun y H2=>rd v y H2 fun z H3=>∃dx' fs',H3 a=some (.ins C dx' fs')∧fs'.length<1000∧D.nx σ (bC H3 a (.ins C dx' (jo f z fs')))
section
variable {X:Cx} {o e value:Expr} {f:Str} {pos pos' tpos:Pos} {ta tv:TE}
theorem ao (he:PE X e ta) (hb:attributeBase e f X.env (eval e X.env)=eval e X.env):PE X (.Attribute e f pos) (LT X.K ta f):=by
 intro pins s σ H Q I h
 refine Fa hb (dn (he pins s σ H _ I h) fun u s1 ⟨x,H1,I1,rx,a,C,dx,fs,v,ex,ea,c,n,l,q⟩=> ?_)
 subst ex
 obtain rfl:u=Value.ref a:=rx
 exact yG I1 ea c n l fun u' s2 I2 ru=>⟨v,H1,I2,ru,q⟩
theorem bS (ha:PE X o ta) (hv:PE X value tv) (hs:swapsWith value (some (.Attribute o f pos')) pos.line X.env=pure false):PS X (.Assign [.Attribute o f pos'] value pos) (MK X.K ta tv f):=by
 intro pins s σ H D I h
 refine plainObj_wpAny_Assign_Attribute (dn (hv pins s σ H _ I h) fun u s1 ⟨y,H1,I1,ry,q⟩=>dn (ha pins s1 σ H1 _ I1 q) fun ov s2 ⟨x,H2,I2,rx,a,C,dx,fs,ex,ea,c,n,l,q2⟩=> ?_) hs
 subst ex
 obtain rfl:ov=Value.ref a:=rx
 exact zC I2 ea c n l ry fun s3 I3=>⟨σ,_,I3,q2⟩
theorem qW {op:Operator} {rd:V→V→Hp→VK→Prop} (ha:PE X o ta) (hv:PE X value tv) (hop:Lj X op rd):PS X (.AugAssign (.Attribute o f tpos) op value pos) (JQ X.K ta tv rd f):=by
 intro pins s σ H D I h
 refine wpAny_AugAssign_AttributeAny (dn (ha pins s σ H _ I h) fun ov s1 ⟨x,H1,I1,rx,a,C,dx,fs,v,ex,ea,c,n,l,q⟩=> ?_)
 subst ex
 obtain rfl:ov=Value.ref a:=rx
 refine yG I1 ea c n l fun u s2 I2 ru=>dn (hv pins s2 σ H1 _ I2 q) fun w3 s3 ⟨y,H2,I3,ry,q3⟩=>dn (hop pins s3 σ H2 v y u w3 _ I3 ru ry q3) fun w4 s4 ⟨z,H3,I4,rz,dx',fs',ea',l',q4⟩=> ?_
 exact zC I4 ea' c n l' rz fun s5 I5=>⟨σ,_,I5,q4⟩
def MC:V→V→Hp→VK→Prop:=fun x y H Q=>∃i j,x= .int i∧y= .int j∧Q (.int (i+j)) H
theorem BD:Lj X .Add MC:=by
 rintro pins s σ H x y u v Q I rx ry ⟨i,j,rfl,rfl,q⟩
 obtain⟨t,rfl⟩:=(show ∃t,u=Value.int i t from rx)
 obtain⟨t',rfl⟩:=(show ∃t',v=Value.int j t' from ry)
 exact PyProof.Rows.iadd_int ⟨.int (i+j),H,I.tok _,⟨_,rfl⟩,q⟩
theorem J9 {pl:Sem Bool} {m:Str} {apos:Pos} {args:List Expr} {pins:List (Addr×Obj)} {s:Shared} {σ:St} {H:Hp} {Q:Value→Shared→Prop} {te:TE} (he:PE X e te) (I:a8 X pins σ H s)
  (h:te σ H fun x H1=>∃a C dx fs g,x= .ref a∧H1 a=some (.ins C dx fs)∧D8 X.K C∧Hj X.K C m g∧fs.lookup m=none∧
   ∀s1,a8 X pins σ H1 s1→wpAny (model X.prog X.w) X.A (callWith pos (.ref g) [.ref a] (backTo pos (starEach args X.env)) (backToKw pos (keywordEach [] X.env))) Q X.xe s1)
  (ht:eval (.Call (.Attribute e m apos) args [] pos) X.env=(do
   let ov ←eval e X.env
   standAt apos.atName
   let (f,first) ←holding [ov] (getMethod ov m pl)
   callWith pos f first (backTo pos (starEach args X.env)) (backToKw pos (keywordEach [] X.env)))):
  wpAny (model X.prog X.w) X.A (eval (.Call (.Attribute e m apos) args [] pos) X.env) Q X.xe s:=by
 refine PySem.W.methodCall_KW (pl:=pl) (dn (he pins s σ H _ I h) fun u s1 ⟨x,H1,I1,rx,a,C,dx,fs,g,ex,ea,c,k,l,q⟩=> ?_) ht
 subst ex
 obtain rfl:u=Value.ref a:=rx
 exact sy I1 ea c k l (q s1 I1)
end
section
variable {X:Cx} {pins:List (Addr×Obj)} {σ:St} {H:Hp} {s:Shared} {A:Around} {E:Value→Shared→Prop} {Q:Value→Shared→Prop} {c:Value} {b:Bool}
end
end L2
namespace L2
open PySem PySem.Spec PyProof.Rows
structure du (k:Nat) (A:Around):Prop where
 hd:A.handled=none
 dp:A.depth+3*k+5<recursionLimit
 un:A.units+16*k+200<cLine
theorem du.mono {j k:Nat} {A:Around} (r:du k A) (h:j≤k):du j A:=⟨r.hd,by have:=r.dp;omega,by have:=r.un;omega⟩
theorem du.deeper {k:Nat} {A:Around} (r:du (k+1) A) (env:Env):du k (A.deeper env):=
 ⟨r.hd,by have:=r.dp;show A.depth+1+3*k+5<_;omega,by have:=r.un;show A.units+3+16*k+200<_;omega⟩
theorem El {A:Around} {C:Addr} {us:List Value} {kw:List (Str×Value)}:(A.under (.builtin "type.__call__" ⟨.ref C::us,kw⟩)).depth=A.depth+1:=by
 first | rfl | simp [Around.under,Code.weight,Code.isCreation,Code.isGuard,Code.isCaller,Code.frames,Code.isFrame,guardIds]
theorem Em {A:Around} {C:Addr} {us:List Value} {kw:List (Str×Value)}:(A.under (.builtin "type.__call__" ⟨.ref C::us,kw⟩)).units=A.units+1:=by
 first | rfl | simp [Around.under,Code.cUnits,Code.frames,Code.isFrame]
theorem du.make {k:Nat} {A:Around} (r:du (k+1) A) (C:Addr) (us:List Value) (kw:List (Str×Value)):du k (A.under (.builtin "type.__call__" ⟨.ref C::us,kw⟩)):=
 ⟨r.hd,by have:=r.dp;rw [El];omega,by have:=r.un;rw [Em];omega⟩
theorem du.depth {k:Nat} {A:Around} (r:du k A):A.depth<recursionLimit:=by have:=r.dp;omega
def IM:TA:=fun _ H Q=>Q [] H
def LR (ta:TE) (tr:TA):TA:=fun σ H Q=>ta σ H fun x H1=>tr σ H1 fun xs H2=>Q (x::xs) H2
section
variable {X:Cx} {e:Expr} {es:List Expr} {te:TE} {t:TA} {pos:Pos}
theorem ad:PA X [] IM:=fun _ _ _ _ H Q I h=>Calls.spliced_nil ⟨[],H,I,.nil,h⟩
theorem ab (ha:PE X e te) (hr:PA X es t) (hs:starEach (e::es) X.env=(false,eval e X.env)::starEach es X.env:=by rfl):PA X (e::es) (LR te t):=by
 intro pos pins s σ H Q I h
 rw [hs]
 show wpAny _ _ (spliced ((false,eval e X.env)::backTo pos (starEach es X.env))) _ _ s
 refine Calls.spliced_cons (dn (ha pins s σ H _ I h) fun u s1 ⟨x,H1,I1,r1,q1⟩=> ?_)
 exact dn (hr pos pins s1 σ H1 _ I1 q1) fun us s2 ⟨xs,H2,I2,r2,q2⟩=>⟨x::xs,H2,I2,.cons r1 r2,q2⟩
def MV (t:TA):TE:=fun σ H Q=>t σ H fun xs H1=>xs.length≤sizeLine∧∀p,H1 p=none→Q (.ref p) (bC H1 p (.tup xs))
def MR (t:TA):TE:=fun σ H Q=>t σ H fun xs H1=>xs.length≤sizeLine∧∀p,H1 p=none→Q (.ref p) (bC H1 p (.lst xs))
theorem Iw {x1} (h:PA X es t):PE X (.Tuple es x1 pos) (MV t):=by
 intro pins s σ H Q I hq
 refine wpAny_Tuple_spliced (dn (h pos pins s σ H _ I hq) fun us s1 ⟨xs,H1,I1,r,z,q⟩=>⟨by rw [←r.length];exact z,?_⟩)
 have hf:H1 s1.heap.objs.size=none:=I1.hok.fresh (Nat.le_refl _)
 refine⟨.ref s1.heap.objs.size,bC H1 s1.heap.objs.size (.tup xs),I1.laid (t':=s1.toks) (fun b u e=>Heap.get?_push_of_some _ e) (Nat.le_refl _) ?_,rfl,q _ hf⟩
 exact⟨z,us,r,⟨_,Heap.get?_push_size _ rfl,rfl,_,rfl⟩⟩
theorem aG (h:PA X es t):PE X (.List es pos) (MR t):=by
 intro pins s σ H Q I hq
 refine wpAny_List_spliced (dn (h pos pins s σ H _ I hq) fun us s1 ⟨xs,H1,I1,r,z,q⟩=>⟨by rw [←r.length];exact z,?_⟩)
 have hf:H1 s1.heap.objs.size=none:=I1.hok.fresh (Nat.le_refl _)
 refine⟨.ref s1.heap.objs.size,bC H1 s1.heap.objs.size (.lst xs),I1.laid (t':=s1.toks) (fun b u e=>Heap.get?_push_of_some _ e) (Nat.le_refl _) ?_,rfl,q _ hf⟩
 exact⟨z,us,0,r,Heap.get?_push_size _ rfl⟩
end
abbrev Sp:=List V→Hp→VK→XK→Prop
abbrev Hf:=List Env→Hp→Shared→XK→Value→Shared→Prop
structure Eb (P:Program) (w:World) (K:PySem.W.Frag) (mg:Str→Option Value) (base:Heap) (A:Around) (outer:List Env) (s:Shared) (H:Hp):Prop where
 frames:A.frames=some outer
 mod:Mod K mg base
 bs:∀b o,base.get? b=some o→s.heap.get? b=some o∧H b=none
 bsz:base.objs.size≤s.heap.objs.size
 funs:s.heap.FunFrames base outer
 frf:∀b∈HF outer,H b=none
 hok:sr P w H s.heap
 bare:AllBare s.gens
def CE (outer:List Env) (P:Program) (w:World) (H:Hp) (s:Shared) (Q:VK) (u:Value) (s':Shared):Prop:=
 ∃v H',s'.os=s.os∧AllBare s'.gens∧Un (HF outer) [] H H' s.heap s'.heap∧sr P w H' s'.heap∧cj v u∧Q v H'
def CR (CX:Hf) (outer:List Env) (P:Program) (w:World) (H:Hp) (s:Shared) (Q:VK) (E:XK) (r:Result) (s':Shared):Prop:=
 match r with
 | .ok (.ret u)=>CE outer P w H s Q u s'
 | .ok _=>False
 | .error e=>CX outer H s E e s'
structure iq (P:Program) (w:World) (K:PySem.W.Frag) (mg:Str→Option Value) (base:Heap) (CX:Hf) (k:Nat) (f:Addr) (fd:FuncData) (ps:List Str) (sp:Sp):Prop where
 len:∀vs H Q E,sp vs H Q E→vs.length=ps.length
 run:∀(A:Around) (outer:List Env) (s:Shared) (H:Hp) (args:Args) (us:List Value) (vs:List V) (Q:VK) (E:XK),du k A→Eb P w K mg base A outer s H→BindsTo s fd args (ps.zip us)→bw vs us→sp vs H Q E→
  codeAny (model P w) A (.call (.ref f) args) (CR CX outer P w H s Q E) s
theorem Eb.make {P:Program} {w:World} {K:PySem.W.Frag} {mg:Str→Option Value} {base:Heap} {A:Around} {outer:List Env} {s:Shared} {H:Hp} (e:Eb P w K mg base A outer s H) (C:Addr) (us:List Value) (kw:List (Str×Value)):
  Eb P w K mg base (A.under (.builtin "type.__call__" ⟨.ref C::us,kw⟩)) outer s H:=⟨by first | exact e.frames | (simpa [Around.under,Code.envs,Code.isFrame,pushEnvs] using e.frames),e.mod,e.bs,e.bsz,e.funs,e.frf,e.hok,e.bare⟩
section
variable {X:Cx} {pins:List (Addr×Obj)} {σ:St} {H:Hp} {s s':Shared}
theorem a8.env0 (I:a8 X pins σ H s):Eb X.prog X.w X.K X.mg X.base X.A X.stack s H:=
 ⟨I.ok.frames,I.ok.mod,I.bs,Nat.le_trans I.ok.bsz I.sz,I.stack,I.stkFree,I.hok,I.bare⟩
theorem a8.after {Q:VK} {u:Value} (I:a8 X pins σ H s) (h:CE X.stack X.prog X.w H s Q u s'):EP X pins σ Q u s':=by
 obtain⟨v,H',os,bare,un,hok,r,q⟩:=h
 obtain⟨hh,g,d,t,os'⟩:=s'
 obtain rfl:os'=s.os:=os
 exact⟨v,H',I.call (h':=hh) (g':=g) (d':=d) (t':=t) (ch:= []) un hok bare (fun b z=>absurd z (by simp)),r,q⟩
end
def Ke (sp:Sp) (dvs:List V) (E:XK) (t:TA):TE:=fun σ H Q=>t σ H fun vs H1=>sp (vs++dvs) H1 Q E
def DU (C:Addr) (m:Str) (sp:Sp) (dvs:List V) (E:XK) (ta:TE) (t:TA):TE:=fun σ H Q=>ta σ H fun x H1=>∃a dx fs,x= .ref a∧H1 a=some (.ins C dx fs)∧fs.lookup m=none∧
 t σ H1 fun vs H2=>sp (x::(vs++dvs)) H2 Q E
def IL (C:Addr) (sp:Sp) (dvs:List V) (E:XK) (t:TA):TE:=fun σ H Q=>t σ H fun vs H1=>∀x dx,H1 x=none→H1 dx=none→dx≠x→
 sp (.ref x::(vs++dvs)) (bC (bC H1 dx (.own x)) x (.ins C dx [])) (fun v H2=>v= .non∧Q (.ref x) H2) E
def gE (K:PySem.W.Frag) (fd:FuncData) (ps:List Str) (ds:List Value):Prop:=
 ∀(s:Shared) (us:List Value),K.In s.heap→(us++ds).length=ps.length→BindsTo s fd ⟨us,[]⟩ (ps.zip (us++ds))
theorem gE.all {K:PySem.W.Frag} {fd:FuncData} {ps:List Str} (h:∀us:List Value,us.length=ps.length→bindArgs fd ⟨us,[]⟩=pure (ps.zip us)):gE K fd ps []:=fun s us _ hl=>by
 rw [List.append_nil] at hl⊢
 exact .of_eq (h us hl)
def pE (CX:Hf) (X:Cx) (E:XK):Prop:=∀(pins:List (Addr×Obj)) (σ:St) (H:Hp) (s:Shared) (e:Value) (s':Shared),a8 X pins σ H s→CX X.stack H s E e s'→X.xe e s'
section
variable {X:Cx} {CX:Hf} {k:Nat} {f C:Addr} {fd:FuncData} {ps:List Str} {sp:Sp} {dvs:List V} {ds:List Value} {E:XK} {x m:Str} {p pos apos:Pos} {e o:Expr} {es:List Expr} {ta:TE} {t:TA}
theorem BX {pins:List (Addr×Obj)} {σ:St} {H:Hp} {s:Shared} {Q:VK} {us:List Value} {vs:List V} (F:iq X.prog X.w X.K X.mg X.base CX k f fd ps sp) (hr:du k X.A) (hb:gE X.K fd ps ds) (hd:bw dvs ds) (hx:pE CX X E)
  (I:a8 X pins σ H s) (r:bw vs us) (h:sp (vs++dvs) H Q E):wpAny (model X.prog X.w) X.A (call (.ref f) us) (EP X pins σ Q) X.xe s:=by
 have r2:bw (vs++dvs) (us++ds):=r.append hd
 have hl:(us++ds).length=ps.length:=by rw [←r2.length];exact F.len _ _ _ _ h
 refine wpAny_call (codeAny_mono (F.run X.A X.stack s H ⟨us,[]⟩ (us++ds) (vs++dvs) Q E hr I.env0 (hb s us I.kIn hl) r2 h) fun r s' hq=> ?_)
 cases r with
 | error e=>exact hx pins σ H s e s' I hq
 | ok fl=>
  cases fl with
  | ret u=>exact I.after hq
  | next=>exact False.elim hq
  | brk=>exact False.elim hq
  | cont=>exact False.elim hq
theorem JG (F:iq X.prog X.w X.K X.mg X.base CX k f fd ps sp) (hr:du k X.A) (hg:Gl X x) (hm:X.mg x=some (.ref f)) (hk:PySem.W.keepIn X.K (.ref f)=true) (hb:gE X.K fd ps ds) (hd:bw dvs ds) (hx:pE CX X E)
  (ha:PA X (e::es) t) (hdb:(x==("__debug__":Str))=false:=by decide) (he:starEach (e::es) X.env=(false,eval e X.env)::starEach es X.env:=by rfl) (hpl:(backTo pos (starEach es X.env)).any (·.1)=false:=by rfl):
  PE X (.Call (.Name x p) (e::es) [] pos) (Ke sp dvs E t):=by
 intro pins s σ H Q I h
 refine wpAny_Call_Name_kw (yf I hg hm ?_ hdb)
 refine PySem.W.callWith_K (h₀:=X.base) I.ok.mod.kin hk (dn (ha pos pins s σ H _ I h) fun us s1 ⟨vs,H1,I1,r,q⟩=>⟨I1.kIn,?_⟩) he hpl
 exact BX F hr hb hd hx I1 r q
theorem JH {pl:Sem Bool} (he:PE X o ta) (c:D8 X.K C) (hm:Hj X.K C m f) (F:iq X.prog X.w X.K X.mg X.base CX k f fd ps sp) (hr:du k X.A) (hb:gE X.K fd ps ds) (hd:bw dvs ds) (hx:pE CX X E) (ha:PA X (e::es) t)
  (hst:starEach (e::es) X.env=(false,eval e X.env)::starEach es X.env:=by rfl) (hpl:(backTo pos (starEach es X.env)).any (·.1)=false:=by rfl)
  (ht:eval (.Call (.Attribute o m apos) (e::es) [] pos) X.env=(do
   let ov ←eval o X.env
   standAt apos.atName
   let (f,first) ←holding [ov] (getMethod ov m pl)
   callWith pos f first (backTo pos (starEach (e::es) X.env)) (backToKw pos (keywordEach [] X.env))):=by rfl):
  PE X (.Call (.Attribute o m apos) (e::es) [] pos) (DU C m sp dvs E ta t):=by
 intro pins s σ H Q I h
 refine PySem.W.methodCall_KW (pl:=pl) (dn (he pins s σ H _ I h) fun u s1 ⟨x,H1,I1,rx,a,dx,fs,ex,ea,l,q⟩=> ?_) ht
 subst ex
 obtain rfl:u=Value.ref a:=rx
 refine sy I1 ea c hm l ?_
 refine PySem.W.callWith_K (first:= [.ref a]) (h₀:=X.base) I.ok.mod.kin hm.kp (dn (ha pos pins s1 σ H1 _ I1 q) fun us s2 ⟨vs,H2,I2,r,q2⟩=>⟨I2.kIn,?_⟩) hst hpl
 exact BX (us:= .ref a::us) (vs:= .ref a::vs) F hr hb hd hx I2 (.cons rfl r) q2
theorem Iv {pl:Sem Bool} (he:PE X o ta) (c:D8 X.K C) (hm:Hj X.K C m f) (F:iq X.prog X.w X.K X.mg X.base CX k f fd ps sp) (hr:du k X.A) (hb:gE X.K fd ps ds) (hd:bw dvs ds) (hx:pE CX X E)
  (ht:eval (.Call (.Attribute o m apos) [] [] pos) X.env=(do
   let ov ←eval o X.env
   standAt apos.atName
   let (f,first) ←holding [ov] (getMethod ov m pl)
   callWith pos f first (backTo pos (starEach [] X.env)) (backToKw pos (keywordEach [] X.env))):=by rfl):
  PE X (.Call (.Attribute o m apos) [] [] pos) (DU C m sp dvs E ta IM):=by
 intro pins s σ H Q I h
 refine PySem.W.methodCall_KW (pl:=pl) (dn (he pins s σ H _ I h) fun u s1 ⟨x,H1,I1,rx,a,dx,fs,ex,ea,l,q⟩=> ?_) ht
 subst ex
 obtain rfl:u=Value.ref a:=rx
 refine sy I1 ea c hm l ?_
 exact PySem.W.callWith_K0 (first:= [.ref a]) I1.kIn hm.kp (BX (us:= [.ref a]) (vs:= [.ref a]) F hr hb hd hx I1 (.cons rfl .nil) q)
structure Mk (K:PySem.W.Frag) (C f:Addr):Prop where
 makes:PySem.W.makesIn K C=true
 init:PySem.W.findIn K (.ref C) "__init__"=some (some (.ref f))
 fn:PySem.W.isFn K (.ref f)=true
 kp:PySem.W.keepIn K (.ref C)=true
theorem Dl {pins:List (Addr×Obj)} {σ:St} {H:Hp} {s:Shared} {Q:VK} {us:List Value} {vs:List V} (M:Mk X.K C f) (F:iq X.prog X.w X.K X.mg X.base CX k f fd ps sp) (hr:du (k+1) X.A) (hb:gE X.K fd ps ds) (hd:bw dvs ds)
  (hx:pE CX X E) (I:a8 X pins σ H s) (r:bw vs us)
  (h:∀x dx,H x=none→H dx=none→dx≠x→sp (.ref x::(vs++dvs)) (bC (bC H dx (.own x)) x (.ins C dx [])) (fun v H2=>v= .non∧Q (.ref x) H2) E):
  wpAny (model X.prog X.w) X.A (call (.ref C) us) (EP X pins σ Q) X.xe s:=by
 have hq:=h (s.heap.objs.size+1) s.heap.objs.size (I.hok.fresh (Nat.le_succ _)) (I.hok.fresh (Nat.le_refl _)) (Nat.ne_of_lt (Nat.lt_succ_self _))
 have I2:=a8.made (C:=C) I
 have r2:bw (V.ref (s.heap.objs.size+1)::(vs++dvs)) (Value.ref (s.heap.objs.size+1)::(us++ds)):= .cons rfl (r.append hd)
 have hl:(Value.ref (s.heap.objs.size+1)::us++ds).length=ps.length:=by
  have e:=r2.length
  rw [F.len _ _ _ _ hq] at e
  exact e.symm
 refine wpAny_call (HY (f:=f) I.kIn M.makes M.init (beq_iff_eq.mp M.fn) (codeAny_mono (F.run _ X.stack _ _ ⟨Value.ref (s.heap.objs.size+1)::us,[]⟩ (Value.ref (s.heap.objs.size+1)::(us++ds)) _ _ E (hr.make C us [])
  (I2.env0.make C us []) (hb _ (Value.ref (s.heap.objs.size+1)::us) I2.kIn hl) r2 hq) fun r s' hq'=> ?_))
 cases r with
 | error e=>exact hx pins σ _ _ e s' I2 hq'
 | ok fl=>
  cases fl with
  | ret u=>
   obtain⟨v,H',I3,rv,ev,q3⟩:=I2.after hq'
   subst ev
   exact⟨rv,⟨V.ref (s.heap.objs.size+1),H',I3,rfl,q3⟩⟩
  | next=>exact False.elim hq'
  | brk=>exact False.elim hq'
  | cont=>exact False.elim hq'
theorem BT (M:Mk X.K C f) (F:iq X.prog X.w X.K X.mg X.base CX k f fd ps sp) (hr:du (k+1) X.A) (hg:Gl X x) (hm:X.mg x=some (.ref C)) (hb:gE X.K fd ps ds) (hd:bw dvs ds) (hx:pE CX X E)
  (ha:PA X (e::es) t) (hdb:(x==("__debug__":Str))=false:=by decide) (he:starEach (e::es) X.env=(false,eval e X.env)::starEach es X.env:=by rfl) (hpl:(backTo pos (starEach es X.env)).any (·.1)=false:=by rfl):
  PE X (.Call (.Name x p) (e::es) [] pos) (IL C sp dvs E t):=by
 intro pins s σ H Q I h
 refine wpAny_Call_Name_kw (yf I hg hm ?_ hdb)
 refine PySem.W.callWith_K (h₀:=X.base) I.ok.mod.kin M.kp (dn (ha pos pins s σ H _ I h) fun us s1 ⟨vs,H1,I1,r,q⟩=>⟨I1.kIn,?_⟩) he hpl
 exact Dl M F hr hb hd hx I1 r q
theorem Iu (M:Mk X.K C f) (F:iq X.prog X.w X.K X.mg X.base CX k f fd ps sp) (hr:du (k+1) X.A) (hg:Gl X x) (hm:X.mg x=some (.ref C)) (hb:gE X.K fd ps ds) (hd:bw dvs ds) (hx:pE CX X E)
  (hdb:(x==("__debug__":Str))=false:=by decide):PE X (.Call (.Name x p) [] [] pos) (IL C sp dvs E IM):=by
 intro pins s σ H Q I h
 refine wpAny_Call_Name_kw (yf I hg hm ?_ hdb)
 exact PySem.W.callWith_K0 I.kIn M.kp (Dl (us:= []) M F hr hb hd hx I .nil h)
end
section
variable {X:Cx} {CX:Hf} {k:Nat} {f C:Addr} {fd:FuncData} {ps ks:List Str} {sp:Sp} {E:XK} {x m:Str} {p pos apos kpos:Pos} {e o:Expr} {es:List Expr} {kws:List Keyword} {te ta:TE} {t tk:TA} {nm:Option Str}
variable {g:List Value→List Value→List Value} {gV:List V→List V→List V}
end
structure ap (N P:List Str) (sc:Scope):Prop where
 kind:sc.kind= .function
 co:sc.isCoroutine=false
 gen:sc.isGenerator=false
 nd:N.Nodup
 pre:N.take P.length=P
 par:∀x∈P,sc.names.lookup x=some .local∨sc.names.lookup x=some .cell
 nofree:∀y∈sc.names,y.2≠ .free
theorem AJ {kindOf:Str→Option NameKind} {x:Str}:∀{binds:List (Str×Value)} {m:Str→Option Value},(∀v,(x,v) ∉ binds)→bindL kindOf binds m x=m x
 | [],_,_=>rfl
 | (n,v)::r,m,h=>by
  unfold bindL
  rw [AJ fun w hw=>h w (List.mem_cons_of_mem _ hw)]
  split
  ·have:x≠n:=by rintro rfl;exact h v List.mem_cons_self
   simp [this]
  ·rfl
theorem AH {kindOf:Str→Option NameKind} {x:Str}:∀{binds:List (Str×Value)} {m:Str→Option Value},(∀v,(x,v) ∉ binds)→bindC kindOf binds m x=m x
 | [],_,_=>rfl
 | (n,v)::r,m,h=>by
  unfold bindC
  rw [AH fun w hw=>h w (List.mem_cons_of_mem _ hw)]
  split
  ·rfl
  ·have:x≠n:=by rintro rfl;exact h v List.mem_cons_self
   simp [this]
theorem AI {kindOf:Str→Option NameKind} {x:Str} {v:Value}:∀{P:List Str} {vs:List Value} {i:Nat} {m:Str→Option Value},P.Nodup→P[i]?=some x→vs[i]?=some v→kindOf x=some .local→
  bindL kindOf (P.zip vs) m x=some v
 | [],_,_,_,_,h,_,_=>by simp at h
 | _::_,[],_,_,_,_,h,_=>by simp at h
 | p::P,w::vs,0,m,nd,h1,h2,hk=>by
  simp at h1 h2;subst h1;subst h2
  show bindL kindOf ((p,w)::P.zip vs) m p=_
  unfold bindL
  rw [AJ fun v hv=>(List.nodup_cons.mp nd).1 (List.of_mem_zip hv).1,if_pos hk]
  simp
 | p::P,w::vs,i+1,m,nd,h1,h2,hk=>by
  show bindL kindOf ((p,w)::P.zip vs) m x=_
  unfold bindL
  exact AI (i:=i) (List.nodup_cons.mp nd).2 (by simpa using h1) (by simpa using h2) hk
theorem AG {kindOf:Str→Option NameKind} {x:Str} {v:Value}:∀{P:List Str} {vs:List Value} {i:Nat} {m:Str→Option Value},P.Nodup→P[i]?=some x→vs[i]?=some v→kindOf x≠some .local→
  bindC kindOf (P.zip vs) m x=some v
 | [],_,_,_,_,h,_,_=>by simp at h
 | _::_,[],_,_,_,_,h,_=>by simp at h
 | p::P,w::vs,0,m,nd,h1,h2,hk=>by
  simp at h1 h2;subst h1;subst h2
  show bindC kindOf ((p,w)::P.zip vs) m p=_
  unfold bindC
  rw [AH fun v hv=>(List.nodup_cons.mp nd).1 (List.of_mem_zip hv).1,if_neg hk]
  simp
 | p::P,w::vs,i+1,m,nd,h1,h2,hk=>by
  show bindC kindOf ((p,w)::P.zip vs) m x=_
  unfold bindC
  exact AG (i:=i) (List.nodup_cons.mp nd).2 (by simpa using h1) (by simpa using h2) hk
def start (N:List Str) (vs:List V):St:=vs.map some++List.replicate (N.length - vs.length) none
def By (CX:Hf) (P:Program) (w:World) (K:PySem.W.Frag) (mg:Str→Option Value) (base:Heap) (N:List Str) (qual:Str) (scope:Scope) (f:Addr) (cd:Value) (A:Around) (outer:List Env) (s:Shared) (H:Hp) (E:XK):Cx where
 prog:=P
 w:=w
 K:=K
 mg:=mg
 base:=base
 A:=A.deeper (envOfC qual scope s.heap.objs.size f cd)
 N:=N
 s_0:=s
 H_0:=H
 env:=envOfC qual scope s.heap.objs.size f cd
 outer:=outer
 stack:=envOfC qual scope s.heap.objs.size f cd::outer
 ex:= []
 calm:=true
 fn:=fun _=>true
 pn:= []
 xe:=fun e s'=>wpAny (model P w) (A.deeper (envOfC qual scope s.heap.objs.size f cd)) (leaving (envOfC qual scope s.heap.objs.size f cd) e) (fun _ s''=>CX outer H s E e s'') (fun e' s''=>CX outer H s E e' s'') s'
theorem CD {sc:Scope} {n:Nat} {x:Str} (h:sc.names.lookup x=some .cell):∃c,(cellsFrom n sc.names []).lookup x=some c:=by
 have q:=PySem.W.cellsFrom_some sc.names n [] (.inl h)
 exact Option.isSome_iff_exists.mp q
theorem Gi {CX:Hf} {P:Program} {w:World} {K:PySem.W.Frag} {mg:Str→Option Value} {base:Heap} {N ps:List Str} {qual:Str} {scope:Scope} {f:Addr} {cd:Value} {A:Around} {outer:List Env} {s s1:Shared} {H:Hp} {E:XK} {us:List Value} {vs:List V}
  (S:ap N ps scope) (hd:A.handled=none) (e0:Eb P w K mg base A outer s H) (hl:vs.length=ps.length) (r:bw vs us)
  (x:InCallC s s.heap.objs.size (bindL (envOfC qual scope s.heap.objs.size f cd).kindOf (ps.zip us) fun _=>none) (cellsFrom (s.heap.objs.size+1) scope.names []) (bindC (envOfC qual scope s.heap.objs.size f cd).kindOf (ps.zip us) fun _=>none) s1):
  a8 (By CX P w K mg base N qual scope f cd A outer s H E) [] (start N vs) H s1:=by
 have hpl:ps.length≤N.length:=by have:=congrArg List.length S.pre;rw [List.length_take] at this;omega
 obtain⟨h1,tk,rfl,hk⟩:=x.done
 have noA:∀b:Addr,b ∉ (By CX P w K mg base N qual scope f cd A outer s H E).ex:=fun b z=>absurd (show b∈([]:List Addr) from z) (by simp)
 refine⟨⟨e0.mod,S.kind,rfl,rfl,Nat.le_refl _,fun y z c h1 h2=> ?_,fun y hy=> ?_,fun y c _ h=> ?_,fun _=>hd,Around.frames_deeper e0.frames,.inr ⟨rfl,rfl⟩,fun b z=>absurd z (noA b),e0.bs,e0.bsz,fun b _ _=>noA b,fun b z=>absurd z (noA b),e0.funs,e0.frf⟩,
  rfl,e0.bare,Un.kept hk,⟨_,x.toInCall.ns,fun i y v h1 h2 h3=> ?_⟩,fun y c h=>⟨_,x.cell y c h⟩,e0.hok.fresh (Nat.le_refl _),fun y c h=> ?_,fun p hp=>absurd (show p∈([]:List (Addr×Obj)) from hp) (by simp),e0.hok.kept hk,?_⟩
 ·exact name_of_addr x.apart (PySem.mem_of_lookup h1) (PySem.mem_of_lookup h2)
 ·have hy:scope.names.lookup y=some .cell∨scope.names.lookup y=some .free:=hy
  rcases hy with hy | hy
  ·exact CD hy
  ·exact absurd rfl (S.nofree _ (PySem.mem_of_lookup hy))
 ·exact Nat.le_of_lt (x.above y c (PySem.mem_of_lookup h))
 ·have hi:i<vs.length:=by
   unfold start at h2
   by_cases hi:i<vs.length
   ·exact hi
   ·rw [List.getElem?_append_right (by simpa using hi)] at h2
    rw [List.getElem?_replicate] at h2
    split at h2<;>cases h2
  have ha:vs[i]?=some v:=by
   unfold start at h2
   rw [List.getElem?_append_left (by simpa using hi),List.getElem?_map] at h2
   cases e:vs[i]? with
   | none=>rw [e] at h2;cases h2
   | some a=>rw [e] at h2;cases h2;rfl
  obtain⟨u,hu,rv⟩:=r.get ha
  have hp:ps[i]?=some y:=by
   rw [←S.pre,List.getElem?_take_of_lt (by omega)];exact h1
  have ndP:ps.Nodup:=by rw [←S.pre];exact S.nd.sublist (List.take_sublist _ _)
  refine⟨u,rv,?_⟩
  rcases S.par y (List.mem_of_getElem? hp) with k | k
  ·exact .inl ⟨k,AI ndP hp hu k⟩
  ·obtain⟨c,e⟩:=CD (n:=s.heap.objs.size+1) k
   refine .inr ⟨.inl k,c,e,?_⟩
   have q:=x.cell y c e
   rw [AG ndP hp hu (by show scope.names.lookup y≠_;rw [k];decide)] at q
   exact q
 ·exact e0.hok.fresh (Nat.le_of_lt (x.above y c (PySem.mem_of_lookup h)))
 ·unfold start
  show _=N.length
  rw [List.length_append,List.length_map,List.length_replicate]
  omega
theorem J5 {CX:Hf} {P:Program} {w:World} {K:PySem.W.Frag} {mg:Str→Option Value} {base:Heap} {k:Nat} {f:Addr} {name qual:Str} {params:Arguments} {body:List Stmt} {scope:Scope} {dV kV doc pm cdv ct oc:Value} {an od:Option Addr}
  {osl:Array (Option Value)} {N ps:List Str} {sp:Sp} (lk:K.lookup f=some ⟨oc,od,.func (PySem.W.fnOf name qual params body scope dV kV doc pm an cdv ct),osl⟩) (hcd:PySem.W.codeIn K cdv qual=true) (S:ap N ps scope)
  (len:∀vs H Q E,sp vs H Q E→vs.length=ps.length)
  (hbody:∀(A:Around) (outer:List Env) (s:Shared) (H:Hp) (vs:List V) (Q:VK) (E:XK),du k (A.deeper (envOfC qual scope s.heap.objs.size f cdv))→sp vs H Q E→
   ∃t,D9 (By CX P w K mg base N qual scope f cdv A outer s H E) body t∧t {nx:=fun _ H'=>Q .non H',rt:=Q} (start N vs) H):
  iq P w K mg base CX (k+1) f (PySem.W.fnOf name qual params body scope dV kV doc pm an cdv ct) ps sp:=by
 refine⟨len,fun A outer s H args us vs Q E hr e0 hb r hsp=> ?_⟩
 have hl:=len _ _ _ _ hsp
 have KX:K.In s.heap:=e0.mod.kin.keeps fun b o e=>(e0.bs b o e).1
 have lim:s.heap.NoLimit:=e0.mod.nolimit.keeps fun b o e=>(e0.bs b o e).1
 have hkind:∀y∈ps.zip us,scope.names.lookup y.1=some .local∨(scope.names.lookup y.1=some .cell∧((cellsFrom (s.heap.objs.size+1) scope.names []).lookup y.1).isSome=true):=fun⟨n,v⟩ hy=>by
  rcases S.par n (List.of_mem_zip hy).1 with q | q
  ·exact .inl q
  ·exact .inr ⟨q,PySem.W.cellsFrom_some _ _ _ (.inl q)⟩
 refine codeAny_call_function hr.depth (KX _ _ lk) rfl S.co S.gen rfl (PySem.W.codeRec_of KX hcd) (hb _ _ _ _ ?_)
 refine wpAny_newFunctionEnv_cells S.kind hkind fun env he s1 x=> ?_
 subst he
 refine⟨lim.keeps x.toInCall.keep,codeAny_func ?_⟩
 obtain⟨t,ht,hq⟩:=hbody A outer s H vs Q E (hr.deeper _) hsp
 have I:a8 (By CX P w K mg base N qual scope f cdv A outer s H E) [] (start N vs) H s1:=Gi S hr.hd e0 hl r x
 refine wpAny_mono (ht [] s1 (start N vs) H _ I hq) (fun fl s' hs=> ?_) fun e s' hs=>hs
 have fin:∀{σ':St} {H':Hp} {v:V} {u:Value},a8 (By CX P w K mg base N qual scope f cdv A outer s H E) [] σ' H' s'→cj v u→Q v H'→CE outer P w H s Q u s':=
  fun {σ' H' v u} J rv q=>⟨v,H',J.os,J.bare,J.base,J.hok,rv,q⟩
 cases fl with
 | ret u=>
  obtain⟨v,σ',H',J,rv,q⟩:=hs
  exact fin J rv q
 | next=>
  obtain⟨σ',H',J,q⟩:=hs
  exact fin (v:=V.non) (u:=Value.none) J rfl q
 | brk=>
  obtain⟨_,_,_,q⟩:=hs
  exact False.elim q
 | cont=>
  obtain⟨_,_,_,q⟩:=hs
  exact False.elim q
end L2
namespace L2
open PySem PySem.Spec PyProof.Rows
section
variable {X:Cx} {x:Str} {p pos:Pos} {e:Expr} {es:List Expr} {t:TA} {id T:String} {r:List V→Hp→VK→Prop}
def M8 (r:List V→Hp→VK→Prop) (t:TA):TE:=fun σ H Q=>t σ H fun vs H1=>r vs H1 Q
theorem a5 (hc:oK X (.builtin id) r) (hg:Gl X x) (hm:X.mg x=none) (hv:bootBuiltins x=some (.builtin id)) (ha:PA X (e::es) t) (hn:x≠"__name__":=by decide) (hdb:(x==("__debug__":Str))=false:=by decide)
  (he:starEach (e::es) X.env=(false,eval e X.env)::starEach es X.env:=by rfl) (hpl:(backTo pos (starEach es X.env)).any (·.1)=false:=by rfl):PE X (.Call (.Name x p) (e::es) [] pos) (M8 r t):=by
 intro pins s σ H Q I h
 refine wpAny_Call_Name_kw (sC I hg hm hv ?_ hn hdb)
 exact PyProof.Rows.callWith_builtin1 (dn (ha pos pins s σ H _ I h) fun us s1 ⟨vs,H1,I1,r1,q1⟩=>hc pins s1 σ H1 vs us Q I1 r1 q1) he hpl
theorem mj (hc:oK X (.type T) r) (hg:Gl X x) (hm:X.mg x=none) (hv:bootBuiltins x=some (.type T)) (ha:PA X (e::es) t) (hn:x≠"__name__":=by decide) (hdb:(x==("__debug__":Str))=false:=by decide)
  (he:starEach (e::es) X.env=(false,eval e X.env)::starEach es X.env:=by rfl) (hpl:(backTo pos (starEach es X.env)).any (·.1)=false:=by rfl):PE X (.Call (.Name x p) (e::es) [] pos) (M8 r t):=by
 intro pins s σ H Q I h
 refine wpAny_Call_Name_kw (sC I hg hm hv ?_ hn hdb)
 exact PyProof.Rows.callWith_type1 (dn (ha pos pins s σ H _ I h) fun us s1 ⟨vs,H1,I1,r1,q1⟩=>hc pins s1 σ H1 vs us Q I1 r1 q1) he hpl
end
end L2
namespace HT
open PySem PyProof.Rows
section
open PySem.SeqAt
open PySem.AutoSeq1 (wpAny_loadPart')
open PySem.MeetsSeq PySem.MeetsSeq2 PySem.MeetsSeq3
end
section
variable {prog:Program} {w:World} {A:Around} {E:Value→Shared→Prop} {s:Shared}
def sIx (n d:Nat):Option Int→Nat
 | none=>d
 | some v=>if v<0 then(v+(n:Int)).toNat else min v.toNat n
end
end HT
namespace L2
open PySem PySem.Spec PyProof.Rows
abbrev TO:=St→Hp→(Option Int→Hp→Prop)→Prop
def PO (X:Cx) (e:Option Expr) (t:TO):Prop:=
 ∀(pins:List (Addr×Obj)) (s:Shared) (σ:St) (H:Hp) (Q:Option Int→Hp→Prop),a8 X pins σ H s→t σ H Q→
  wpAny (model X.prog X.w) X.A (evalPart e X.env) (fun u s'=>∃o H',a8 X pins σ H' s'∧IsPart u o∧Q o H') X.xe s
def JX:TO:=fun _ H Q=>Q none H
def LY (t:TE):TO:=fun σ H Q=>t σ H fun x H1=>∃i,x= .int i∧Q (some i) H1
section
variable {X:Cx} {e:Expr} {te:TE} {lo hi:Option Expr} {tl th:TO} {pos p2:Pos}
theorem JJ:PO X none JX:=by
 intro pins s σ H Q I h
 rw [evalPart_none]
 exact wpAny_pure ⟨none,H,I,.none,h⟩
theorem nI (h:PE X e te):PO X (some e) (LY te):=by
 intro pins s σ H Q I hw
 rw [evalPart_some]
 refine dn (h pins s σ H _ I hw) fun u s1 ⟨x,H1,I1,r1,q1⟩=> ?_
 obtain⟨i,rfl,q⟩:=q1
 obtain⟨t,rfl⟩:=r1
 exact⟨some i,H1,I1,.int i t,q⟩
def Ml (X:Cx) (r:V→Option Int→Option Int→Hp→VK→Prop):Prop:=
 ∀(pins:List (Addr×Obj)) (s:Shared) (σ:St) (H:Hp) (x:V) (v vl vu:Value) (lo hi:Option Int) (sl:Addr) (Q:VK),a8 X pins σ H s→cj x v→s.heap.IsSliceOf sl vl vu .none→IsPart vl lo→IsPart vu hi→r x lo hi H Q→
  ∃T id,typeLookup (.type T) "__getitem__"=pure (some (.builtin id))∧s.TypeIs v T∧wpAny (model X.prog X.w) X.A (getItem v (.ref sl)) (EP X pins σ Q) X.xe s
def Nk (r:V→Option Int→Option Int→Hp→VK→Prop) (te:TE) (tl th:TO):TE:=fun σ H Q=>te σ H fun x H1=>tl σ H1 fun l H2=>th σ H2 fun u H3=>r x l u H3 Q
theorem uG {r:V→Option Int→Option Int→Hp→VK→Prop} (hr:Ml X r) (he:PE X e te) (hl:PO X lo tl) (hu:PO X hi th):PE X (.Subscript e (.Slice lo hi none p2) pos) (Nk r te tl th):=by
 intro pins s σ H Q I h
 refine Subscript_ (dn (he pins s σ H _ I h) fun v s1 ⟨x,H1,I1,r1,q1⟩=> ?_)
 refine wpAny_Slice (dn (hl pins s1 σ H1 _ I1 q1) fun vl s2 ⟨l,H2,I2,pl,q2⟩=>dn (hu pins s2 σ H2 _ I2 q2) fun vu s3 ⟨u,H3,I3,pu,q3⟩=> ?_)
 rw [evalPart_none]
 refine wpAny_pure ?_
 have I4:a8 X pins σ H3 {s3 with heap:=s3.heap.push {cls:= .type "slice",data:= .fields #[vl,vu,.none]}}:=I3.kept (t':=s3.toks) fun b ob q=>Heap.get?_push_of_some _ q
 obtain⟨T,id,hT,ht,hg⟩:=hr pins {s3 with heap:=s3.heap.push {cls:= .type "slice",data:= .fields #[vl,vu,.none]}} σ H3 x v vl vu l u s3.heap.objs.size Q I4 r1 (Heap.IsSliceOf.new ..) pl pu q3
 show wpAny (model X.prog X.w) X.A (subscriptTail e (.Slice lo hi none p2) v (.ref s3.heap.objs.size)) (EP X pins σ Q) X.xe {s3 with heap:=s3.heap.push {cls:= .type "slice",data:= .fields #[vl,vu,.none]}}
 exact tail_any (ops:= [.ref s3.heap.objs.size,v]) ht hT hg (by with_unfolding_all rfl)
def rq (xs:List V) (lo hi:Option Int):List V:=(xs.drop (HT.sIx xs.length 0 lo)).take (HT.sIx xs.length xs.length hi - HT.sIx xs.length 0 lo)
theorem CH (xs:List V) (lo hi:Option Int):(rq xs lo hi).length≤xs.length:=by
 unfold rq
 rw [List.length_take,List.length_drop]
 omega
end
end L2
namespace L2
open PySem PySem.Spec PyProof.Rows
def Jc (n:Nat) (i:Int):Option Nat:=if 0≤i then(if i<n then some i.toNat else none) else if -(n:Int)≤i then some (i+n).toNat else none
def He {α:Type} (xs:List α) (i:Int):Option α:=(Jc xs.length i).bind fun j=>xs[j]?
theorem Fm {n:Nat} {i:Int} {j:Nat} (h:Jc n i=some j):seqIndex? i n=some j∧j<n∧-(n:Int)≤i∧i<n:=by
 unfold Jc at h
 by_cases h0:0≤i
 ·rw [if_pos h0] at h
  by_cases h1:i<n
  ·rw [if_pos h1] at h
   have e:i.toNat=j:=Option.some.inj h
   exact⟨by rw [seqIndex_of h0 h1,e],by omega,by omega,h1⟩
  ·rw [if_neg h1] at h;cases h
 ·rw [if_neg h0] at h
  by_cases h1: -(n:Int)≤i
  ·rw [if_pos h1] at h
   have e:(i+n).toNat=j:=Option.some.inj h
   exact⟨by rw [seqIndex_neg (by omega) h1,e],by omega,h1,by omega⟩
  ·rw [if_neg h1] at h;cases h
theorem Jh {α:Type} {xs:List α} {i:Int} {v:α} (h:He xs i=some v):∃j,seqIndex? i xs.length=some j∧xs[j]?=some v∧j<xs.length∧-(xs.length:Int)≤i∧i<xs.length:=by
 unfold He at h
 cases e:Jc xs.length i with
 | none=>rw [e] at h;cases h
 | some j=>
  rw [e] at h
  obtain⟨h1,h2,h3,h4⟩:=Fm e
  exact⟨j,h1,h,h2,h3,h4⟩
theorem Ji {α:Type} {xs:List α} {j:Nat} {v:α} (h:xs[j]?=some v):He xs (j:Int)=some v:=by
 have hj:j<xs.length:=(List.getElem?_eq_some_iff.mp h).1
 have e:Jc xs.length (j:Int)=some j:=by
  unfold Jc
  rw [if_pos (by omega),if_pos (by omega)];simp
 unfold He;rw [e];exact h
def E6 (b:Expr):Prop:=∀o i,subscripted b false o i=operate [o,i] (getItem o i)
def Mh (X:Cx) (r:R2):Prop:=
 ∀(value slice:Expr) (pins:List (Addr×Obj)) (s:Shared) (σ:St) (H:Hp) (x y:V) (v u:Value) (Q:VK),a8 X pins σ H s→cj x v→cj y u→r x y H Q→
  subscripted slice false v u=operate [v,u] (getItem v u)→wpAny (model X.prog X.w) X.A (subscriptTail value slice v u) (EP X pins σ Q) X.xe s
def Nb (X:Cx) (id:String) (r:V→List V→Hp→VK→Prop):Prop:=
 ∀(pins:List (Addr×Obj)) (s:Shared) (σ:St) (H:Hp) (x:V) (xs:List V) (v:Value) (us:List Value) (Q:VK),a8 X pins σ H s→cj x v→bw xs us→r x xs H Q→
  wpAny (model X.prog X.w) X.A (call (.builtin id) (v::us)) (EP X pins σ Q) X.xe s
section
variable {X:Cx} {a b:Expr} {ta tb:TE} {pos:Pos}
theorem Dg {r:R2} (hr:Mh X r) (ha:PE X a ta) (hb:PE X b tb) (hs:E6 b):PE X (.Subscript a b pos) (LX r ta tb):=by
 intro pins s σ H Q I h
 exact Subscript_ (Kt ha hb I h fun v u s2 x y H2 I2 rx ry q=>hr a b pins s2 σ H2 x y v u Q I2 rx ry q (hs _ _))
def K2 (K:PySem.W.Frag):R2:=fun x y H Q=>∃p xs i v,x= .ref p∧y= .int i∧aX K H p xs∧He xs i=some v∧Q v H
theorem Fn:Mh X (K2 X.K):=by
 intro value slice pins s σ H x y v u Q I rx ry h hs
 obtain⟨p,xs,i,z,rfl,rfl,hq,he,q⟩:=h
 cases rx
 obtain⟨t,rfl⟩:=ry
 obtain⟨its,r,pl,hz⟩:=I.list hq
 obtain⟨j,h1,h2,h3,h4,h5⟩:=Jh he
 obtain⟨w,ew,rw'⟩:=r.get h2
 have hl:=r.length
 have hn:=yJ
 have fin:EP X pins σ Q w s:=⟨z,H,I,rw',q⟩
 by_cases h0:0≤i
 ·have hj:i.toNat=j:=by
   rw [seqIndex_of h0 h5] at h1
   exact Option.some.inj h1
  exact item_listR pl.isList h0 (by omega) (by rw [hj];simpa using ew) fin hs
 ·have hj:(i+(its.toArray.size:Int)).toNat=j:=by
   rw [seqIndex_neg (by omega) h4] at h1
   rw [List.size_toArray,←hl]
   exact Option.some.inj h1
  exact subscriptTail_builtinR (x:=w) pl.isList.typeIs slot_list_getitem.lookup
   (wpAny_getItem_list_neg (Q:=fun r s'=>r=w∧EP X pins σ Q r s') pl.isList (by omega) (by rw [List.size_toArray]<;>omega) (by omega) (by rw [hj];simpa using ew) ⟨rfl,fin⟩) hs
theorem En (its:List Value) (n j:Nat) (u:Value):Obj.mapSeq (·.setIfInBounds j u) {cls:= .type "list",data:= .seq its.toArray n}={cls:= .type "list",data:= .seq (its.set j u).toArray n}:=by
 simp [Obj.mapSeq]
theorem a8.lst {pins:List (Addr×Obj)} {σ:St} {H:Hp} {s:Shared} {p:Addr} {xs:List V} (I:a8 X pins σ H s) (h:H p=some (.lst xs)):
  ∃(its:List Value) (n:Nat),bw xs its∧s.heap.get? p=some {cls:= .type "list",data:= .seq its.toArray n}∧xs.length≤sizeLine:=by
 obtain⟨z,its,n,r,e⟩:=I.hok p _ h
 exact⟨its,n,r,e,z⟩
theorem a8.lstUpd {pins:List (Addr×Obj)} {σ:St} {H:Hp} {s:Shared} {p:Addr} {xs ys:List V} {its its':List Value} {n n':Nat} {f:Obj→Obj} (I:a8 X pins σ H s) (h:H p=some (.lst xs))
  (ho:s.heap.get? p=some {cls:= .type "list",data:= .seq its.toArray n}) (hf:f {cls:= .type "list",data:= .seq its.toArray n}={cls:= .type "list",data:= .seq its'.toArray n'}) (r:bw ys its') (hz:ys.length≤sizeLine) (t:Nat):
  a8 X pins σ (bC H p (.lst ys)) {s with heap:=s.heap.update p f,toks:=t}:=by
 have e:(s.heap.update p f).get? p=some {cls:= .type "list",data:= .seq its'.toArray n'}:=by
  rw [Heap.get?_update_self f ho (by rw [hf]<;>rfl),hf]
 refine I.write (x:=p) (e:=p) (by rw [h];trivial) (.inl rfl) (fun b u hb q=>(Heap.get?_update_other _ _ (Ne.symm hb)).trans q) ⟨_,e⟩ ?_
 exact⟨hz,its',n',r,e⟩
def LL:V→V→V→Hp→(Hp→Prop)→Prop:=fun o i v H Q=>∃p xs k j,o= .ref p∧i= .int k∧H p=some (.lst xs)∧Jc xs.length k=some j∧Q (bC H p (.lst (xs.set j v)))
theorem gc:Ko X LL:=by
 intro pins s σ H o i v ov iv u Q I ro ri rv h
 obtain⟨p,xs,k,j,rfl,rfl,hp,hj,q⟩:=h
 cases ro
 obtain⟨t,rfl⟩:=ri
 obtain⟨its,n,r,ho,hz⟩:=I.lst hp
 obtain⟨h1,h2,h3,h4⟩:=Fm hj
 have hl:=r.length
 have hn:=yJ
 have I':a8 X pins σ (bC H p (.lst (xs.set j v))) {s with heap:=s.heap.update p (Obj.mapSeq (·.setIfInBounds j u))}:=
  I.lstUpd hp ho (En its n j u) (r.set rv j) (by rw [List.length_set];exact hz) s.toks
 by_cases h0:0≤k
 ·have hk:k.toNat=j:=by
   rw [seqIndex_of h0 h4] at h1
   exact Option.some.inj h1
  exact PySem.W.ki_setAt ho h0 (by omega) (by rw [List.size_toArray,←hl];exact h4) (by rw [hk];exact⟨_,I',q⟩)
 ·have hk:(k+(its.toArray.size:Int)).toNat=j:=by
   rw [seqIndex_neg (by omega) h3] at h1
   rw [List.size_toArray,←hl]
   exact Option.some.inj h1
  exact PySem.W.ki_setBack ho (by omega) (by rw [List.size_toArray,←hl];exact h3) (by omega) (by rw [hk];exact⟨_,I',q⟩)
theorem B8 (lo hi:Option Int) (n:Nat):(sliceBounds lo hi none n).1=((HT.sIx n 0 lo:Nat):Int)∧(sliceBounds lo hi none n).2.1=((HT.sIx n n hi:Nat):Int)∧(sliceBounds lo hi none n).2.2=1:=by
 refine⟨?_,?_,rfl⟩
 ·cases lo with
  | none=>simp [sliceBounds,HT.sIx]
  | some i=>
   simp only [sliceBounds,HT.sIx,Option.getD_none,show(1:Int)>0 by decide,if_true]
   by_cases h:i<0
   ·simp only [h,if_true]<;>omega
   ·simp only [h,if_false]<;>omega
 ·cases hi with
  | none=>simp [sliceBounds,HT.sIx]
  | some i=>
   simp only [sliceBounds,HT.sIx,Option.getD_none,show(1:Int)>0 by decide,if_true]
   by_cases h:i<0
   ·simp only [h,if_true]<;>omega
   ·simp only [h,if_false]<;>omega
theorem Ar (its:List Value) (lo hi:Option Int):slicePick its.toArray lo hi none=((its.drop (HT.sIx its.length 0 lo)).take (HT.sIx its.length its.length hi - HT.sIx its.length 0 lo)).toArray:=by
 obtain⟨h1,h2,h3⟩:=B8 lo hi its.toArray.size
 unfold slicePick
 rw [h1,h2,h3]
 simp only [sliceRange_one,pick_run,List.size_toArray]<;>rfl
def LM (K:PySem.W.Frag):V→Option Int→Option Int→Hp→VK→Prop:=fun x lo hi H Q=>∃a xs,x= .ref a∧aX K H a xs∧∀p,H p=none→Q (.ref p) (bC H p (.lst (rq xs lo hi)))
theorem yk:Ml X (LM X.K):=by
 intro pins s σ H x v vl vu lo hi sl Q I rx hs pl pu h
 obtain⟨a,xs,rfl,hx,q⟩:=h
 cases rx
 obtain⟨its,r,ht,hz⟩:=I.list hx
 have hlen:=r.length
 refine⟨"list",_,slot_list_getitem.lookup,ht.isList.typeIs,?_⟩
 refine wpAny_getItem_list_slice ht.isList hs pl pu .none (by simp) ?_ (by rw [List.size_toArray]<;>omega)
 rw [Ar,←hlen]
 refine⟨.ref s.heap.objs.size,_,I.laid (t':=s.toks) (o:= .lst (rq xs lo hi)) (fun b ob q=>Heap.get?_push_of_some _ q) (Nat.le_refl _) ?_,rfl,q _ (I.hok.fresh (Nat.le_refl _))⟩
 exact⟨Nat.le_trans (CH xs lo hi) hz,_,0,(r.drop (HT.sIx xs.length 0 lo)).take (HT.sIx xs.length xs.length hi - HT.sIx xs.length 0 lo),Heap.get?_push_size _ rfl⟩
theorem aT:oK X (.builtin "len") (fun xs H Q=>∃p ys,xs= [.ref p]∧(aX X.K H p ys∨Ea X.K H p ys)∧Q (.int ys.length) H):=by
 intro pins s σ H xs us Q I r h
 obtain⟨p,ys,rfl,hq,q⟩:=h
 obtain⟨u,rfl,rx⟩:=FP r
 cases rx
 have hn:=yJ
 rcases hq with hq | hq
 ·obtain⟨its,r',pl,hz⟩:=I.list hq
  have hlen:=r'.length
  exact Calls.call_len_list pl.isList (by simp only [List.size_toArray]<;>omega) ⟨.int ys.length,H,I.tok _,⟨s.toks+1,by rw [List.size_toArray,hlen]⟩,q⟩
 ·obtain⟨its,r',pl,hz⟩:=I.tuple hq
  have hlen:=r'.length
  exact len_tuple pl (by simp only [List.size_toArray]<;>omega) ⟨.int ys.length,H,I.tok _,⟨s.toks+1,by rw [List.size_toArray,hlen]⟩,q⟩
theorem mT:oK X (.type "list") (fun xs H Q=>∃p ys,xs= [.ref p]∧(aX X.K H p ys∨Ea X.K H p ys)∧∀l,H l=none→Q (.ref l) (bC H l (.lst ys))):=by
 intro pins s σ H xs us Q I r h
 obtain⟨p,ys,rfl,hq,q⟩:=h
 obtain⟨u,rfl,rx⟩:=FP r
 cases rx
 have fin:∀(its:List Value),bw ys its→ys.length≤sizeLine→∀(h':Heap) (c':Nat),(∀b o',s.heap.get? b=some o'→h'.get? b=some o')→
   h'.get? s.heap.objs.size=some {cls:= .type "list",dict:=none,data:= .seq its.toArray c',slots:=#[]}→EP X pins σ Q (.ref s.heap.objs.size) {s with heap:=h'}:=fun its r' hz h' c' kp e=>
  ⟨.ref s.heap.objs.size,_,I.laid (t':=s.toks) kp (Nat.le_refl _) (show f7 X.prog X.w _ h' _ (.lst ys) from⟨hz,its,c',r',e⟩),rfl,q _ (I.hok.fresh (Nat.le_refl _))⟩
 rcases hq with hq | hq
 ·obtain⟨its,r',pl,hz⟩:=I.list hq
  have hlen:=r'.length
  obtain⟨o,ho,hc,n,hd⟩:=pl.isList
  exact call_list_seq p (.inl rfl) ho hc hd (fun h' c' kp e=>fin its r' hz h' c' kp e) (by simp only [List.size_toArray]<;>omega)
 ·obtain⟨its,r',pl,hz⟩:=I.tuple hq
  have hlen:=r'.length
  obtain⟨o,ho,hc,n,hd⟩:=pl
  exact call_list_seq p (.inr rfl) ho hc hd (fun h' c' kp e=>fin its r' hz h' c' kp e) (by simp only [List.size_toArray]<;>omega)
def M9 (K:PySem.W.Frag) (T:String) (x:V) (H:Hp):Prop:=match x with
 | .str _=>T="str"
 | .int _=>T="int"
 | .ref p=>(T="list"∧∃xs,aX K H p xs)∨(T="tuple"∧∃o,K.lookup p=some o∧o.cls= .type "tuple"∧o.dict=none)∨
   (T="dict"∧((∃kvs,H p=some (.dK kvs))∨∃kvs,H p=some (.dT kvs)))∨(T="set"∧∃S n,H p=some (.set S n))
 | _=>False
theorem Le {pins:List (Addr×Obj)} {σ:St} {H:Hp} {s:Shared} {T:String} {x:V} {v:Value} (I:a8 X pins σ H s) (r:cj x v) (ty:M9 X.K T x H):
  s.TypeIs v T∧∀a,v= .ref a→∃ob,s.heap.get? a=some ob∧ob.dict=none:=by
 cases x with
 | str z=>
  obtain⟨t,rfl⟩:=r
  cases (show T="str" from ty)
  exact⟨typeIs_str s z t,fun _ e=>nomatch e⟩
 | int i=>
  obtain⟨t,rfl⟩:=r
  cases (show T="int" from ty)
  exact⟨typeIs_int s i t,fun _ e=>nomatch e⟩
 | ref p=>
  cases r
  rcases ty with⟨rfl,xs,hq⟩ | ⟨rfl,o,hk,hc,hd⟩ | ⟨rfl,hk⟩ | ⟨rfl,S,n,hk⟩
  ·obtain⟨its,_,pl,_⟩:=I.list hq
   refine⟨pl.isList.typeIs,fun a e=> ?_⟩
   cases e
   obtain⟨o,n,e,c,hd,_⟩:=pl
   exact⟨o,e,hd⟩
  ·refine⟨⟨o,I.kIn p o hk,hc⟩,fun a e=> ?_⟩
   cases e
   exact⟨o,I.kIn _ o hk,hd⟩
  ·have z:∃o,s.heap.get? p=some o∧o.ExactDict:=by
    rcases hk with⟨kvs,hk⟩ | ⟨kvs,hk⟩
    ·obtain⟨_,_,_,_,o,_,_,e,ex,_⟩:=I.hok p _ hk
     exact⟨o,e,ex⟩
    ·obtain⟨_,_,_,_,o,_,_,e,ex,_⟩:=I.hok p _ hk
     exact⟨o,e,ex⟩
   obtain⟨o,e,ex⟩:=z
   refine⟨⟨o,e,ex.1⟩,fun a e2=> ?_⟩
   cases e2
   exact⟨o,e,ex.2.1⟩
  ·obtain⟨o,_,_,_,e,ex,_⟩:=I.hok p _ hk
   refine⟨⟨o,e,ex.1⟩,fun a e2=> ?_⟩
   cases e2
   exact⟨o,e,ex.2.1⟩
 | _=>exact False.elim ty
def Nh (K:PySem.W.Frag) (T:String) (r:V→List V→Hp→VK→Prop) (to:TE) (t:TA):TE:=fun σ H Q=>to σ H fun x H1=>M9 K T x H1∧t σ H1 fun xs H2=>r x xs H2 Q
variable {o e:Expr} {es:List Expr} {to:TE} {t:TA} {name:Str} {apos cpos:Pos} {T id:String} {r:V→List V→Hp→VK→Prop}
theorem oS (pa:PlainAttrs T) (slot:Slot T name id) (hty:typeOf (.builtin id)=pure (.type "method_descriptor")) (hm:Nb X id r) (ho:PE X o to) (ha:PA X (e::es) t)
  (hbase:attributeBase o name X.env (eval o X.env)=eval o X.env:=by rfl)
  (hfew:((backTo cpos (starEach (e::es) X.env)).all (fun x=> !x.1) && (backToKw cpos (keywordEach [] X.env)).all (fun x=>x.1.isSome)
   && decide ((e::es).length+([]:List Keyword).length+(if ([]:List Keyword).isEmpty then 0 else 1)<30))=true:=by rfl)
  (hline:(apos.endLine==cpos.line)=true:=by rfl) (hs:starEach (e::es) X.env=(false,eval e X.env)::starEach es X.env:=by rfl) (hplain:(backTo cpos (starEach es X.env)).any (·.1)=false:=by rfl):
  PE X (.Call (.Attribute o name apos) (e::es) [] cpos) (Nh X.K T r to t):=by
 intro pins s σ H Q I h
 refine wpAny_Call_method_late hbase hfew hline rfl (dn (ho pins s σ H _ I h) fun v s1 ⟨x,H1,I1,r1,ty,q1⟩=> ?_)
 obtain⟨h1,h2⟩:=Le I1 r1 ty
 refine⟨T,id,pa,slot,hty,h1,h2,?_⟩
 have hA:=ha cpos pins s1 σ H1 _ I1 q1
 rw [hs] at hA⊢
 refine Calls.callWith_builtin (by show(false || (backTo cpos (starEach es X.env)).any (·.1))=false;rw [hplain]<;>rfl) (Calls.evalArgs_plain ?_)
 exact dn hA fun us s2 ⟨vs,H2,I2,r2,q2⟩=>hm pins s2 σ H2 x vs v us Q I2 r1 r2 q2
end
end L2
namespace L2
open PySem PySem.Spec PyProof.Rows
def MX (X:Cx) (id:String) (r:V→List V→Hp→VK→Prop):Prop:=
 ∀(pins:List (Addr×Obj)) (s:Shared) (σ:St) (H:Hp) (x:V) (xs:List V) (v:Value) (us:List Value) (Q:VK),a8 X pins σ H s→cj x v→bw xs us→r x xs H Q→
  wpAny (model X.prog X.w) X.A (call (.builtin id) (v::us)) (EP X pins σ Q) X.xe s
theorem bw.one:∀{x:V} {us:List Value},bw [x] us→∃u,us= [u]∧cj x u
 | _,_,.cons r .nil=>⟨_,rfl,r⟩
theorem bw.rep {xs:List V} {us:List Value} (h:bw xs us):∀k:Nat,bw (List.replicate k xs).flatten (List.replicate k us).flatten
 | 0=> .nil
 | k+1=>by
  rw [List.replicate_succ,List.replicate_succ,List.flatten_cons,List.flatten_cons]
  exact bw.append h (bw.rep h k)
theorem AR (its:List Value):∀(k:Nat) (acc:List Value),
  List.foldl (fun x1 x2=>x1++x2) acc.toArray (List.replicate k its.toArray)=(acc++(List.replicate k its).flatten).toArray
 | 0,acc=>by simp
 | k+1,acc=>by
  have e:acc.toArray++its.toArray=(acc++its).toArray:=by simp
  have e2:(acc++its)++(List.replicate k its).flatten=acc++(List.replicate (k+1) its).flatten:=by
   rw [List.replicate_succ,List.flatten_cons,List.append_assoc]
  rw [←e2,←AR its k (acc++its),←e,List.replicate_succ,List.foldl_cons]
section
variable {X:Cx} {pins:List (Addr×Obj)} {σ:St} {H:Hp} {s:Shared} {l b:Addr} {xs ys zs:List V}
theorem a8.lset {its its':List Value} {n:Nat} {f:Array Value→Array Value} {t':Nat} (I:a8 X pins σ H s) (hH:H l=some (.lst xs))
  (e:s.heap.get? l=some {cls:= .type "list",data:= .seq its.toArray n}) (hf:f its.toArray=its'.toArray) (hv:bw ys its') (hz:ys.length≤sizeLine):
  a8 X pins σ (bC H l (.lst ys)) {s with heap:=s.heap.update l (Obj.mapSeq f),toks:=t'}:=by
 have q:=PySem.IsL.update e f
 rw [hf] at q
 refine I.write (x:=l) (e:=l) (by rw [hH];exact trivial) (.inl rfl) (fun b' u hb hu=>(Heap.get?_update_other s.heap (Obj.mapSeq f) (Ne.symm hb)).trans hu) ⟨_,q⟩ ?_
 exact⟨hz,its',_,hv,q⟩
theorem a8.lnew {its:List Value} {t':Nat} (I:a8 X pins σ H s) (hv:bw ys its) (hz:ys.length≤sizeLine):
  a8 X pins σ (bC H s.heap.objs.size (.lst ys)) {s with heap:=s.heap.push {cls:= .type "list",data:= .seq its.toArray},toks:=t'}:=
 I.laid (fun _ _ q=>Heap.get?_push_of_some _ q) (Nat.le_refl _) ⟨hz,its,0,hv,Heap.get?_push_size _ rfl⟩
theorem a8.fresh (I:a8 X pins σ H s):H s.heap.objs.size=none:=I.hok.fresh (Nat.le_refl _)
theorem a8.lstM (I:a8 X pins σ H s) (hH:H l=some (.lst xs)):xs.length≤sizeLine∧∃(its:List Value) (n:Nat),bw xs its∧xs.length=its.length∧s.heap.get? l=some {cls:= .type "list",data:= .seq its.toArray n}:=by
 obtain⟨z,its,n,r,e⟩:=I.hok l _ hH
 exact⟨z,its,n,r,r.length,e⟩
theorem C5 {n:Nat} (h:n≤sizeLine):Builtin.List.listTooLong n=false:=by
 unfold Builtin.List.listTooLong
 exact decide_eq_false (by omega)
end
section
variable {X:Cx}
def JM:V→List V→Hp→VK→Prop:=fun x vs H Q=>∃l xs y,x= .ref l∧vs= [y]∧H l=some (.lst xs)∧xs.length<sizeLine∧Q .non (bC H l (.lst (xs++ [y])))
theorem gI:MX X "list.append" JM:=by
 intro pins s σ H x vs v us Q I rx rv h
 obtain⟨l,xs,y,rfl,rfl,hH,hz,q⟩:=h
 cases rx
 obtain⟨u,rfl,ru⟩:=rv.one
 obtain⟨z,its,n,r,hl,e⟩:=I.lstM hH
 refine call_meets F.slot_list_append ⟨_,e,rfl⟩ F.entry_list_append (F.args_list_append_2 _ _) (PySem.list_append l its.toArray n u (by rw [List.size_toArray];omega)) ⟨e,?_⟩
 refine⟨.non,_,I.lset (its':=its++ [u]) hH e (by simp) (r.append (.cons ru .nil)) ?_,rfl,q⟩
 rw [List.length_append,List.length_singleton]
 omega
def JN:V→List V→Hp→VK→Prop:=fun x vs H Q=>∃l b xs zs,x= .ref l∧vs= [.ref b]∧H l=some (.lst xs)∧H b=some (.lst zs)∧xs.length+zs.length≤sizeLine∧Q .non (bC H l (.lst (xs++zs)))
theorem qU:MX X "list.extend" JN:=by
 intro pins s σ H x vs v us Q I rx rv h
 obtain⟨l,b,xs,zs,rfl,rfl,hH,hB,hz,q⟩:=h
 cases rx
 obtain⟨u,rfl,ru⟩:=rv.one
 cases ru
 obtain⟨z,its,n,r,hl,e⟩:=I.lstM hH
 obtain⟨z2,its2,n2,r2,hl2,e2⟩:=I.lstM hB
 have hsz:its.toArray.size+its2.toArray.size≤sizeLine:=by rw [List.size_toArray,List.size_toArray];omega
 have hlong:¬(!its.toArray.isEmpty && Builtin.List.listTooLong (its.toArray.size+its2.toArray.size))=true:=by
  rw [C5 hsz,Bool.and_false]
  exact Bool.false_ne_true
 refine call_meets F.slot_list_extend ⟨_,e,rfl⟩ F.entry_list_extend (F.args_list_extend_2 _ _)
  (AutoSeq1.list_extend_list_list_0 l its.toArray n b its2.toArray n2 hlong (by rw [List.size_toArray];omega) (by omega)) ⟨e,e2,?_⟩
 refine⟨.non,_,I.lset (its':=its++its2) hH e (by simp) (r.append r2) ?_,rfl,q⟩
 rw [List.length_append]
 omega
def MF:R2:=fun x y H Q=>∃l b xs zs,x= .ref l∧y= .ref b∧H l=some (.lst xs)∧H b=some (.lst zs)∧xs.length+zs.length≤sizeLine∧∀p,H p=none→Q (.ref p) (bC H p (.lst (xs++zs)))
theorem dF:yr X (binaryOp .Add) MF:=by
 intro pins s σ H x y v u Q I rx ry h
 obtain⟨l,b,xs,zs,rfl,rfl,hH,hB,hz,q⟩:=h
 cases rx
 cases ry
 obtain⟨z,its,n,r,hl,e⟩:=I.lstM hH
 obtain⟨z2,its2,n2,r2,hl2,e2⟩:=I.lstM hB
 refine PySem.P.add_list e e2 ?_ (by rw [List.size_toArray,List.size_toArray];omega)
 have ea:its.toArray++its2.toArray=(its++its2).toArray:=by simp
 rw [ea]
 exact⟨.ref _,_,I.lnew (t':=s.toks) (r.append r2) (by rw [List.length_append];omega),rfl,q _ I.fresh⟩
def MH:R2:=fun x y H Q=>∃l k xs,x= .ref l∧y= .int k∧H l=some (.lst xs)∧-(2 ^ 63)≤k∧k<2 ^ 63∧xs.length*k.toNat≤sizeLine∧
 ∀p,H p=none→Q (.ref p) (bC H p (.lst (List.replicate k.toNat xs).flatten))
theorem Ju {α:Type} (xs:List α) (k:Nat):(List.replicate k xs).flatten.length=k*xs.length:=by
 induction k with
 | zero=>simp
 | succ k ih=>rw [List.replicate_succ,List.flatten_cons,List.length_append,ih,Nat.succ_mul,Nat.add_comm]
theorem Il:yr X (binaryOp .Mult) MH:=by
 intro pins s σ H x y v u Q I rx ry h
 obtain⟨l,k,xs,rfl,rfl,hH,h1,h2,hz,q⟩:=h
 cases rx
 obtain⟨t,rfl⟩:=ry
 obtain⟨z,its,n,r,hl,e⟩:=I.lstM hH
 have hlen:its.toArray.size*k.toNat≤sizeLine:=by rw [List.size_toArray,←hl];exact hz
 have hcap:¬its.toArray.size*k.toNat>(2 ^ 63 - 1) /8:=by
  have:(sizeLine:Nat)≤(2 ^ 63 - 1) /8:=by decide
  omega
 have hfit:¬(!Builtin.List.listFitsIndex k)=true:=by
  rw [fitsIndex_both h1 h2]
  exact Bool.false_ne_true
 have hlong:¬Builtin.List.listTooLong (its.toArray.size*k.toNat)=true:=by
  rw [C5 hlen]
  exact Bool.false_ne_true
 have hnew:List.foldl (fun x1 x2=>x1++x2) #[] (List.replicate (if its.toArray.isEmpty=true then 0 else k.toNat) its.toArray)=(List.replicate k.toNat its).flatten.toArray:=by
  have f0:∀m:Nat,List.foldl (fun x1 x2=>x1++x2) #[] (List.replicate m its.toArray)=(List.replicate m its).flatten.toArray:=fun m=>by
   have:=AR its m []
   rw [List.nil_append] at this
   exact this
  rw [f0]
  cases its with
  | nil=>simp
  | cons a r'=>rw [if_neg (by simp)]
 refine wpAny_binaryOp_repeat_ref (T:="list") (U:="int") (by decide) ⟨_,e,rfl⟩ (fun s'=>typeIs_int s' k t) noFill_list_mul F.fills_int_mul F.slot_int_rmul repeat_list F.slot_int_index.lookup
  (call_meets F.slot_int_rmul (typeIs_int s k t) F.entry_int_rmul (F.args_int_rmul_2 _ _) (int___rmul___int_list k t l its.toArray n)
   ⟨e,rfl,⟨_,e,rfl⟩,call_meets F.slot_list_mul ⟨_,e,rfl⟩ F.entry_list_mul (F.args_list_mul_2 _ _) (AutoListH.list___mul___list_int_3 l its.toArray n k t hfit hcap hlong) ⟨e,?_⟩⟩)
 rw [hnew]
 exact⟨.ref _,_,I.lnew (t':=s.toks) (r.rep k.toNat) (by rw [Ju,Nat.mul_comm];exact hz),rfl,q _ I.fresh⟩
end
section
variable {prog:Program} {w:World} {A:Around} {E:Value→Shared→Prop} {s:Shared}
set_option maxRecDepth 100000 in
end
section
variable {X:Cx}
end
end L2
namespace L2
open PySem PySem.Spec PyProof.Rows
theorem bw.ints:∀{ns:List Int} {us:List Value},bw (ns.map V.int) us→IntsAre us ns
 | [],us,h=>by
  rw [List.map_nil] at h
  cases h
  exact IntsAre.nil
 | n::ns,us,h=>by
  rw [List.map_cons] at h
  cases h with
  | cons r t=>
   obtain⟨k,rfl⟩:=r
   exact IntsAre.cons n k (bw.ints t)
theorem bw.bls:∀{bs:List Bool} {us:List Value},bw (bs.map V.bl) us→us=bs.map Value.bool
 | [],us,h=>by
  rw [List.map_nil] at h
  cases h
  rfl
 | b::bs,us,h=>by
  rw [List.map_cons] at h
  cases h with
  | cons r t=>
   cases r
   rw [bw.bls t,List.map_cons]
theorem bw.ref1 {a:Addr} {us:List Value} (r:bw [V.ref a] us):us= [Value.ref a]:=by
 cases r with
 | cons r t=>
  cases t
  cases r
  rfl
section
variable {prog:Program} {w:World} {A:Around} {E:Value→Shared→Prop} {s:Shared} {l:Addr} {its:List Value} {ns:List Int} {Q:Value→Shared→Prop}
theorem JV (hh:A.handled=none) (hl:s.heap.IsList l its.toArray) (hi:IntsAre its ns)
  (h:∀h' tk t',(∀b o,s.heap.get? b=some o→h'.get? b=some o)→Q (.int ns.sum t') {s with heap:=h',toks:=tk}):wpAny (model prog w) A (call (.builtin "sum") [.ref l]) Q E s:=by
 obtain⟨xs,e⟩:=hi.allInts.items
 have hn:numsOf (intItems xs).toList=ns:=by rw [←e];exact hi.numsOf
 rw [nums_intItems] at hn
 rw [e] at hl
 refine PySem.sum_intListG hh hl fun h' tk t' hk=> ?_
 have:=h h' tk t' hk
 rw [preSum_eq,List.take_of_length_le (by simp),hn];exact this
theorem Mc (hh:A.handled=none) (hl:s.heap.IsList l its.toArray) (hi:IntsAre its ns) (hne:0<ns.length)
  (h:∀h' tk M t',(∀b o,s.heap.get? b=some o→h'.get? b=some o)→M∈ns→(∀a,a∈ns→a≤M)→Q (.int M t') {s with heap:=h',toks:=tk}):wpAny (model prog w) A (call (.builtin "max") [.ref l]) Q E s:=by
 obtain⟨xs,e⟩:=hi.allInts.items
 have hn:numsOf (intItems xs).toList=ns:=by rw [←e];exact hi.numsOf
 rw [nums_intItems] at hn
 subst hn
 rw [e] at hl
 have hsz:0<xs.size:=by simpa using hne
 refine PySem.max_intList hh hl hsz fun v h' tk hv hk=> ?_
 obtain⟨t,rfl⟩:=intItems_at hv
 obtain⟨h1,h2⟩:=argBest_gt (numAt xs) (xs.size - 1)
 refine h h' tk _ t hk ?_ fun a ha=> ?_
 ·rw [numAt_eq];exact PySem.getD_mem (by rw [List.length_map,Array.length_toList];omega)
 ·obtain⟨j,hj,rfl⟩:=mem_getD ha
  rw [List.length_map,Array.length_toList] at hj
  rw [←numAt_eq];exact h2 j (by omega)
theorem Jx (hh:A.handled=none) (hl:s.heap.IsList l its.toArray) (hi:IntsAre its ns) (hne:0<ns.length)
  (h:∀h' tk M t',(∀b o,s.heap.get? b=some o→h'.get? b=some o)→M∈ns→(∀a,a∈ns→M≤a)→Q (.int M t') {s with heap:=h',toks:=tk}):wpAny (model prog w) A (call (.builtin "min") [.ref l]) Q E s:=by
 obtain⟨xs,e⟩:=hi.allInts.items
 have hn:numsOf (intItems xs).toList=ns:=by rw [←e];exact hi.numsOf
 rw [nums_intItems] at hn
 subst hn
 rw [e] at hl
 have hsz:0<xs.size:=by simpa using hne
 refine PySem.min_intList hh hl hsz fun v h' tk hv hk=> ?_
 obtain⟨t,rfl⟩:=intItems_at hv
 obtain⟨h1,h2⟩:=argBest_lt (numAt xs) (xs.size - 1)
 refine h h' tk _ t hk ?_ fun a ha=> ?_
 ·rw [numAt_eq];exact PySem.getD_mem (by rw [List.length_map,Array.length_toList];omega)
 ·obtain⟨j,hj,rfl⟩:=mem_getD ha
  rw [List.length_map,Array.length_toList] at hj
  rw [←numAt_eq];exact h2 j (by omega)
end
section
variable {X:Cx}
def MI (K:PySem.W.Frag):List V→Hp→VK→Prop:=fun vs H Q=>∃(a:Addr) (ns:List Int),vs= [V.ref a]∧aX K H a (ns.map V.int)∧Q (.int ns.sum) H
def MG (K:PySem.W.Frag):List V→Hp→VK→Prop:=fun vs H Q=>∃(a:Addr) (ns:List Int),vs= [V.ref a]∧aX K H a (ns.map V.int)∧0<ns.length∧∀m,m∈ns→(∀y,y∈ns→m≤y)→Q (.int m) H
theorem Bx (hc:X.calm=true):oK X (.builtin "sum") (MI X.K):=by
 intro pins s σ H vs us Q I r h
 obtain⟨a,ns,rfl,hs,q⟩:=h
 obtain⟨its,rv,hl,_⟩:=I.list hs
 rw [bw.ref1 r]
 exact JV (I.ok.hd hc) hl.isList rv.ints fun h' tk t' hk=>⟨.int _,H,I.kept hk,⟨_,rfl⟩,q⟩
theorem Kw (hc:X.calm=true):oK X (.builtin "min") (MG X.K):=by
 intro pins s σ H vs us Q I r h
 obtain⟨a,ns,rfl,hs,hne,q⟩:=h
 obtain⟨its,rv,hl,_⟩:=I.list hs
 rw [bw.ref1 r]
 exact Jx (I.ok.hd hc) hl.isList rv.ints hne fun h' tk m t' hk h1 h2=>⟨.int _,H,I.kept hk,⟨_,rfl⟩,q m h1 h2⟩
end
section
variable {X:Cx}
end
section
variable {X:Cx}
end
theorem CS {prog:Program} {w:World} {A:Around} {E:Value→Shared→Prop} {s:Shared} {l:Addr} {items:Array Value} {Q:Value→Shared→Prop} (hl:s.heap.IsList l items)
  (h:∀s₂:Shared,s₂={s with heap:=s.heap.push {cls:= .type "list_iterator",data:= .fields #[.ref l,.int 0 0]}}→
   (s₂.heap.IsListIter s.heap.objs.size l 0∧s₂.heap.IsList l items)→l≠s.heap.objs.size→Q (.ref s.heap.objs.size) s₂):wpAny (model prog w) A (pyIter (.ref l)) Q E s:=by
 have hlt:l<s.heap.objs.size:=by obtain⟨_,e,_⟩:=hl;exact Heap.lt_size e
 exact wpAny_pyIter_list hl (h _ rfl ⟨⟨_,Heap.get?_push_size _ rfl,rfl,rfl⟩,hl.push _⟩ (Nat.ne_of_lt hlt))
theorem xp {prog:Program} {w:World} {A:Around} {bs:List Bool} {its:List Value} (e:its=bs.map Value.bool):
  TruthOf prog w A (fun i v=>its.toArray[i]?=some v) (fun i=>bs.getD i false):=fun i v s Q E hv hq=>by
 have hv':its[i]?=some v:=by simpa using hv
 rw [e,List.getElem?_map] at hv'
 obtain⟨b,hb,rfl⟩:=Option.map_eq_some_iff.mp hv'
 have hg:bs.getD i false=b:=by rw [List.getD_eq_getElem?_getD,hb]<;>rfl
 have hq':Q (bs.getD i false) s:=hq
 rw [hg] at hq'
 exact wpAny_truthy_bool hq'
theorem AE:∀bs:List Bool,(List.range bs.length).any (fun i=>bs.getD i false)=bs.any id
 | []=>rfl
 | b::bs=>by
  rw [List.length_cons,List.range_succ_eq_map,List.any_cons,List.any_map,List.any_cons,←AE bs]
  all_goals rfl
theorem AD:∀bs:List Bool,(List.range bs.length).all (fun i=>bs.getD i false)=bs.all id
 | []=>rfl
 | b::bs=>by
  rw [List.length_cons,List.range_succ_eq_map,List.all_cons,List.all_map,List.all_cons,←AD bs]
  all_goals rfl
section
variable {X:Cx}
def ME (K:PySem.W.Frag):List V→Hp→VK→Prop:=fun vs H Q=>∃(a:Addr) (bs:List Bool),vs= [V.ref a]∧aX K H a (bs.map V.bl)∧Q (.bl (bs.any id)) H
def MD (K:PySem.W.Frag):List V→Hp→VK→Prop:=fun vs H Q=>∃(a:Addr) (bs:List Bool),vs= [V.ref a]∧aX K H a (bs.map V.bl)∧Q (.bl (bs.all id)) H
theorem Kv (hc:X.calm=true):oK X (.builtin "any") (ME X.K):=by
 intro pins s σ H vs us Q I r h
 obtain⟨a,bs,rfl,hs,q⟩:=h
 obtain⟨its,rv,hl,_⟩:=I.list hs
 rw [bw.ref1 r]
 have hb:=rv.bls
 refine call_any_walk (CS hl.isList fun s₂ e2 st hne=> ?_)
 subst e2
 refine⟨_,_,_,_,_,_,_,rfl,Walks.list (A:=X.A.in1) (I.ok.hd hc) _ a hne its.toArray,st,xp hb,fun h' tk hk=> ?_⟩
 refine⟨.bl _,H,I.kept fun b o eo=>hk b o (fun hmem=> ?_) (Heap.get?_push_of_some _ eo),?_,q⟩
 ·rcases List.mem_cons.mp hmem with e1 | hmem
  ·exact absurd (e1▸Heap.lt_size eo) (Nat.lt_irrefl _)
  ·cases hmem
 ·show Value.bool _=Value.bool _
  rw [←AE,hb,List.size_toArray,List.length_map]
theorem Ku (hc:X.calm=true):oK X (.builtin "all") (MD X.K):=by
 intro pins s σ H vs us Q I r h
 obtain⟨a,bs,rfl,hs,q⟩:=h
 obtain⟨its,rv,hl,_⟩:=I.list hs
 rw [bw.ref1 r]
 have hb:=rv.bls
 refine call_all_walk (CS hl.isList fun s₂ e2 st hne=> ?_)
 subst e2
 refine⟨_,_,_,_,_,_,_,rfl,Walks.list (A:=X.A.in1) (I.ok.hd hc) _ a hne its.toArray,st,xp hb,fun h' tk hk=> ?_⟩
 refine⟨.bl _,H,I.kept fun b o eo=>hk b o (fun hmem=> ?_) (Heap.get?_push_of_some _ eo),?_,q⟩
 ·rcases List.mem_cons.mp hmem with e1 | hmem
  ·exact absurd (e1▸Heap.lt_size eo) (Nat.lt_irrefl _)
  ·cases hmem
 ·show Value.bool _=Value.bool _
  rw [←AD,hb,List.size_toArray,List.length_map]
end
section
variable {X:Cx} {pins:List (Addr×Obj)} {σ:St} {H:Hp} {s:Shared}
end
section
variable {X:Cx}
end
end L2
namespace L2
open PySem PySem.Spec PyProof.Rows
abbrev Hg (h:Heap) (c:Addr) (v:Option Value):Prop:=h.IsCell c v
def MJ (scope sc:Scope):Scope:=
 {scope with names:=scope.names.map fun(n,k)=>if (k== .free && sc.kind== .function && sc.names.lookup n==some .cell) then(n,.cell) else(n,k)}
def cE (cells:List (Str×Addr)):List (Str×NameKind)→List (Str×Addr)→List (Str×Addr)
 | [],acc=>acc
 | (n,k)::r,acc=>if k== .free then cE cells r ((n,(cells.lookup n).getD 0)::acc) else cE cells r acc
theorem ug (env:Env) (f:Str×NameKind→List (Str×Addr)→Sem (ForInStep (List (Str×Addr))))
  (hf:∀n k c,f (n,k) c=if k== .free then(do let a ←cellOf env n;pure (.yield ((n,a)::c))) else pure (.yield c)):
  ∀(names:List (Str×NameKind)) (acc:List (Str×Addr)),(∀y∈names,y.2= .free→∃c,env.cells.lookup y.1=some c)→forIn names acc f=pure (cE env.cells names acc)
 | [],acc,_=>by rw [List.forIn_nil];rfl
 | (n,k)::r,acc,h=>by
  rw [List.forIn_cons,hf]
  have ih:=fun acc=>ug env f hf r acc fun y hy=>h y (List.mem_cons_of_mem _ hy)
  unfold cE
  by_cases hk:(k==NameKind.free)=true
  ·rw [if_pos hk,if_pos hk]
   obtain⟨c,hc⟩:=h (n,k) List.mem_cons_self (by simpa using hk)
   have e:cellOf env n=pure c:=by unfold cellOf;rw [hc]
   rw [e]
   have e2:(env.cells.lookup n).getD 0=c:=by rw [hc];rfl
   rw [e2]
   exact ih _
  ·rw [if_neg hk,if_neg hk]
   exact ih _
theorem Eg {scope:Scope} {env:Env} (h:∀y∈scope.names,y.2= .free→∃c,env.cells.lookup y.1=some c):closureFor scope env=pure (cE env.cells scope.names []):=by
 simp only [closureFor]
 rw [ug env _ (fun n k c=>rfl) scope.names [] h]
 rfl
theorem sI {α:Type}:∀{l:List (Str×α)} {n:Str} {c:α},(n,c)∈l→∃c',l.lookup n=some c'
 | (k,v)::r,n,c,h=>by
  rw [List.lookup_cons]
  cases hb:n==k with
  | true=>exact⟨_,rfl⟩
  | false=>
   rcases List.mem_cons.mp h with e | h
   ·cases e;simp at hb
   ·exact sI h
theorem kZ {cells:List (Str×Addr)}:∀{names:List (Str×NameKind)} {acc:List (Str×Addr)} {n:Str} {c:Addr},(n,c)∈cE cells names acc→(n,c)∈acc∨((n,.free)∈names∧c=(cells.lookup n).getD 0)
 | [],_,_,_,h=> .inl h
 | (m,k)::r,acc,n,c,h=>by
  unfold cE at h
  split at h
  ·rename_i hk
   have hk:k= .free:=by simpa using hk
   rcases kZ h with h | ⟨h1,h2⟩
   ·rcases List.mem_cons.mp h with e | h
    ·cases e;exact .inr ⟨hk▸List.mem_cons_self,rfl⟩
    ·exact .inl h
   ·exact .inr ⟨List.mem_cons_of_mem _ h1,h2⟩
  ·rcases kZ h with h | ⟨h1,h2⟩
   ·exact .inl h
   ·exact .inr ⟨List.mem_cons_of_mem _ h1,h2⟩
theorem pI {cells:List (Str×Addr)}:∀{names:List (Str×NameKind)} {acc:List (Str×Addr)} {p:Str×Addr},p∈acc→p∈cE cells names acc
 | [],_,_,h=>h
 | (m,k)::r,acc,p,h=>by
  unfold cE
  split
  ·exact pI (List.mem_cons_of_mem _ h)
  ·exact pI h
theorem pJ {cells:List (Str×Addr)}:∀{names:List (Str×NameKind)} {acc:List (Str×Addr)} {n:Str},(n,.free)∈names→(n,(cells.lookup n).getD 0)∈cE cells names acc
 | (m,k)::r,acc,n,h=>by
  unfold cE
  rcases List.mem_cons.mp h with e | h
  ·cases e
   exact pI List.mem_cons_self
  ·split
   ·exact pJ h
   ·exact pJ h
theorem lZ:∀{names:List (Str×NameKind)} {h:Heap} {acc:List (Str×Addr)} {x:Str} {c:Addr},(x,c)∈cellsFrom h.objs.size names acc→
  (x,c)∈acc∨((x,.cell)∈names∧h.objs.size≤c∧Hg (pushCells h names) c none)
 | [],_,_,_,_,h=> .inl h
 | (n,k)::r,h,acc,x,c,hm=>by
  unfold cellsFrom at hm
  unfold pushCells
  split at hm
  ·rename_i hk
   rw [if_pos hk]
   have hk:k= .cell:=by simpa using hk
   rw [←Heap.size_push h {cls:= .type "cell",data:= .cell none}] at hm
   rcases lZ hm with hm | ⟨h1,h2,h3⟩
   ·rcases List.mem_cons.mp hm with e | hm
    ·cases e
     exact .inr ⟨hk▸List.mem_cons_self,Nat.le_refl _,_,pushCells_keeps r _ _ _ (Heap.get?_push_size _ rfl),rfl⟩
    ·exact .inl hm
   ·rw [Heap.size_push] at h2
    exact .inr ⟨List.mem_cons_of_mem _ h1,Nat.le_of_succ_le h2,h3⟩
  ·rename_i hk
   rw [if_neg hk]
   rcases lZ hm with hm | ⟨h1,h2,h3⟩
   ·exact .inl hm
   ·exact .inr ⟨List.mem_cons_of_mem _ h1,h2,h3⟩
theorem qT:∀{names:List (Str×NameKind)} {n:Nat} {acc:List (Str×Addr)} {p:Str×Addr},p∈acc→p∈cellsFrom n names acc
 | [],_,_,_,h=>h
 | (m,k)::r,n,acc,p,h=>by
  unfold cellsFrom
  split
  ·exact qT (List.mem_cons_of_mem _ h)
  ·exact qT h
theorem vq:∀{names:List (Str×NameKind)} {n:Nat} {acc:List (Str×Addr)} {x:Str},(x,.cell)∈names→∃c,(x,c)∈cellsFrom n names acc
 | (m,k)::r,n,acc,x,h=>by
  unfold cellsFrom
  rcases List.mem_cons.mp h with e | h
  ·cases e
   exact⟨n,qT List.mem_cons_self⟩
  ·split
   ·exact vq h
   ·exact vq h
theorem vt:∀{names:List (Str×NameKind)} {h:Heap} {acc:List (Str×Addr)} {x y:Str} {c:Addr},(∀p∈acc,p.2<h.objs.size)→(∀x y c,(x,c)∈acc→(y,c)∈acc→x=y)→
  (x,c)∈cellsFrom h.objs.size names acc→(y,c)∈cellsFrom h.objs.size names acc→x=y
 | [],_,_,_,_,_,_,hi,h1,h2=>hi _ _ _ h1 h2
 | (n,k)::r,h,acc,x,y,c,hl,hi,h1,h2=>by
  unfold cellsFrom at h1 h2
  split at h1
  ·rename_i hk
   rw [if_pos hk] at h2
   rw [←Heap.size_push h {cls:= .type "cell",data:= .cell none}] at h1 h2
   refine vt (h:=h.push _) (fun p hp=> ?_) (fun x y c a b=> ?_) h1 h2
   ·rw [Heap.size_push]
    rcases List.mem_cons.mp hp with rfl | hp
    ·exact Nat.lt_succ_self _
    ·exact Nat.lt_succ_of_lt (hl p hp)
   ·rcases List.mem_cons.mp a with e | a<;>rcases List.mem_cons.mp b with e' | b
    ·cases e;cases e';rfl
    ·cases e;exact absurd (hl _ b) (Nat.lt_irrefl _)
    ·cases e';exact absurd (hl _ a) (Nat.lt_irrefl _)
    ·exact hi _ _ _ a b
  ·rename_i hk
   rw [if_neg hk] at h2
   exact vt hl hi h1 h2
theorem C4 {M:Model} {A:Around} {E:Value→Shared→Prop} {s:Shared} {scope:Scope} {globals:Addr} {closure:List (Str×Addr)} {qual:Str} {func:Option Addr} {code:Value} {around:Env} {builtins:Addr} {Q:Env→Shared→Prop}
  (h:Q (newEnv scope s.heap.objs.size globals (cellsFrom (s.heap.objs.size+1) scope.names closure) qual func code (some around) builtins)
   {s with heap:=pushCells (s.heap.push {cls:= .type "dict",data:= .dict #[]}) scope.names}):
  wpAny M A (newFunctionEnv scope globals closure [] qual func code (some around) builtins) Q E s:=by
 simp only [newFunctionEnv,Option.isSome_some,if_true]
 refine wpAny_bind (wpAny_alloc ?_)
 refine wpAny_bind (wpAny_layCells _ (fun n k c=>rfl) scope.names closure _ _ ?_)
 rw [show({s with heap:=s.heap.push {cls:= .type "dict",data:= .dict #[]}}:Shared).heap.objs.size=s.heap.objs.size+1 from Heap.size_push ..]
 rw [List.forIn_nil]
 exact wpAny_bind (wpAny_pure (wpAny_pure h))
theorem pL {sc:Scope}:∀{names:List (Str×NameKind)} {x:Str} {k:NameKind},
  (names.map fun(n,k)=>if (k==NameKind.free && sc.kind== .function && sc.names.lookup n==some .cell) then(n,NameKind.cell) else(n,k)).lookup x=some k→
  ∃k',names.lookup x=some k'∧(k=k'∨(k'= .free∧k= .cell))
 | [],_,_,h=>by simp at h
 | (n,k₀)::r,x,k,h=>by
  have ih:= @pL sc r x k
  have h':List.lookup x ((if (k₀==NameKind.free && sc.kind== .function && sc.names.lookup n==some .cell)=true then(n,NameKind.cell) else(n,k₀))::(r.map _))=some k:=h
  cases hx:x==n with
  | true=>
   simp only [List.lookup_cons,hx]
   by_cases hc:(k₀==NameKind.free && sc.kind== .function && sc.names.lookup n==some .cell)=true
   ·rw [if_pos hc] at h'
    simp only [List.lookup_cons,hx] at h'
    cases h'
    simp only [Bool.and_eq_true,beq_iff_eq] at hc
    exact⟨k₀,rfl,.inr ⟨hc.1.1,rfl⟩⟩
   ·rw [if_neg hc] at h'
    simp only [List.lookup_cons,hx] at h'
    cases h'
    exact⟨_,rfl,.inl rfl⟩
  | false=>
   simp only [List.lookup_cons,hx]
   by_cases hc:(k₀==NameKind.free && sc.kind== .function && sc.names.lookup n==some .cell)=true
   ·rw [if_pos hc] at h'
    simp only [List.lookup_cons,hx] at h'
    exact ih h'
   ·rw [if_neg hc] at h'
    simp only [List.lookup_cons,hx] at h'
    exact ih h'
structure Cv (N:List Str) (sc scope:Scope) (own:List (Str×Nat)):Prop where
 kind:scope.kind= .function
 uniq:∀y∈scope.names,scope.names.lookup y.1=some y.2
 ix:∀p∈own,N[p.2]?=some p.1
 free:∀y∈scope.names,y.2= .free→sc.names.lookup y.1=some .cell∨sc.names.lookup y.1=some .free
 own:∀y∈scope.names,y.2= .local∨y.2= .cell→y.1∈own.map (·.1)∨y.1 ∉ N
def gB (σ:St):List Nat→St
 | []=>σ
 | v::vs=>(gB σ vs).set v none
theorem qK (σ:St):∀vs:List Nat,(gB σ vs).length=σ.length
 | []=>rfl
 | v::vs=>by unfold gB;rw [List.length_set,qK σ vs]
theorem wA {σ:St} {i:Nat} {x:V}:∀{vs:List Nat},(gB σ vs)[i]?=some (some x)→σ[i]?=some (some x)∧i ∉ vs
 | [],h=>⟨h,by simp⟩
 | v::vs,h=>by
  unfold gB at h
  by_cases hi:v=i
  ·subst hi
   by_cases hv:v<(gB σ vs).length
   ·rw [List.getElem?_set_self hv] at h;cases h
   ·rw [List.getElem?_eq_none (by simpa using hv)] at h;cases h
  ·rw [List.getElem?_set_ne hi] at h
   obtain⟨h1,h2⟩:=wA h
   exact⟨h1,by simp only [List.mem_cons,not_or];exact⟨fun e=>hi e.symm,h2⟩⟩
abbrev Cx.blk (X:Cx) (s:Shared) (H:Hp) (scope:Scope) (cenv:Env) (fp:List Addr):Cx:={X with s_0:=s,H_0:=H,env:=cenv,outer:=X.stack,ex:=fp,fn:=fun x=>scope.names.lookup x==some .cell,pn:= [],xe:=fun _ _=>False}
section
variable {X:Cx} {pins:List (Addr×Obj)} {σ:St} {H:Hp} {s:Shared}
theorem CB {scope:Scope} {own:List (Str×Nat)} {fp:List Addr} (I:a8 X pins σ H s) (ok:Cv X.N X.env.scope scope own) (hN:X.N.Nodup) (hfp:∀b∈fp,xr X pins H b∧b<s.heap.objs.size):
  a8 (X.blk s H scope (compEnvC scope (cellsFrom (s.heap.objs.size+1) scope.names (cE X.env.cells scope.names [])) s.heap.objs.size X.env) fp) [] (gB σ (own.map (·.2))) H {s with heap:=pushCells (s.heap.push {cls:= .type "dict",data:= .dict #[]}) scope.names}:=by
 have hfree:∀y∈scope.names,y.2= .free→∃c,X.env.cells.lookup y.1=some c:=fun y hy e=>by
  rcases ok.free y hy e with k | k
  ·exact I.ok.has _ (.inl k)
  ·exact I.ok.has _ (.inr k)
 generalize hcenv:compEnvC scope (cellsFrom (s.heap.objs.size+1) scope.names (cE X.env.cells scope.names [])) s.heap.objs.size X.env=cenv
 have kp:∀b o,s.heap.get? b=some o→(pushCells (s.heap.push {cls:= .type "dict",data:= .dict #[]}) scope.names).get? b=some o:=fun b o e=>pushCells_keeps _ _ _ _ (Heap.get?_push_of_some _ e)
 have hL:cenv.locals=s.heap.objs.size:=by rw [←hcenv];rfl
 have hcl:cenv.cells=cellsFrom (s.heap.objs.size+1) scope.names (cE X.env.cells scope.names []):=by rw [←hcenv];rfl
 have hsc:cenv.scope=MJ scope X.env.scope:=by rw [←hcenv];rfl
 rw [←Heap.size_push s.heap {cls:= .type "dict",data:= .dict #[]}] at hcl
 have cm:∀{y c},(y,c)∈cE X.env.cells scope.names []→X.env.cells.lookup y=some c∧c<s.heap.objs.size:=fun {y c} hm=>by
  rcases kZ hm with hm | ⟨h1,rfl⟩
  ·cases hm
  ·obtain⟨c,hc⟩:=hfree _ h1 rfl
   rw [hc]
   obtain⟨w,z⟩:=I.cell _ _ hc
   exact⟨rfl,z.lt⟩
 have mem:∀{y c},cenv.cells.lookup y=some c→(X.env.cells.lookup y=some c∧c<s.heap.objs.size)∨(s.heap.objs.size+1≤c∧Hg (pushCells (s.heap.push {cls:= .type "dict",data:= .dict #[]}) scope.names) c none):=fun {y c} e=>by
  rw [hcl] at e
  rcases lZ (PySem.mem_of_lookup e) with hm | ⟨_,h2,h3⟩
  ·exact .inl (cm hm)
  ·rw [Heap.size_push] at h2;exact .inr ⟨h2,h3⟩
 have look:∀{y},scope.names.lookup y=some .free→∃c,cenv.cells.lookup y=some c∧X.env.cells.lookup y=some c:=fun {y} hl=>by
  have hy:(y,NameKind.free)∈scope.names:=PySem.mem_of_lookup hl
  obtain⟨c',e'⟩:=sI (qT (names:=scope.names) (n:=(s.heap.push {cls:= .type "dict",data:= .dict #[]}).objs.size) (pJ (cells:=X.env.cells) (acc:= []) hy))
  rw [←hcl] at e'
  refine⟨c',e',?_⟩
  rw [hcl] at e'
  rcases lZ (PySem.mem_of_lookup e') with hm | ⟨h1,_,_⟩
  ·exact(cm hm).1
  ·have:=ok.uniq _ h1
   rw [hl] at this;cases this
 have okB:(X.blk s H scope cenv fp).Ok:=by
  refine⟨I.ok.mod,by show cenv.scope.kind=_;rw [hsc];exact ok.kind,by show cenv.globals=_;rw [←hcenv];exact I.ok.glob,by show cenv.builtins=_;rw [←hcenv];exact I.ok.blt,by show s.heap.objs.size≤cenv.locals;rw [hL];exact Nat.le_refl _,
   fun y z c e1 e2=> ?_,fun y hy=> ?_,fun y c z e=> ?_,I.ok.hd,I.ok.frames,.inl rfl,fun b hb=>⟨?_,fun y c e z=> ?_⟩,I.bs,Nat.le_trans I.ok.bsz I.sz,fun b o e hb=> ?_,fun b hb z=> ?_,I.stack,I.stkFree⟩
  ·have e1:cenv.cells.lookup y=some c:=e1
   have e2:cenv.cells.lookup z=some c:=e2
   rw [hcl] at e1 e2
   refine vt (fun p hp=> ?_) (fun y z c a b=>I.ok.inj y z c (cm a).1 (cm b).1) (PySem.mem_of_lookup e1) (PySem.mem_of_lookup e2)
   rw [Heap.size_push]
   exact Nat.lt_succ_of_lt (cm (y:=p.1) (c:=p.2) hp).2
  ·show ∃c,cenv.cells.lookup y=some c
   have key:∀k,cenv.kindOf y=some k→(k= .cell∨k= .free)→∃c,cenv.cells.lookup y=some c:=fun k hk hk'=>by
    unfold Env.kindOf at hk
    rw [hsc] at hk
    obtain⟨k',e,r⟩:=pL hk
    have:k'= .cell∨k'= .free:=by
     rcases r with rfl | ⟨rfl,_⟩
     ·exact hk'
     ·exact .inr rfl
    rcases this with rfl | rfl
    ·obtain⟨c,hm⟩:=vq (n:=(s.heap.push {cls:= .type "dict",data:= .dict #[]}).objs.size) (acc:=cE X.env.cells scope.names []) (PySem.mem_of_lookup e)
     obtain⟨c',e'⟩:=sI hm
     exact⟨c',by rw [hcl];exact e'⟩
    ·obtain⟨c,h1,_⟩:=look e
     exact⟨c,h1⟩
   rcases hy with hy | hy
   ·exact key _ hy (.inl rfl)
   ·exact key _ hy (.inr rfl)
  ·have z:(scope.names.lookup y==some NameKind.cell)=true:=z
   have z:scope.names.lookup y=some .cell:=by simpa using z
   have e:cenv.cells.lookup y=some c:=e
   rw [hcl] at e
   rcases lZ (PySem.mem_of_lookup e) with hm | ⟨_,h2,_⟩
   ·rcases kZ hm with hm | ⟨h1,_⟩
    ·cases hm
    ·have q:=ok.uniq _ h1
     rw [z] at q;cases q
   ·rw [Heap.size_push] at h2
    exact Nat.le_of_succ_le h2
  ·show b≠cenv.locals
   rw [hL];exact Nat.ne_of_lt (hfp b hb).2
  ·have e:cenv.cells.lookup y=some c:=e
   rcases mem e with⟨h1,_⟩ | ⟨h1,_⟩
   ·exact(hfp b hb).1.2.2.2.2.1 y c h1 z
   ·have h2:s.heap.objs.size+1≤b:=by rw [←z];exact h1
    exact absurd (Nat.lt_of_lt_of_le (hfp b hb).2 (Nat.le_of_succ_le h2)) (Nat.lt_irrefl _)
  ·rcases (hfp b hb).1.2.2.2.1 with z | z
   ·exact I.ok.noex b o e z
   ·exact absurd (Nat.lt_of_lt_of_le (Heap.lt_size e) (Nat.le_trans I.ok.bsz z)) (Nat.lt_irrefl _)
  ·rcases List.mem_cons.mp (I.stkSub b z) with z | z
   ·exact(hfp b hb).1.2.1 z
   ·exact(hfp b hb).1.2.2.1 z
 refine⟨okB,rfl,I.bare,Un.kept kp,⟨fun _=>none,?_,fun i y av e1 e2 e3=> ?_⟩,fun y c e=> ?_,?_,fun y c e=> ?_,fun p hp=> ?_,I.hok.kept kp,by rw [qK];exact I.len⟩
 ·show Heap.Ns _ cenv.locals _
  rw [hL]
  exact Heap.Ns.keeps (Heap.Ns.new ..) fun b o e=>pushCells_keeps _ _ _ _ e
 ·obtain⟨e2,hne⟩:=wA e2
  have hfr:scope.names.lookup y=some .free∧(cenv.kindOf y=some .cell∨cenv.kindOf y=some .free):=by
   have key:∀k,cenv.scope.names.lookup y=some k→k= .local∨k= .cell∨k= .free→scope.names.lookup y=some .free∧(cenv.kindOf y=some .cell∨cenv.kindOf y=some .free):=fun k hk hk'=>by
    have hk0:=hk
    rw [hsc] at hk
    obtain⟨k',e,r⟩:=pL hk
    have no:¬(k'= .local∨k'= .cell):=fun hh=>by
     rcases ok.own _ (PySem.mem_of_lookup e) hh with e' | e'
     ·obtain⟨p,hp,hpy⟩:=List.mem_map.mp e'
      have e3:=ok.ix p hp
      have:p.1=y:=hpy
      rw [this] at e3
      exact hne (List.mem_map.mpr ⟨p,hp,yO hN e3 e1⟩)
     ·exact e' (List.mem_of_getElem? e1)
    rcases r with rfl | ⟨rfl,rfl⟩
    ·rcases hk' with rfl | rfl | rfl
     ·exact absurd (.inl rfl) no
     ·exact absurd (.inr rfl) no
     ·exact⟨e,.inr hk0⟩
    ·exact⟨e,.inl hk0⟩
   have e3:Kp cenv.scope y:=e3
   rcases e3 with e3 | e3 | e3
   ·exact key _ e3 (.inl rfl)
   ·exact key _ e3 (.inr (.inl rfl))
   ·exact key _ e3 (.inr (.inr rfl))
  obtain⟨m,hn,hl⟩:=I.loc
  have hvis:Kp X.env.scope y:=(ok.free _ (PySem.mem_of_lookup hfr.1) rfl).elim (fun k=> .inr (.inl k)) (fun k=> .inr (.inr k))
  obtain⟨w,r,q⟩:=hl i y av e1 e2 hvis
  refine⟨w,r,.inr ⟨hfr.2,?_⟩⟩
  obtain⟨c,h1,h2⟩:=look hfr.1
  rcases q with⟨k,_⟩ | ⟨_,c',e',z⟩
  ·have k:X.env.scope.names.lookup y=some .local:=k
   rcases ok.free _ (PySem.mem_of_lookup hfr.1) rfl with k' | k'<;>rw [show X.env.scope.names.lookup y=_ from k'] at k<;>cases k
  ·rw [h2] at e';cases e'
   exact⟨c,h1,z.keeps kp⟩
 ·have e:cenv.cells.lookup y=some c:=e
  rcases mem e with⟨h1,_⟩ | ⟨_,z⟩
  ·obtain⟨w,z⟩:=I.cell y c h1
   exact⟨w,z.keeps kp⟩
  ·exact⟨_,z⟩
 ·show H cenv.locals=none
  rw [hL];exact I.hok.fresh (Nat.le_refl _)
 ·have e:cenv.cells.lookup y=some c:=e
  rcases mem e with⟨h1,_⟩ | ⟨h1,_⟩
  ·exact I.freeC y c h1
  ·exact I.hok.fresh (Nat.le_of_succ_le h1)
 ·exact absurd (show p∈([]:List (Addr×Obj))++ [] from hp) (by simp)
theorem Ks {E:Value→Shared→Prop} {D:Addr} {xs:List V} {y:V} {v:Value} {Q:Value→Shared→Prop} (I:a8 X pins σ H s) (hD:H D=some (.lst xs)) (hz:xs.length<sizeLine) (r:cj y v)
  (h:∀s',a8 X pins σ (bC H D (.lst (xs++ [y]))) s'→Q .none s'):wpAny (model X.prog X.w) X.A (call (.builtin "list.append") [.ref D,v]) Q E s:=by
 obtain⟨hz',its,n,ri,e⟩:=I.hok D _ hD
 have hl:=ri.length
 refine append_at (hsz:=by rw [List.size_toArray];omega) e fun h' sb ho'=> ?_
 refine h {s with heap:=h'} (I.write (t':=s.toks) (by rw [hD];trivial) (.inl rfl) (fun b u hb q=>(sb.2 b hb).trans q) ⟨_,ho'⟩ ⟨by rw [List.length_append];exact hz,its++ [v],n+1,ri.append (.cons r .nil),?_⟩)
 rw [ho']
 simp
def Lo (X:Cx) (ifs:List Expr) (t:TT):Prop:=
 ∀(pins:List (Addr×Obj)) (s:Shared) (σ:St) (H:Hp) (Q:Bool→Hp→Prop),a8 X pins σ H s→t σ H Q→
  wpAny (model X.prog X.w) X.A (forIn ifs true fun c r=>if r=true then do let ok ←isTrue c X.env (eval c X.env);pure (ForInStep.yield ok) else pure (ForInStep.yield r)) (TP X pins σ Q) X.xe s
def MW:TT:=fun _ H Q=>Q true H
theorem cQ:Lo X [] MW:=fun _ _ _ H _ I h=>wpAny_tests_nil ⟨H,I,h⟩
theorem BW {c:Expr} {t:TT} (h:PT X c t):Lo X [c] t:=fun pins s σ H Q I hw=>wpAny_tests_one (h pins s σ H Q I hw)
end
theorem G8 {α:Type} {t:Sem α} {Q Q':α→Shared→Prop} {M:Model} {A:Around} {E:Value→Shared→Prop} {s:Shared} (h:wpAny M A t Q (fun _ _=>False) s) (hQ:∀a s,Q a s→Q' a s):wpAny M A t Q' E s:=wpAny_mono h hQ fun _ _ z=>False.elim z
theorem Bw {prog:Program} {w:World} {A:Around} {R:Result→Shared→Prop} {s:Shared} {elt target iter:Expr} {ifs:List Expr} {scope:Scope} {pos:Pos} {it acc:Value} {env:Env} (I:Nat→Shared→Prop)
  (turn:∀n s,I n s→wpAny (model prog w) A (pyNext it) (fun r s₁=>match r with
   | none=>R (.ok .next) s₁
   | some v=>wpAny (model prog w) A (letOwnedTupleGo target it v) (fun _ s₁'=>wpAny (model prog w) A (assign target env v) (fun _ s₂=>
     wpAny (model prog w) A (forIn ifs true fun c r=>if r=true then do let ok ←isTrue c env (eval c env);pure (ForInStep.yield ok) else pure (ForInStep.yield r)) (fun ok s₃=>
      if ok=true then wpAny (model prog w) A (eval elt env) (fun x s₄=>
       wpAny (model prog w) A (call (.builtin "list.append") [acc,x]) (fun _ s₅=>∃m,m<n∧I m s₅) (notedBy (model prog w) A env fun e s'=>R (.error e) s') s₄) (notedBy (model prog w) A env fun e s'=>R (.error e) s') s₃
      else ∃m,m<n∧I m s₃) (notedBy (model prog w) A env fun e s'=>R (.error e) s') s₂) (notedBy (model prog w) A env fun e s'=>R (.error e) s') s₁') (notedBy (model prog w) A env fun e s'=>R (.error e) s') s₁) (notedBy (model prog w) A env fun e s'=>R (.error e) s') s)
  (n:Nat) (h:I n s):
  codeAny (model prog w) A (.compLoop (.ListComp elt [⟨target,iter,ifs,0⟩] scope pos) 0 it acc env) R s:=by
 refine codeAny_loop rfl I (fun n s hI=> ?_) n h
 show wpAny _ A ((compTurn (.ListComp elt [⟨target,iter,ifs,0⟩] scope pos) 0 it acc env).onRaise (fun x=>do noteFrame x env;theTreesLotGoes x)) _ _ s
 refine wpAny_noted ?_
 rw [compTurn_list]
 refine wpAny_bind (wpAny_standAt (wpAny_bind (wpAny_mono (turn n s hI) (fun r s₁ h₁=> ?_) fun _ _ h'=>h')))
 cases r with
 | none=>exact wpAny_pure h₁
 | some v=>
  refine wpAny_bind (wpAny_mono h₁ (fun _ s₁' h₁'=> ?_) fun _ _ h'=>h')
  refine wpAny_bind (wpAny_mono h₁' (fun _ s₂ h₂=>wpAny_bind (wpAny_mono h₂ (fun ok s₃ h₃=> ?_) fun _ _ h'=>h')) fun _ _ h'=>h')
  cases ok with
  | false=>exact wpAny_pure ⟨rfl,h₃⟩
  | true=>
   exact wpAny_bind (wpAny_bind (wpAny_mono h₃ (fun x s₄ h₄=>wpAny_bind (wpAny_mono h₄ (fun _ s₅ h₅=>wpAny_pure (wpAny_pure ⟨rfl,h₅⟩)) fun _ _ h'=>h')) fun _ _ h'=>h'))
section
variable {X:Cx}
def Mf (wi:TI) (g:TG) (tt:TT) (te:TE) (vs:List Nat):TE:=fun σ H Q=>wi σ H fun J H1=>∀D,H1 D=none→∃W:Nat→Nat→Hp→Prop,(∃m,W 0 m (bC H1 D (.lst [])))∧∀i m H,W i m H→
 (J.stop i H∧Q (.ref D) H)∨(J.go i H∧∃Nx:Hp→Prop,(∀H',Nx H'→∃m',m'<m∧W (i+1) m' H')∧∀x H',J.yld i H x H'→g x (gB σ vs) H' fun σ2 H2=>gB σ2 vs=gB σ vs∧tt σ2 H2 fun b H3=>
  if b=true then te σ2 H3 fun y H4=>∃acc,H4 D=some (.lst acc)∧acc.length<sizeLine∧Nx (bC H4 D (.lst (acc++ [y]))) else Nx H3)
theorem Fp {pins:List (Addr×Obj)} {s:Shared} {σ:St} {H:Hp} {Q:VK} {elt tg iter:Expr} {ifs:List Expr} {scope:Scope} {own:List (Str×Nat)} {pos pos':Pos} {wi:TI} {g:TG} {tt:TT} {te:TE} {use:Option (Value→Sem Unit)} {Qf:Value→Shared→Prop}
  (hc:X.calm=true) (hN:X.N.Nodup) (I:a8 X pins σ H s) (hi:PI X tg iter wi) (ok:Cv X.N X.env.scope scope own)
  (hg:∀(s:Shared) (H:Hp) (C:Addr) (cl:List (Str×Addr)) (fp:List Addr),PG (X.blk s H scope (compEnvC scope cl C X.env) fp) tg g) (ht:∀(s:Shared) (H:Hp) (C:Addr) (cl:List (Str×Addr)) (fp:List Addr),Lo (X.blk s H scope (compEnvC scope cl C X.env) fp) ifs tt)
  (he:∀(s:Shared) (H:Hp) (C:Addr) (cl:List (Str×Addr)) (fp:List Addr),PE (X.blk s H scope (compEnvC scope cl C X.env) fp) elt te) (hs:∀x,foldedSetIterable iter X.env x=pure x)
  (h:Mf wi g tt te (own.map (·.2)) σ H Q)
  (hRR:∀D C s' m H',a8 X pins σ H' s'→Q (.ref D) H'→s'.heap.Ns C m→xr X pins H' C→compPost (model X.prog X.w) X.A X.xe use Qf (.ref D) C (.ok .next) s'):
  wpAny (model X.prog X.w) X.A (comprehension (.ListComp elt [⟨tg,iter,ifs,0⟩] scope pos) scope X.env pos' (newList []) false (eval iter X.env) use) Qf X.xe s:=by
 have hfree:∀y∈scope.names,y.2= .free→∃c,X.env.cells.lookup y.1=some c:=fun y hy e=>by
  rcases ok.free y hy e with k | k
  ·exact I.ok.has _ (.inl k)
  ·exact I.ok.has _ (.inr k)
 refine wpAny_comprehension_free (use:=use) rfl hs (Eg hfree) ok.kind (fun y hy e=>by rw [ok.uniq y hy,e])
  (dn (hi pins s σ H _ I h) fun xv s1 hx=>dn hx fun itv s2 h2=> ?_)
 obtain⟨it,fp,tn,J,H2,e,I2,T,st2,f2,q⟩:=h2
 subst e
 refine wpAny_newObj_type (C4 ?_) (by show 0≤sizeLine;decide)
 generalize hD:s2.heap.objs.size=D
 have hDn:H2 D=none:=I2.hok.fresh (Nat.le_of_eq hD)
 obtain⟨W,⟨m0,w0⟩,turn⟩:=q D hDn
 generalize hs3:({s2 with heap:=s2.heap.push {cls:= .type "list",data:= .seq ([]:List Value).toArray}}:Shared)=s3
 have I3:a8 X pins σ (bC H2 D (.lst [])) s3:=by
  rw [←hs3]
  refine I2.laid (t':=s2.toks) (fun b o e=>Heap.get?_push_of_some _ e) (Nat.le_of_eq hD) ⟨Nat.zero_le _,[],0,.nil,?_⟩
  rw [←hD]
  exact Heap.get?_push_size _ rfl
 have h3:s3.heap=s2.heap.push {cls:= .type "list",data:= .seq ([]:List Value).toArray}:=by rw [←hs3]
 have sz:∀b∈fp,b<s2.heap.objs.size:=fun b hb=>by
  obtain⟨o,e,_⟩:=T.obj _ _ st2 b hb
  exact Heap.lt_size e
 have f3:∀b∈fp,xr X pins (bC H2 D (.lst [])) b∧b<s3.heap.objs.size:=fun b hb=>by
  have hlt:=sz b hb
  refine⟨⟨?_,(f2 b hb).2⟩,by rw [h3,Heap.size_push];exact Nat.lt_succ_of_lt hlt⟩
  rw [ak (by rw [←hD];exact Nat.ne_of_lt hlt)]
  exact(f2 b hb).1
 have st3:tn 0 s3.heap:=T.keep _ _ _ st2 fun b _ o e=>by rw [h3];exact Heap.get?_push_of_some _ e
 have I4:=CB I3 ok hN f3
 have pg:=hg s3 (bC H2 D (.lst [])) s3.heap.objs.size (cellsFrom (s3.heap.objs.size+1) scope.names (cE X.env.cells scope.names [])) fp
 have pt:=ht s3 (bC H2 D (.lst [])) s3.heap.objs.size (cellsFrom (s3.heap.objs.size+1) scope.names (cE X.env.cells scope.names [])) fp
 have pe:=he s3 (bC H2 D (.lst [])) s3.heap.objs.size (cellsFrom (s3.heap.objs.size+1) scope.names (cE X.env.cells scope.names [])) fp
 show codeAny _ _ (.compStart (.ListComp elt [⟨tg,iter,ifs,0⟩] scope pos) 0 (.ref it) (.ref D) (compEnvC scope (cellsFrom (s3.heap.objs.size+1) scope.names (cE X.env.cells scope.names [])) s3.heap.objs.size X.env)) (compPost (model X.prog X.w) X.A X.xe use Qf (.ref D) s3.heap.objs.size) {s3 with heap:=pushCells (s3.heap.push {cls:= .type "dict",data:= .dict #[]}) scope.names}
 have nfp:∀b∈fp,(bC H2 D (.lst [])) b=none:=fun b hb=>(f3 b hb).1.1
 generalize hce:compEnvC scope (cellsFrom (s3.heap.objs.size+1) scope.names (cE X.env.cells scope.names [])) s3.heap.objs.size X.env=ce at I4 pg pt pe⊢
 have cL:ce.locals=s3.heap.objs.size:=by subst hce;rfl
 generalize hH3:bC H2 D (.lst [])=H3 at I3 I4 pg pt pe w0 nfp f3
 generalize hs4:({s3 with heap:=pushCells (s3.heap.push {cls:= .type "dict",data:= .dict #[]}) scope.names}:Shared)=s4 at I4⊢
 have st4:tn 0 s4.heap:=T.keep _ _ _ st3 fun b _ o e=>by rw [←hs4];exact pushCells_keeps _ _ _ _ (Heap.get?_push_of_some _ e)
 have stat:∀{σ':St} {H':Hp} {s':Shared},a8 (X.blk s3 H3 scope ce fp) [] σ' H' s'→(∀b∈fp,H' b=none)→∀b∈fp,xr (X.blk s3 H3 scope ce fp) [] H' b:=fun {σ' H' s'} I' hn b hb=>
  ⟨hn b hb,(I'.ok.exf b hb).1,I'.ok.exfs b hb,.inl hb,fun x c e=>(I'.ok.exf b hb).2 x c e,fun p hp=>absurd (show p∈([]:List (Addr×Obj))++ [] from hp) (by simp)⟩
 have loop:codeAny (model X.prog X.w) X.A (.compLoop (.ListComp elt [⟨tg,iter,ifs,0⟩] scope pos) 0 (.ref it) (.ref D) ce) (compPost (model X.prog X.w) X.A X.xe use Qf (.ref D) s3.heap.objs.size) s4:=by
  refine Bw (fun n s'=>∃i H',a8 (X.blk s3 H3 scope ce fp) [] (gB σ (own.map (·.2))) H' s'∧tn i s'.heap∧(∀b∈fp,H' b=none)∧W i n H') ?_ m0 ⟨0,H3,I4,st4,nfp,w0⟩
  rintro n s5 ⟨i,H5,I5,st5,n5,w5⟩
  rcases turn i n H5 w5 with⟨stop,qq⟩ | ⟨go,Nx,hNx,step⟩
  ·have td:=T.done (X.blk s3 H3 scope ce fp) rfl rfl rfl hc i [] s5 _ H5 (fun _ _=>False) I5 (stat I5 n5) st5 stop
   refine G8 td fun r s6 ⟨hr,I6⟩=> ?_
   subst hr
   have I7:a8 X pins σ H5 s6:=I3.call' (ch:=fp) I6.os I6.base I6.hok I6.bare fun b hb=>⟨(f3 b hb).1.2.2.2.1,(f3 b hb).1.2.1,(f3 b hb).1.2.2.2.2.1,(f3 b hb).1.2.2.2.2.2⟩
   have nC:H5 s3.heap.objs.size=none:=by
    have z:H5 ce.locals=none:=I6.free
    rw [cL] at z
    exact z
   obtain⟨m,hn,_⟩:=I6.loc
   have hn:s6.heap.Ns ce.locals m:=hn
   rw [cL] at hn
   exact hRR D s3.heap.objs.size s6 m H5 I7 qq hn (I3.fpOk (Nat.le_refl _) nC)
  ·have ti:=T.item (X.blk s3 H3 scope ce fp) rfl rfl rfl hc i [] s5 _ H5 (fun _ _=>False) I5 (stat I5 n5) st5 go
   refine G8 ti fun r s6 ⟨u,hr,h6⟩=> ?_
   subst hr
   refine G8 h6 fun _ s7 ⟨x,H7,I7,r7,y7,st7,n7⟩=> ?_
   have I7':=I7.pinned (stat I7 n7) (T.obj _ _ st7)
   refine G8 (pg _ s7 _ H7 x u _ I7' r7 (step x H7 y7)) fun _ s8 ⟨σ8,H8,I8,hw8,q8⟩=> ?_
   refine G8 (pt _ s8 σ8 H8 _ I8 q8) fun b s9 ⟨H9,I9,q9⟩=> ?_
   have fin:∀{s':Shared} {H':Hp},a8 (X.blk s3 H3 scope ce fp) ([]++y9 fp s7.heap) σ8 H' s'→Nx H'→∃m,m<n∧∃i H',a8 (X.blk s3 H3 scope ce fp) [] (gB σ (own.map (·.2))) H' s'∧tn i s'.heap∧(∀b∈fp,H' b=none)∧W i m H':=fun {s' H'} I' nx=>by
    obtain⟨m',hm,w'⟩:=hNx H' nx
    have pin':∀b∈fp,∀o,s7.heap.get? b=some o→s'.heap.get? b=some o∧H' b=none:=fun b hb o e=>
     let z:=I'.pin (b,o) (List.mem_append_right _ (List.mem_append_right _ (sJ hb e)))
     ⟨z.1,z.2.1⟩
    have hl:(gB σ (own.map (·.2))).length=σ8.length:=by rw [←hw8,qK]
    refine⟨m',hm,i+1,H',(I'.unpinned (pins:= [])).weak hl (fun j v e=> ?_),T.keep _ _ _ st7 fun b hb o e=>(pin' b hb o e).1,fun b hb=> ?_,w'⟩
    ·rw [←hw8] at e
     exact(wA e).1
    ·obtain⟨o,e,_⟩:=T.obj _ _ st7 b hb
     exact(pin' b hb o e).2
   cases b with
   | false=>
    simp only [Bool.false_eq_true,if_false] at q9⊢
    exact fin I9 q9
   | true=>
    simp only [if_true] at q9⊢
    refine G8 (pe _ s9 σ8 H9 _ I9 q9) fun z s10 ⟨yv,H10,I10,r10,acc,hD10,hz10,nx⟩=> ?_
    exact Ks (X:=X.blk s3 H3 scope ce fp) I10 hD10 hz10 r10 fun s11 I11=>fin I11 nx
 exact codeAny_compStart_list loop (T.self X.A 0 _ _ _ st4 loop)
theorem iB {elt tg iter:Expr} {ifs:List Expr} {scope:Scope} {own:List (Str×Nat)} {pos:Pos} {wi:TI} {g:TG} {tt:TT} {te:TE} (hc:X.calm=true) (hN:X.N.Nodup) (hi:PI X tg iter wi) (ok:Cv X.N X.env.scope scope own)
  (hg:∀(s:Shared) (H:Hp) (C:Addr) (cl:List (Str×Addr)) (fp:List Addr),PG (X.blk s H scope (compEnvC scope cl C X.env) fp) tg g) (ht:∀(s:Shared) (H:Hp) (C:Addr) (cl:List (Str×Addr)) (fp:List Addr),Lo (X.blk s H scope (compEnvC scope cl C X.env) fp) ifs tt)
  (he:∀(s:Shared) (H:Hp) (C:Addr) (cl:List (Str×Addr)) (fp:List Addr),PE (X.blk s H scope (compEnvC scope cl C X.env) fp) elt te) (hs:∀x,foldedSetIterable iter X.env x=pure x:=by intro _;rfl):
  PE X (.ListComp elt [⟨tg,iter,ifs,0⟩] scope pos) (Mf wi g tt te (own.map (·.2))):=by
 intro pins s σ H Q I h
 rw [eval_ListComp]
 refine Fp hc hN I hi ok hg ht he hs h fun D C s' m H' I' q hn f=>⟨m,hn,fun h'' sb=> ?_⟩
 obtain⟨f0,f1,f2,f3,f4,f5⟩:=f
 exact⟨.ref D,H',I'.turned (t':=s'.toks) (fun b o hb e=>(sb.2 b hb).trans e) f0 f1 f3 f4 f5,rfl,q⟩
theorem pZ {i:Nat} {y:Str} {py:Pos} {elt tg iter:Expr} {ifs:List Expr} {scope:Scope} {own:List (Str×Nat)} {pos spos:Pos} {wi:TI} {g:TG} {tt:TT} {te:TE} (hc:X.calm=true) (hN:X.N.Nodup) (hy:X.N[i]?=some y) (hyl:X.env.scope.names.lookup y=some .local)
  (hsw:swapsWith (.ListComp elt [⟨tg,iter,ifs,0⟩] scope pos) (some (.Name y py)) spos.line X.env=pure true) (hi:PI X tg iter wi) (ok:Cv X.N X.env.scope scope own)
  (hg:∀(s:Shared) (H:Hp) (C:Addr) (cl:List (Str×Addr)) (fp:List Addr),PG (X.blk s H scope (compEnvC scope cl C X.env) fp) tg g) (ht:∀(s:Shared) (H:Hp) (C:Addr) (cl:List (Str×Addr)) (fp:List Addr),Lo (X.blk s H scope (compEnvC scope cl C X.env) fp) ifs tt)
  (he:∀(s:Shared) (H:Hp) (C:Addr) (cl:List (Str×Addr)) (fp:List Addr),PE (X.blk s H scope (compEnvC scope cl C X.env) fp) elt te) (hs:∀x,foldedSetIterable iter X.env x=pure x:=by intro _;rfl):
  PS X (.Assign [.Name y py] (.ListComp elt [⟨tg,iter,ifs,0⟩] scope pos) spos) (JW (Mf wi g tt te (own.map (·.2))) (AS i)):=by
 intro pins s σ H D I h
 rw [exec_Assign_Name_used _ _ _ _ hsw]
 refine wpAny_bind (wpAny_standAt (wpAny_bind ?_))
 show wpAny _ X.A (do let _ ←comprehension (.ListComp elt [⟨tg,iter,ifs,0⟩] scope pos) scope X.env (firstIterPos [⟨tg,iter,ifs,0⟩] pos) (newList []) false (eval iter X.env) (some (assign (.Name y py) X.env))) _ _ s
 have h:Mf wi g tt te (own.map (·.2)) σ H (fun x H1=>AS i x σ H1 D.nx):=h
 refine wpAny_bind (dn (Fp (Qf:=fun _ s'=>SP X pins D .next s') hc hN I hi ok hg ht he hs h fun L C s' m H' I' q hn f=> ?_) fun _ s' hq=>wpAny_pure (wpAny_pure hq))
 show wpAny _ _ (assign (.Name y py) X.env (.ref L)) _ _ _
 refine wpAny_assign_Name (Bm (v:=V.ref L) I' hN hy (.inl hyl) rfl (fun s2 I2 ⟨a,sb,ha⟩=> ?_) (.inr hyl))
 obtain⟨f0,f1,f2,f3,f4,f5⟩:=f
 have haC:C≠a:=by
  rcases ha with z | z
  ·rw [z];exact f1
  ·exact fun e=>f4 y a z e.symm
 refine⟨m,hn.sameBut sb haC,fun h3 sb3=> ?_⟩
 exact⟨_,H',I2.turned (t':=s2.toks) (fun b o hb e=>(sb3.2 b hb).trans e) f0 f1 f3 f4 f5,q⟩
theorem ve {elt:Expr} {gs:List Comprehension} {scope:Scope} {pos py:Pos} {y:Str} {l:Nat} {env:Env} (hk:env.scope.kind= .function) (hy:env.scope.names.lookup y=some .local) (hl:(py.line==pos.line)=true)
  (ha:(scope.names.any fun(n,k)=>n==y && (k== .local || k== .cell))=false):swapsWith (.ListComp elt gs scope pos) (some (.Name y py)) l env=pure true:=by
 have ky:env.kindOf y=some .local:=hy
 have hb:env.blockKind= .function:=by unfold Env.blockKind;rw [hk];rfl
 unfold swapsWith
 simp only [hb,ky,ha,Expr.pos,hl]
 rfl
end
theorem eY {lo:Int} {n:Nat} {g:TG} {tt:TT} {te:TE} {vs:List Nat} {σ:St} {H1:Hp} {D:Addr} {Qd:Hp→Prop} (Pv:Nat→Hp→Prop) (h0:Pv 0 (bC H1 D (.lst [])))
  (hs:∀i H,i<n→Pv i H→g (.int (lo+i)) (gB σ vs) H fun σ2 H2=>gB σ2 vs=gB σ vs∧tt σ2 H2 fun b H3=>
   if b=true then te σ2 H3 fun y H4=>∃acc,H4 D=some (.lst acc)∧acc.length<sizeLine∧Pv (i+1) (bC H4 D (.lst (acc++ [y]))) else Pv (i+1) H3) (hd:∀H,Pv n H→Qd H):
  ∃W:Nat→Nat→Hp→Prop,(∃m,W 0 m (bC H1 D (.lst [])))∧∀i m H,W i m H→
   ((Jb lo n).stop i H∧Qd H)∨((Jb lo n).go i H∧∃Nx:Hp→Prop,(∀H',Nx H'→∃m',m'<m∧W (i+1) m' H')∧∀x H',(Jb lo n).yld i H x H'→g x (gB σ vs) H' fun σ2 H2=>gB σ2 vs=gB σ vs∧tt σ2 H2 fun b H3=>
     if b=true then te σ2 H3 fun y H4=>∃acc,H4 D=some (.lst acc)∧acc.length<sizeLine∧Nx (bC H4 D (.lst (acc++ [y]))) else Nx H3):=by
 refine⟨fun i m H=>m=n - i∧i≤n∧Pv i H,⟨n,by simp,Nat.zero_le _,h0⟩,?_⟩
 rintro i m H ⟨rfl,hi,p⟩
 by_cases hlt:i<n
 ·refine .inr ⟨hlt,Pv (i+1),fun H' p'=>⟨n - (i+1),by omega,rfl,hlt,p'⟩,fun x H' y=> ?_⟩
  obtain⟨e,y⟩:=y
  subst e y
  exact hs i _ hlt p
 ·have e:i=n:=by omega
  subst e
  exact .inl ⟨Nat.le_refl _,hd H p⟩
theorem gZ {K:PySem.W.Frag} {a:Addr} {xs:List V} {g:TG} {tt:TT} {te:TE} {vs:List Nat} {σ:St} {H1:Hp} {D:Addr} {Qd:Hp→Prop} (Pv:Nat→Hp→Prop) (h0:Pv 0 (bC H1 D (.lst []))) (hl:∀i H,i≤xs.length→Pv i H→aX K H a xs)
  (hs:∀i x H,xs[i]?=some x→Pv i H→g x (gB σ vs) H fun σ2 H2=>gB σ2 vs=gB σ vs∧tt σ2 H2 fun b H3=>
   if b=true then te σ2 H3 fun y H4=>∃acc,H4 D=some (.lst acc)∧acc.length<sizeLine∧Pv (i+1) (bC H4 D (.lst (acc++ [y]))) else Pv (i+1) H3) (hd:∀H,Pv xs.length H→Qd H):
  ∃W:Nat→Nat→Hp→Prop,(∃m,W 0 m (bC H1 D (.lst [])))∧∀i m H,W i m H→
   ((J1 K a).stop i H∧Qd H)∨((J1 K a).go i H∧∃Nx:Hp→Prop,(∀H',Nx H'→∃m',m'<m∧W (i+1) m' H')∧∀x H',(J1 K a).yld i H x H'→g x (gB σ vs) H' fun σ2 H2=>gB σ2 vs=gB σ vs∧tt σ2 H2 fun b H3=>
     if b=true then te σ2 H3 fun y H4=>∃acc,H4 D=some (.lst acc)∧acc.length<sizeLine∧Nx (bC H4 D (.lst (acc++ [y]))) else Nx H3):=by
 refine⟨fun i m H=>m=xs.length - i∧i≤xs.length∧Pv i H,⟨xs.length,by simp,Nat.zero_le _,h0⟩,?_⟩
 rintro i m H ⟨rfl,hi,p⟩
 have q:=hl i H hi p
 by_cases hlt:i<xs.length
 ·refine .inr ⟨⟨xs,xs[i],q,by simp [hlt]⟩,Pv (i+1),fun H' p'=>⟨xs.length - (i+1),by omega,rfl,hlt,p'⟩,fun x H' y=> ?_⟩
  obtain⟨e,y⟩:=y
  subst e
  exact hs i x _ (y xs q) p
 ·have e:i=xs.length:=by omega
  subst e
  exact .inl ⟨⟨xs,q,Nat.le_refl _⟩,hd H p⟩
def Lp (N:List Str) (sc scope:Scope) (own:List (Str×Nat)):Bool:=
 (match scope.kind with | .function=>true | _=>false) && (scope.names.all fun y=>decide (scope.names.lookup y.1=some y.2)) && (own.all fun p=>decide (N[p.2]?=some p.1)) &&
  (scope.names.all fun y=>match y.2 with
   | .free=>(match sc.names.lookup y.1 with | some .cell=>true | some .free=>true | _=>false)
   | .local=>decide (y.1∈own.map (·.1)) || decide (y.1 ∉ N)
   | .cell=>decide (y.1∈own.map (·.1)) || decide (y.1 ∉ N)
   | _=>true)
theorem bK {N:List Str} {sc scope:Scope} {own:List (Str×Nat)} (h:Lp N sc scope own=true):Cv N sc scope own:=by
 unfold Lp at h
 simp only [Bool.and_eq_true,List.all_eq_true,decide_eq_true_eq] at h
 obtain⟨⟨⟨h1,h2⟩,h3⟩,h4⟩:=h
 refine⟨?_,h2,h3,fun y hy e=> ?_,fun y hy e=> ?_⟩
 ·split at h1
  ·assumption
  ·cases h1
 ·have q:=h4 y hy
  simp only [e] at q
  split at q<;>first | exact .inl (by assumption) | exact .inr (by assumption) | cases q
 ·have q:=h4 y hy
  rcases e with e | e<;>(simp only [e,Bool.or_eq_true,decide_eq_true_eq] at q;exact q)
end L2
namespace L2
open PySem PySem.Spec PyProof.Rows
section
variable {prog:Program} {w:World} {A:Around} {R:Result→Shared→Prop} {s:Shared} {elt t0 i0 t1 i1:Expr} {ifs0 ifs1:List Expr} {scope:Scope} {pos:Pos} {it acc:Value} {env:Env}
end
section
variable {X:Cx}
end
end L2
namespace L2
open PySem PySem.Spec PyProof.Rows
section
variable {κ:Type} [DecidableEq κ]
def D2 (kvs:List (κ×V)) (k:κ):Option V:=(kvs.find? fun kv=>decide (kv.1=k)).map (·.2)
theorem IS {p:κ×V} {r:List (κ×V)} {k:κ} (e:p.1=k):D2 (p::r) k=some p.2:=by simp [D2,List.find?_cons,e]
theorem IR {p:κ×V} {r:List (κ×V)} {k:κ} (e:¬p.1=k):D2 (p::r) k=D2 r k:=by simp [D2,List.find?_cons,e]
theorem su.isSome_eq {o:Option V} {u:Option Value} (r:su o u):o.isSome=u.isSome:=by
 cases o with
 | none=>cases u with
  | none=>rfl
  | some _=>exact(show False from r).elim
 | some _=>cases u with
  | none=>exact(show False from r).elim
  | some _=>rfl
theorem KV.val {kvs:List (κ×V)} {vs:List (κ×Value)} (r:KV kvs vs) (k:κ):su (D2 kvs k) (valueAt vs k):=by
 unfold KV at r
 induction r with
 | nil=>exact True.intro
 | @cons p q ps qs h t ih=>
  obtain⟨h1,h2⟩:=h
  by_cases e:p.1=k
  ·have e':q.1=k:=h1.symm.trans e
   have b:valueAt (q::qs) k=some q.2:=by simp [valueAt,List.find?_cons,e']
   rw [IS e,b];exact h2
  ·have e':¬q.1=k:=fun z=>e (h1.trans z)
   have b:valueAt (q::qs) k=valueAt qs k:=by simp [valueAt,List.find?_cons,e']
   rw [IR e,b];exact ih
end
theorem J7 {P:Program} {w:World} {k:vo} {u:Value} (r:cj (kV k) u):(jL P w).is k u=true:=by
 cases k with
 | inl i=>obtain⟨t,e⟩:=(show ∃t,u=Value.int i t from r);subst e;exact CW P w i t
 | inr x=>obtain⟨t,e⟩:=(show ∃t,u=Value.str x t from r);subst e;exact CY P w x t
section
variable {P:Program} {w:World} {H:Hp} {h:Heap} {a:Addr}
end
section
variable {X:Cx} {pins:List (Addr×Obj)} {σ:St} {H:Hp} {s:Shared} {a:Addr} {y v:V} {u r:Value} {o:Option V} {A:Around} {E:Value→Shared→Prop}
end
section
variable {X:Cx} {pins:List (Addr×Obj)} {σ:St} {H:Hp} {s:Shared} {a:Addr} {kvs:List (vo×V)} {k:vo} {u:Value} {A:Around} {E:Value→Shared→Prop}
end
def Ll (i:Expr):Prop:=∀ov iv,subscripted i false ov iv=operate [ov,iv] (getItem ov iv)
theorem JU {prog:Program} {w:World} {A:Around} {E:Value→Shared→Prop} {s:Shared} {env:Env} {value slice:Expr} {pos:Pos} {T id:String} {Q:Value→Shared→Prop}
  (hl:typeLookup (.type T) "__getitem__"=pure (some (.builtin id))) (hs:Ll slice)
  (h:wpAny (model prog w) A (eval value env) (fun o s₁=>wpAny (model prog w) A (eval slice env) (fun i s₂=>s₂.TypeIs o T∧wpAny (model prog w) A (getItem o i) Q E s₂) E s₁) E s):
  wpAny (model prog w) A (eval (.Subscript value slice pos) env) Q E s:=by
 refine Subscript_ (wpAny_mono h (fun o s₁ h₁=>wpAny_mono h₁ (fun i s₂ h₂=> ?_) fun _ _ x=>x) fun _ _ x=>x)
 obtain⟨hT,h₂⟩:=h₂
 unfold subscriptTail
 refine wpAny_bind ?_
 rw [getitemInPython_of_ne hT.not_modules]
 refine wpAny_bind (wpAny_specialOf hT hl ?_)
 have fin:wpAny (model prog w) A (subscripted slice false o i) (fun r s₃=>wpAny (model prog w) A (letTemporaryGo value o r>>=fun _=>pure r) Q E s₃) E s₂:=by
  rw [hs o i]
  exact wpAny_operating (wpAny_mono h₂ (fun r s₃ h₃=>wpAny_bind (wpAny_letTemporaryGo (wpAny_pure h₃))) fun _ _ x=>x)
 first
  | exact wpAny_pure (wpAny_bind fin)
  | exact wpAny_bind (wpAny_pure (wpAny_bind fin))
  | exact wpAny_bind fin
section
variable {X:Cx} {o i e value:Expr} {pos pos' tpos:Pos} {td ty tv:TE}
end
section
variable {X:Cx} {pos:Pos}
end
section
variable {X:Cx} {pins:List (Addr×Obj)} {σ:St} {H:Hp} {s:Shared} {a:Addr} {y d:V} {u r:Value} {o:Option V} {A:Around} {E:Value→Shared→Prop}
end
section
variable {X:Cx} {o e f:Expr} {apos cpos:Pos} {td ty tx:TE}
end
section
variable {X:Cx} {pins:List (Addr×Obj)} {σ:St} {H:Hp} {s:Shared} {a:Addr} {kvs:List (vo×V)} {A:Around} {E:Value→Shared→Prop}
end
section
variable {X:Cx} {pins:List (Addr×Obj)} {σ:St} {H:Hp} {s:Shared} {a:Addr} {y:V} {u:Value} {A:Around} {E:Value→Shared→Prop}
end
end L2
namespace L2
open PySem PySem.Spec PyProof.Rows
section
variable {prog:Program} {w:World} {A:Around} {E:Value→Shared→Prop}
end
section
variable {X:Cx}
end
end L2
namespace L2
open PySem PySem.Spec PyProof.Rows
section
variable {X:Cx} {pins:List (Addr×Obj)} {σ:St} {H:Hp} {s:Shared} {h':Heap}
theorem a8.turnedL {t':Nat} {ch:List Addr} (I:a8 X pins σ H s) (k:∀b o,b ∉ ch→s.heap.get? b=some o→h'.get? b=some o) (hf:∀b∈ch,xr X pins H b):a8 X pins σ H {s with heap:=h',toks:=t'}:=by
 have nit:∀b u,H b=some u→b ∉ ch:=fun b u e z=>by
  have q:=(hf b z).1
  rw [q] at e;cases e
 refine I.step (g':=s.gens) (d':=s.drawn) (ch:=ch) (fun b hb=>⟨(hf b hb).2.2.2.1,(hf b hb).2.1,(hf b hb).2.2.2.2.1,(hf b hb).2.2.2.2.2⟩) (fun b o _ _ hc e _=>k b o hc e) (fun b o _ _ hc e _=>⟨o.slots,k b o hc e⟩)
  (fun _ _ _ _ n=>n) (fun b o hc e=>⟨o,k b o hc e⟩) (fun _ _ e=>e) (fun _ _ _ e=>e) (fun b ps e=>⟨#[],by rw [e];simp⟩) (fun m hm=> ?_) (fun b u e=> ?_) I.bare
 ·obtain⟨o,es,ep,ho,r⟩:=hm
  exact⟨o,es,ep,k _ o (fun z=>(hf _ z).2.1 rfl) ho,r⟩
 ·refine(I.hok b u e).stay (fun c v hc q=>k c v ?_ q) (fun _ q=>q) fun _ _ q=>q
  rcases hc with z | z
  ·rw [z];exact nit b u e
  ·exact nit c _ z
theorem a8.turnedNew {t':Nat} {ch:List Addr} {T:Addr} {ob:HO} (I:a8 X pins σ H s) (k:∀b o,b ∉ ch→s.heap.get? b=some o→h'.get? b=some o) (hf:∀b∈ch,xr X pins H b) (hT:s.heap.objs.size≤T)
  (new:f7 X.prog X.w (bC H T ob) h' T ob):a8 X pins σ (bC H T ob) {s with heap:=h',toks:=t'}:=by
 have hn:H T=none:=I.hok.fresh hT
 have nit:∀b u,H b=some u→b ∉ ch:=fun b u e z=>by
  have q:=(hf b z).1
  rw [q] at e;cases e
 refine I.step (g':=s.gens) (d':=s.drawn) (ch:=ch) (fun b hb=>⟨(hf b hb).2.2.2.1,(hf b hb).2.1,(hf b hb).2.2.2.2.1,(hf b hb).2.2.2.2.2⟩) (fun b o _ _ hc e _=>k b o hc e) (fun b o _ _ hc e _=>⟨o.slots,k b o hc e⟩)
  (fun b o _ e n=> ?_) (fun b o hc e=>⟨o,k b o hc e⟩) (fun b xs e=> ?_) (fun b o u e=> ?_) (fun b ps e=>⟨#[],?_⟩) (fun m hm=> ?_) (fun b u e=> ?_) I.bare
 ·rw [ak (Nat.ne_of_lt (Nat.lt_of_lt_of_le (Heap.lt_size e) hT))];exact n
 ·rw [ak (aw e hn)];exact e
 ·rw [ak (aw e hn)];exact e
 ·rw [ak (aw e hn),e];simp
 ·obtain⟨o,es,ep,ho,r⟩:=hm
  exact⟨o,es,ep,k _ o (fun z=>(hf _ z).2.1 rfl) ho,r⟩
 ·by_cases hb:b=T
  ·subst hb
   rw [af] at e
   cases e
   exact new
  ·rw [ak hb] at e
   refine(I.hok b u e).stay (fun c v hc q=>k c v ?_ q) (fun c q=>by rw [ak (aw q hn)];exact q) fun c xs q=>by rw [ak (aw q hn)];exact q
   rcases hc with z | z
   ·rw [z];exact nit b u e
   ·exact nit c _ z
end
section
variable {X:Cx}
end
section
variable {X:Cx} {tg:Expr}
end
section
variable {X:Cx} {tg:Expr}
end
section
variable {prog:Program} {w:World} {A:Around} {E:Value→Shared→Prop} {s:Shared}
end
section
variable {X:Cx} {pins:List (Addr×Obj)} {σ:St} {H:Hp} {s:Shared} {d:Addr} {o:Obj}
end
section
variable {P:Program} {w:World} {K:PySem.W.Frag} {tg:Expr} {d:Addr} {o:Obj} {es:Array DictEntry} {ep:Nat}
end
section
variable {X:Cx} {tg e:Expr} {td:TE} {apos cpos:Pos}
end
theorem F0:bootBuiltins "zip"=some (.type "zip"):=by decide+kernel
def Lk (K:PySem.W.Frag) (a b:Addr):It:=
 ⟨fun i H=>∃(xs ys:List V) (x y:V),aX K H a xs∧aX K H b ys∧xs[i]?=some x∧ys[i]?=some y,
  fun i H v H'=>∃T x y,v= .ref T∧H T=none∧H'=bC H T (.tup [x,y])∧(∀xs,aX K H a xs→xs[i]?=some x)∧∀ys,aX K H b ys→ys[i]?=some y,
  fun i H=>∃xs ys:List V,aX K H a xs∧aX K H b ys∧(xs.length≤i∨ys.length≤i)⟩
theorem IQ {P:Program} {w:World} {K:PySem.W.Frag} {elts:List Expr} {kk:Nat} {tpos:Pos} {a b z TI TO i1 i2:Addr} (D:ZipApart z TI TO i1 i2 a b):
  Jf P w K (.Tuple elts kk tpos) (Lk K a b) [z,TI,TO,i1,i2] z (fun i h=>IsZip h z TI TO .none∧IsPair h TI (.ref i1) (.ref i2)∧(∃x y,IsPair h TO x y)∧h.IsListIter i1 a i∧h.IsListIter i2 b i) where
 mem:=by simp
 obj:=fun i h st c hc=>by
  obtain⟨hz,hTI,⟨x,y,hTO⟩,⟨o1,e1,_,d1⟩,⟨o2,e2,_,d2⟩⟩:=st
  have e':c=z∨c=TI∨c=TO∨c=i1∨c=i2:=by simpa using hc
  rcases e' with q | q | q | q | q
  ·rw [q];exact⟨_,hz,fun v q=>nomatch q⟩
  ·rw [q];exact⟨_,hTI,fun v q=>nomatch q⟩
  ·rw [q];exact⟨_,hTO,fun v q=>nomatch q⟩
  ·rw [q];exact⟨o1,e1,fun v q=>by rw [d1] at q;cases q⟩
  ·rw [q];exact⟨o2,e2,fun v q=>by rw [d2] at q;cases q⟩
 keep:=fun i h h' st k=>by
  obtain⟨hz,hTI,⟨x,y,hTO⟩,h1,h2⟩:=st
  exact⟨k z (by simp) _ hz,k TI (by simp) _ hTI,⟨x,y,k TO (by simp) _ hTO⟩,h1.at fun o q=>k i1 (by simp) o q,h2.at fun o q=>k i2 (by simp) o q⟩
 item:=by
  intro X hP hw hK hc i pins s σ H E I hf st hg
  subst hP hw hK
  obtain⟨hz,hTI,⟨x0,y0,hTO⟩,h1,h2⟩:=st
  obtain⟨xs,ys,x,y,hqx,hqy,hx,hy⟩:=hg
  obtain⟨its,rv,p,_⟩:=I.list hqx
  obtain⟨its2,rv2,p2,_⟩:=I.list hqy
  obtain⟨u,hu,ru⟩:=rv.get hx
  obtain⟨u2,hu2,ru2⟩:=rv2.get hy
  have hzl:z<s.heap.objs.size:=Heap.lt_size hz
  refine wpAny_pyNext_zip_item D hz hTI hTO h1 h2 p.isList p2.isList (x:=u) (y:=u2) (by simpa using hu) (by simpa using hu2) fun h' z' TO' h1' h2' hT hsz hk=> ?_
  refine⟨_,rfl,wpAny_letOwnedTupleGo_zip (s:={s with heap:=h'}) z' fun h'' z'' sb=> ?_⟩
  have hT2:h''.get? s.heap.objs.size=some {cls:= .type "tuple",data:= .seq #[u,u2]}:=(sb.2 _ (Nat.ne_of_gt hzl)).trans hT
  have new:f7 X.prog X.w (bC H s.heap.objs.size (.tup [x,y])) h'' s.heap.objs.size (.tup [x,y]):=
   ⟨by show 2≤sizeLine;decide,[u,u2],.cons ru (.cons ru2 .nil),⟨_,hT2,rfl,_,rfl⟩⟩
  have I1:a8 X pins σ (bC H s.heap.objs.size (.tup [x,y])) {s with heap:=h''}:=
   I.turnedNew (t':=s.toks) (ch:= [z,TI,TO,i1,i2]) (fun c o hb q=>(sb.2 c (fun q'=>hb (by simp [q']))).trans (hk c o (fun q'=>hb (by simp [q'])) (fun q'=>hb (by simp [q'])) (fun q'=>hb (by simp [q'])) (fun q'=>hb (by simp [q'])) q)) hf (Nat.le_refl _) new
  refine⟨.ref s.heap.objs.size,_,I1,rfl,⟨_,x,y,rfl,I.hok.fresh (Nat.le_refl _),rfl,fun l hl=>by rw [I.list_inj hl hqx];exact hx,fun l hl=>by rw [I.list_inj hl hqy];exact hy⟩,⟨z'',?_,⟨u,u2,?_⟩,?_,?_⟩,fun c hcm=> ?_⟩
  ·exact(sb.2 _ D.TIz).trans (hk _ _ D.TIz D.TITO D.TIi1 D.TIi2 hTI)
  ·exact(sb.2 _ D.TOz).trans TO'
  ·exact h1'.at fun o q=>(sb.2 _ D.i1z).trans q
  ·exact h2'.at fun o q=>(sb.2 _ D.i2z).trans q
  ·have hlt:c<s.heap.objs.size:=by
    have e':c=z∨c=TI∨c=TO∨c=i1∨c=i2:=by simpa using hcm
    rcases e' with q | q | q | q | q
    ·rw [q];exact hzl
    ·rw [q];exact Heap.lt_size hTI
    ·rw [q];exact Heap.lt_size hTO
    ·rw [q];obtain⟨_,e1,_⟩:=h1;exact Heap.lt_size e1
    ·rw [q];obtain⟨_,e2,_⟩:=h2;exact Heap.lt_size e2
   rw [ak (Nat.ne_of_lt hlt)]
   exact(hf c hcm).1
 done:=by
  intro X hP hw hK hc i pins s σ H E I hf st hg
  subst hP hw hK
  obtain⟨hz,hTI,⟨x0,y0,hTO⟩,h1,h2⟩:=st
  obtain⟨xs,ys,hqx,hqy,hend⟩:=hg
  obtain⟨its,rv,p,_⟩:=I.list hqx
  obtain⟨its2,rv2,p2,_⟩:=I.list hqy
  have l1:=rv.length
  have l2:=rv2.length
  have he:its.toArray[i]?=none∨its2.toArray[i]?=none:=by
   rcases hend with q | q
   ·exact .inl (by simp;omega)
   ·exact .inr (by simp;omega)
  exact wpAny_pyNext_zip_end (I.ok.hd hc) D hz hTI hTO h1 h2 p.isList p2.isList he fun h' hk=>⟨rfl,I.turnedL (t':=s.toks) (ch:= [z,TI,TO,i1,i2]) (fun c o hb q=>
   hk c o (fun q'=>hb (by simp [q'])) (fun q'=>hb (by simp [q'])) (fun q'=>hb (by simp [q'])) (fun q'=>hb (by simp [q'])) q) hf⟩
 self:=fun A i s Q E st h=>wpAny_pyIter_zip st.1 h
def Mw (K:PySem.W.Frag) (ta:TA):TI:=fun σ H R=>ta σ H fun vs H1=>∃a b xs ys,vs= [.ref a,.ref b]∧aX K H1 a xs∧aX K H1 b ys∧R (Lk K a b) H1
theorem KW {X:Cx} {e e2:Expr} {ta:TA} {p pos tpos:Pos} {elts:List Expr} {kk:Nat} (hg:Gl X "zip") (hm:X.mg "zip"=none) (ha:PA X [e,e2] ta)
  (hs:starEach [e,e2] X.env=(false,eval e X.env)::starEach [e2] X.env:=by rfl) (hpl:(backTo pos (starEach [e2] X.env)).any (·.1)=false:=by rfl):
  PI X (.Tuple elts kk tpos) (.Call (.Name "zip" p) [e,e2] [] pos) (Mw X.K ta):=by
 intro pins s σ H R I h
 refine Call_ (sC I hg hm F0 (PyProof.Rows.callWith_type1 (dn (ha pos pins s σ H _ I h) fun us s1 ⟨vs,H1,I1,r1,q1⟩=> ?_) hs hpl))
 obtain⟨a,b,xs,ys,ex,hqx,hqy,q⟩:=q1
 subst ex
 cases r1 with
 | cons r rr=>
  cases rr with
  | cons r' rr=>
   cases rr
   cases r
   cases r'
   obtain⟨its,rv,p1,_⟩:=I1.list hqx
   obtain⟨its2,rv2,p2,_⟩:=I1.list hqy
   have la:a<s1.heap.objs.size:=p1.lt
   have lb:b<s1.heap.objs.size:=p2.lt
   refine call_zip_2 p1.isList p2.isList fun h' hz hTI hTO h1 h2 hsz hk=>wpAny_pyIter_zip hz ?_
   have I2:a8 X pins σ H1 {s1 with heap:=h'}:=I1.kept (t':=s1.toks) hk
   refine⟨s1.heap.objs.size+4,[s1.heap.objs.size+4,s1.heap.objs.size+2,s1.heap.objs.size+3,s1.heap.objs.size,s1.heap.objs.size+1],_,_,H1,rfl,I2,IQ (PySem.W.ktu_apart s1.heap.objs.size a b la lb),⟨hz,hTI,⟨_,_,hTO⟩,h1,h2⟩,fun c hcm=> ?_,q⟩
   have e':c=s1.heap.objs.size+4∨c=s1.heap.objs.size+2∨c=s1.heap.objs.size+3∨c=s1.heap.objs.size∨c=s1.heap.objs.size+1:=by simpa using hcm
   have hle:s1.heap.objs.size≤c:=by
    rcases e' with z | z | z | z | z
    ·rw [z];exact Nat.le_add_right _ _
    ·rw [z];exact Nat.le_add_right _ _
    ·rw [z];exact Nat.le_add_right _ _
    ·rw [z];exact Nat.le_refl _
    ·rw [z];exact Nat.le_add_right _ _
   exact I1.fpOk hle (I1.hok.fresh hle)
end L2
section
namespace Bits
open PySem PyProof.Rows
end Bits
end
section
namespace TL
open PySem PySem.Builtin PySem.Builtin.Str PySem.StrLaws
end TL
end
namespace L2
open PySem PySem.Spec PyProof.Rows
section
variable {X:Cx} {pins:List (Addr×Obj)} {σ:St} {H:Hp} {s:Shared} {Q:VK}
end
section
variable {X:Cx}
end
section
variable {X:Cx} {o e:Expr} {to te:TE}
end
end L2
namespace L2
open PySem PySem.Spec PyProof.Rows
section
variable {X:Cx}
end
end L2
namespace Att
open PySem PySem.W PySem.Calls PyProof.Rows
section
variable {prog:Program} {w:World} {A:Around} {E:Value→Shared→Prop} {s:Shared} {K:Frag}
end
end Att
namespace L2
open PySem PySem.Spec PyProof.Rows
end L2
namespace L2
open PySem PySem.Spec PyProof.Rows
end L2
namespace L2
open PySem PySem.Spec PyProof.Rows
def bh (s:Stmt) (j:Nat):Stmt:=match s with
 | .ClassDef _ _ _ body _ _ _ _ _ _ _=>body.getD j (.Pass ⟨0,0,0,0⟩)
 | _=> .Pass ⟨0,0,0,0⟩
def mU (s:Stmt):Arguments:=match s with
 | .FunctionDef _ a _ _ _ _ _ _ _ _=>a
 | _=>{posonlyargs:= [],args:= [],vararg:=none,kwonlyargs:= [],kw_defaults:= [],kwarg:=none,defaults:= []}
def gX (s:Stmt):List Stmt:=match s with
 | .FunctionDef _ _ b _ _ _ _ _ _ _=>b
 | _=> []
def ag (s:Stmt):Scope:=match s with
 | .FunctionDef _ _ _ _ _ _ sc _ _ _=>sc
 | _=>{kind:= .function,names:= [],isGenerator:=false,isCoroutine:=false}
abbrev x8:Hf:=fun _ _ _ _ _ _=>False
abbrev E0:XK:=fun _ _ _=>False
theorem wU {X:Cx}:pE x8 X E0:=fun _ _ _ _ _ _ _ h=>h.elim
structure Ki (K:PySem.W.Frag) (x qual:Str) (st:Stmt) (f:Addr) (fd:FuncData):Prop where
 ex:∃(oc:Value) (od:Option Addr) (kV doc pm:Value) (an:Option Addr) (cdv ct:Value) (osl:Array (Option Value)),
  fd=PySem.W.fnOf x qual (mU st) (gX st) (ag st) .none kV doc pm an cdv ct∧K.lookup f=some ⟨oc,od,.func fd,osl⟩∧PySem.W.codeIn K cdv qual=true
 kp:PySem.W.keepIn K (.ref f)=true
section
variable {P:Program} {w:World} {K:PySem.W.Frag} {mg:Str→Option Value} {base:Heap}
theorem Ki.ok {x qual:Str} {st:Stmt} {f:Addr} {fd:FuncData} {N ps:List Str} {k:Nat} {sp:Sp} (F:Ki K x qual st f fd) (S:ap N ps (ag st)) (len:∀vs H Q E,sp vs H Q E→vs.length=ps.length)
  (hbody:∀(cdv:Value) (A:Around) (outer:List Env) (s:Shared) (H:Hp) (vs:List V) (Q:VK) (E:XK),du k (A.deeper (envOfC qual (ag st) s.heap.objs.size f cdv))→sp vs H Q E→
   ∃t,D9 (By x8 P w K mg base N qual (ag st) f cdv A outer s H E).nox (gX st) t∧t {nx:=fun _ H'=>Q .non H',rt:=Q} (start N vs) H):iq P w K mg base x8 (k+1) f fd ps sp:=by
 obtain⟨oc,od,kV,doc,pm,an,cdv,ct,osl,rfl,lk,hcd⟩:=F.ex
 refine J5 lk hcd S len fun A outer s H vs Q E hr hsp=> ?_
 obtain⟨t,h,q⟩:=hbody cdv A outer s H vs Q E hr hsp
 exact⟨t,h.nox,q⟩
theorem HG {x qual:Str} {st:Stmt} {f:Addr} {oc:Value} {od an:Option Addr} {osl:Array (Option Value)} {kV doc pm cdv ct:Value} (l:K.lookup f=some ⟨oc,od,.func (PySem.W.fnOf x qual (mU st) (gX st) (ag st) .none kV doc pm an cdv ct),osl⟩)
  (c:PySem.W.codeIn K cdv qual=true) (k:PySem.W.keepIn K (.ref f)=true):Ki K x qual st f (PySem.W.fnOf x qual (mU st) (gX st) (ag st) .none kV doc pm an cdv ct):=⟨⟨oc,od,kV,doc,pm,an,cdv,ct,osl,rfl,l,c⟩,k⟩
end
section
variable {X:Cx}
theorem pv (i:Nat) {x:Str} {pos:Pos} (hN:X.N[i]?=some x:=by rfl) (hv:Kp X.env.scope x:=by first | exact Or.inl rfl | exact Or.inr (Or.inl rfl) | exact Or.inr (Or.inr rfl)) (hd:(x==("__debug__":Str))=false:=by decide)
  (hcd:(x==("__classdict__":Str))=false:=by decide):PE X (.Name x pos) (Lb i):=Ix hN hv hd hcd
end
theorem gY {A B:Prop} (h:A):if true=true then A else B:=by
 rw [if_pos rfl]
 exact h
theorem aU {c A B:Prop} [Decidable c] (h1:c→A) (h2:¬c→B):if c then A else B:=by
 by_cases h:c
 ·rw [if_pos h]
  exact h1 h
 ·rw [if_neg h]
  exact h2 h
def aC (H H':Hp):Prop:=∀b o,H b=some o→H' b=some o
theorem aC.trans {H H1 H2:Hp} (a:aC H H1) (b:aC H1 H2):aC H H2:=fun c o h=>b c o (a c o h)
theorem aC.free {H H':Hp} (e:aC H H') {l:Addr} (h:H' l=Option.none):H l=Option.none:=by
 cases q:H l with
 | none=>rfl
 | some o=>
  rw [e l o q] at h
  cases h
theorem aC.seq {K:PySem.W.Frag} {H H':Hp} {a:Addr} {xs:List V} (e:aC H H') (h:aX K H a xs):aX K H' a xs:=by
 rcases h with(h | ⟨o,h⟩) | h
 ·exact .inl (.inl (e _ _ h))
 ·exact .inl (.inr ⟨o,e _ _ h⟩)
 ·exact .inr h
section
variable {κ:Type} [DecidableEq κ]
end
theorem rL {xs:List V} {z:Int} {j:Nat} {v:V} (e:z=(j:Int)) (h:xs[j]?=some v):He xs z=some v:=by
 rw [e]
 exact Ji h
theorem LI {α:Type} {l:List α} (hN:l.Nodup) {i j:Nat} {x:α} (a:l[i]?=some x) (b:l[j]?=some x):i=j:=by
 obtain⟨h1,e1⟩:=List.getElem?_eq_some_iff.mp a
 obtain⟨h2,e2⟩:=List.getElem?_eq_some_iff.mp b
 exact(List.getElem_inj hN).mp (e1.trans e2.symm)
theorem aC.made {H H1:Hp} {x dx C:Addr} (nx:H x=Option.none) (nd:H dx=Option.none) (k:∀b o,(bC (bC H dx (.own x)) x (.ins C dx [])) b=some o→b≠x→H1 b=some o):aC H H1:=fun b o e=>
 k b o (by rw [ak (aw e nx),ak (aw e nd)];exact e) (aw e nx)
end L2
end
section
section
namespace L2
open PySem PySem.Spec PyProof.Rows
open PySem.W (WData Codec OpenSpec Well WellAll ReadsW ReadsAllW)
mutual
inductive Dw (K:PySem.W.Frag) (H:Hp):V→WData→Prop
 | non:Dw K H .non .none
 | bl (b:Bool):Dw K H (.bl b) (.bool b)
 | int (i:Int):Dw K H (.int i) (.int i)
 | str (x:Str):Dw K H (.str x) (.str x)
 | byt (b:Array UInt8):Dw K H (.byt b) (.bytes b.toList)
 | lst {a:Addr} {xs:List V} {ds:List WData}:aX K H a xs→pD K H xs ds→Dw K H (.ref a) (.list ds)
 | tup {a:Addr} {xs:List V} {ds:List WData}:Ea K H a xs→pD K H xs ds→Dw K H (.ref a) (.tuple ds)
inductive pD (K:PySem.W.Frag) (H:Hp):List V→List WData→Prop
 | nil:pD K H [] []
 | cons {v:V} {vs:List V} {d:WData} {ds:List WData}:Dw K H v d→pD K H vs ds→pD K H (v::vs) (d::ds)
end
theorem Fh {K:PySem.W.Frag} {H:Hp}:∀ns:List Int,pD K H (ns.map V.int) (ns.map WData.int)
 | []=> .nil
 | n::r=> .cons (.int n) (Fh r)
theorem Fl {K:PySem.W.Frag} {H:Hp}:∀(ns:List Int) (xs:List V),pD K H xs (ns.map WData.int)→xs=ns.map V.int
 | [],xs,h=>by
  cases h
  rfl
 | n::r,xs,h=>by
  cases h with
  | cons h1 h2=>
   cases h1
   rw [Fl r _ h2]<;>rfl
section
variable {P:Program} {w:World} {K:PySem.W.Frag} {H:Hp} {h:Heap} {R:PySem.W.WRecords} {cl:Str→Option Addr}
theorem K5 {a:Addr} {xs:List V} (hok:sr P w H h) (KX:K.In h) (q:aX K H a xs):∃(its:List Value) (o:Obj) (n:Nat),bw xs its∧h.get? a=some o∧o.cls= .type "list"∧o.data= .seq its.toArray n:=by
 rcases q with q | ⟨o,its,n,e,hc,_,hd,_,hv⟩
 ·obtain⟨_,its,n,hv,e⟩:=(show f7 P w H h a (.lst xs) from q.ok hok)
  exact⟨its,_,n,hv,e,rfl,rfl⟩
 ·exact⟨its.toList,o,n,hv,KX _ _ e,hc,by simp [hd]⟩
theorem K6 {a:Addr} {xs:List V} (hok:sr P w H h) (KX:K.In h) (q:Ea K H a xs):∃(its:List Value) (o:Obj) (n:Nat),bw xs its∧h.get? a=some o∧o.cls= .type "tuple"∧o.data= .seq its.toArray n:=by
 rcases q with q | ⟨o,its,n,e,hc,hd,_,hv⟩
 ·obtain⟨_,its,hv,o,e,hc,n,hd⟩:=(show f7 P w H h a (.tup xs) from q.ok hok)
  exact⟨its,o,n,hv,e,hc,hd⟩
 ·exact⟨its.toList,o,n,hv,KX _ _ e,hc,by simp [hd]⟩
mutual
theorem Dw.reads (hok:sr P w H h) (KX:K.In h):∀(d:WData) (v:V) (u:Value),Dw K H v d→cj v u→∃as,ReadsW R cl h u d as
 | .none,_,_,x,r=>by
  cases x
  cases r
  exact⟨_,ReadsW.none⟩
 | .bool b,_,_,x,r=>by
  cases x
  cases r
  exact⟨_,ReadsW.bool b⟩
 | .int i,_,_,x,r=>by
  cases x
  obtain⟨t,rfl⟩:=r
  exact⟨_,ReadsW.int i t⟩
 | .str s,_,_,x,r=>by
  cases x
  obtain⟨t,rfl⟩:=r
  exact⟨_,ReadsW.str s t⟩
 | .bytes b,_,_,x,r=>by
  cases x
  obtain⟨t,rfl⟩:=r
  exact⟨_,ReadsW.bytes _ t⟩
 | .list ds,_,_,x,r=>by
  cases x with
  | lst hs ha=>
   cases r
   obtain⟨its,o,n,rv,ho,hc,hd⟩:=K5 hok KX hs
   obtain⟨as,hr⟩:=Dw.readsAll hok KX ds _ its ha rv
   exact⟨_,ReadsW.list ho hc hd hr⟩
 | .tuple ds,_,_,x,r=>by
  cases x with
  | tup hs ha=>
   cases r
   obtain⟨its,o,n,rv,ho,hc,hd⟩:=K6 hok KX hs
   obtain⟨as,hr⟩:=Dw.readsAll hok KX ds _ its ha rv
   exact⟨_,ReadsW.tuple ho hc hd hr⟩
 | .float _,_,_,x,_=>by cases x
 | .dict _,_,_,x,_=>by cases x
 | .bytearray _,_,_,x,_=>by cases x
 | .set _,_,_,x,_=>by cases x
 | .frozenset _,_,_,x,_=>by cases x
 | .obj _ _,_,_,x,_=>by cases x
theorem Dw.readsAll (hok:sr P w H h) (KX:K.In h):∀(ds:List WData) (vs:List V) (us:List Value),pD K H vs ds→bw vs us→∃as,ReadsAllW R cl h us ds as
 | [],_,_,x,r=>by
  cases x
  cases r
  exact⟨_,ReadsAllW.nil⟩
 | d::ds,_,_,x,r=>by
  cases x with
  | cons h1 h2=>
   cases r with
   | cons r1 r2=>
    obtain⟨as,q1⟩:=Dw.reads hok KX d _ _ h1 r1
    obtain⟨bs,q2⟩:=Dw.readsAll hok KX ds _ _ h2 r2
    exact⟨_,ReadsAllW.cons q1 q2⟩
end
end
mutual
def FD:WData→Bool
 | .none=>true
 | .bool _=>true
 | .int _=>true
 | .str _=>true
 | .bytes _=>true
 | .list xs=>xG xs
 | .tuple xs=>xG xs
 | _=>false
def xG:List WData→Bool
 | []=>true
 | x::r=>FD x && xG r
end
theorem Dh {α:Type} {f:α→WData} (h:∀a,FD (f a)=true):∀l:List α,xG (l.map f)=true
 | []=>rfl
 | x::r=>by
  show(FD (f x) && xG (r.map f))=true
  rw [h x,Dh h r]<;>rfl
theorem pV:∀(c:Codec) (a:c.denote),FD (c.enc a)=true
 | .unit,_=>rfl
 | .bool,_=>rfl
 | .int _ _,_=>rfl
 | .nat _ _,_=>rfl
 | .u8,_=>rfl
 | .bytes _ _,_=>rfl
 | .text _ _ _ _,_=>rfl
 | .list _ _ c,a=>Dh (fun x=>pV c x) a
 | .pair c d,a=>by
  show(FD (c.enc a.1) && (FD (d.enc a.2) && true))=true
  rw [pV c a.1,pV d a.2]<;>rfl
 | .triple c d e,a=>by
  show(FD (c.enc a.1) && (FD (d.enc a.2.1) && (FD (e.enc a.2.2) && true)))=true
  rw [pV c a.1,pV d a.2.1,pV e a.2.2]<;>rfl
 | .option c,none=>rfl
 | .option c,some x=>pV c x
theorem A0:∀(cs:List Codec) (a:Codec.denoteAll cs),xG (Codec.encAll cs a)=true
 | [],_=>rfl
 | c::cs,a=>by
  show(FD (c.enc a.1) && xG (Codec.encAll cs a.2))=true
  rw [pV c a.1,A0 cs a.2]<;>rfl
theorem tS:∀{xs:List WData} {d:WData},d∈xs→d.weight≤WData.weightAll xs
 | [],d,h=>absurd h (by simp)
 | x::r,d,h=>by
  show d.weight≤x.weight+1+WData.weightAll r
  rcases List.mem_cons.mp h with e | m
  ·rw [e]
   omega
  ·have z:=tS m
   omega
def D0:Value→V
 | .none=> .non
 | .bool b=> .bl b
 | .int i _=> .int i
 | .str x _=> .str x
 | .bytes b _=> .byt b
 | .ref a=> .ref a
 | _=> .non
def FV (A:List Addr):Value→Prop
 | .none=>True
 | .bool _=>True
 | .int _ _=>True
 | .str _ _=>True
 | .bytes _ _=>True
 | .ref a=>a∈A
 | _=>False
theorem FV.mono {A B:List Addr} (h:∀a∈A,a∈B):∀{u:Value},FV A u→FV B u:=fun {u} x=>by
 cases u with
 | ref a=>exact h a x
 | none=>trivial
 | bool b=>trivial
 | int i t=>trivial
 | str s t=>trivial
 | bytes b t=>trivial
 | _=>exact False.elim x
theorem IG {A:List Addr} {u:Value} (x:FV A u):cj (D0 u) u:=by
 cases u with
 | ref a=>rfl
 | none=>rfl
 | bool b=>rfl
 | int i t=>exact⟨t,rfl⟩
 | str s t=>exact⟨t,rfl⟩
 | bytes b t=>exact⟨t,rfl⟩
 | _=>exact False.elim x
theorem mM {A:List Addr}:∀{vs:List Value},(∀u∈vs,FV A u)→bw (vs.map D0) vs
 | [],_=> .nil
 | u::r,h=> .cons (IG (h u (List.mem_cons_self ..))) (mM fun x hx=>h x (List.mem_cons_of_mem _ hx))
def pC (h:Heap) (A:List Addr) (a:Addr):Prop:=∃vs:List Value,vs.length≤sizeLine∧(∀u∈vs,FV A u)∧
 (h.get? a=some {cls:= .type "list",data:= .seq vs.toArray}∨h.get? a=some {cls:= .type "tuple",data:= .seq vs.toArray})
theorem pC.mono {h:Heap} {A B:List Addr} {a:Addr} (k:∀a∈A,a∈B) (x:pC h A a):pC h B a:=by
 obtain⟨vs,h1,h2,h3⟩:=x
 exact⟨vs,h1,fun u hu=>(h2 u hu).mono k,h3⟩
theorem lE {P:Params} {h:Heap}:∀{vs:List Value} {ds:List WData},WellAll P h vs ds→vs.length=ds.length
 | _,_,.nil=>rfl
 | _,_,.cons _ b=>by
  show _+1=_+1
  rw [lE b]
theorem Bp {P:Params} {h:Heap} {v:Value} {ds:List WData} (x:Well P h v (.list ds)):∃(a:Addr) (vs:List Value),v= .ref a∧h.get? a=some {cls:= .type "list",data:= .seq vs.toArray}∧WellAll P h vs ds:=by
 cases x with
 | list ho hall=>exact⟨_,_,rfl,ho,hall⟩
theorem zX {P:Params} {h:Heap} {v:Value} {ds:List WData} (x:Well P h v (.tuple ds)):∃(a:Addr) (vs:List Value),v= .ref a∧h.get? a=some {cls:= .type "tuple",data:= .seq vs.toArray}∧WellAll P h vs ds:=by
 cases x with
 | tuple ho hall=>exact⟨_,_,rfl,ho,hall⟩
theorem Bo {P:Params} {h:Heap} {us:List Value} {d:WData} {ds:List WData} (x:WellAll P h us (d::ds)):∃(v:Value) (vs:List Value),us=v::vs∧Well P h v d∧WellAll P h vs ds:=by
 cases x with
 | cons a b=>exact⟨_,_,rfl,a,b⟩
theorem Fq {n:Nat} (h:n≤1048576):n≤sizeLine:=Nat.le_trans h (by decide)
section
variable {P:Params} {h:Heap}
mutual
theorem Ho:∀(d:WData) (v:Value),Well P h v d→FD d=true→d.weight≤1048576→∃A:List Addr,FV A v∧∀a∈A,pC h A a
 | .none,_,x,_,_=>by
  cases x
  exact⟨[],trivial,fun a m=>absurd m (by simp)⟩
 | .bool b,_,x,_,_=>by
  cases x
  exact⟨[],trivial,fun a m=>absurd m (by simp)⟩
 | .int i,_,x,_,_=>by
  cases x
  exact⟨[],trivial,fun a m=>absurd m (by simp)⟩
 | .str s,_,x,_,_=>by
  cases x
  exact⟨[],trivial,fun a m=>absurd m (by simp)⟩
 | .bytes b,_,x,_,_=>by
  cases x
  exact⟨[],trivial,fun a m=>absurd m (by simp)⟩
 | .list ds,_,x,p,z=>by
  obtain⟨a,vs,rfl,ho,hall⟩:=Bp x
  have z2:WData.weightAll ds≤1048576:=z
  obtain⟨A,h1,h2⟩:=uc ds _ hall p fun d hd=>Nat.le_trans (tS hd) z2
  have k:∀b∈A,b∈a::A:=fun b hb=>List.mem_cons_of_mem _ hb
  refine⟨a::A,List.mem_cons_self ..,fun b hb=> ?_⟩
  rcases List.mem_cons.mp hb with e | m
  ·rw [e]
   exact⟨vs,Fq (by rw [lE hall];exact Nat.le_trans (PySem.W.length_le_weightAllW ds) z2),fun u hu=>(h1 u hu).mono k,.inl ho⟩
  ·exact(h2 b m).mono k
 | .tuple ds,_,x,p,z=>by
  obtain⟨a,vs,rfl,ho,hall⟩:=zX x
  have z2:WData.weightAll ds≤1048576:=z
  obtain⟨A,h1,h2⟩:=uc ds _ hall p fun d hd=>Nat.le_trans (tS hd) z2
  have k:∀b∈A,b∈a::A:=fun b hb=>List.mem_cons_of_mem _ hb
  refine⟨a::A,List.mem_cons_self ..,fun b hb=> ?_⟩
  rcases List.mem_cons.mp hb with e | m
  ·rw [e]
   exact⟨vs,Fq (by rw [lE hall];exact Nat.le_trans (PySem.W.length_le_weightAllW ds) z2),fun u hu=>(h1 u hu).mono k,.inr ho⟩
  ·exact(h2 b m).mono k
 | .float _,_,_,p,_=>Bool.noConfusion (show false=true from p)
 | .dict _,_,_,p,_=>Bool.noConfusion (show false=true from p)
 | .bytearray _,_,_,p,_=>Bool.noConfusion (show false=true from p)
 | .set _,_,_,p,_=>Bool.noConfusion (show false=true from p)
 | .frozenset _,_,_,p,_=>Bool.noConfusion (show false=true from p)
 | .obj _ _,_,_,p,_=>Bool.noConfusion (show false=true from p)
theorem uc:∀(ds:List WData) (vs:List Value),WellAll P h vs ds→xG ds=true→(∀d∈ds,d.weight≤1048576)→∃A:List Addr,(∀u∈vs,FV A u)∧∀a∈A,pC h A a
 | [],_,x,_,_=>by
  cases x
  exact⟨[],fun u m=>absurd m (by simp),fun a m=>absurd m (by simp)⟩
 | d::ds,_,x,p,z=>by
  obtain⟨v,vs,rfl,x1,x2⟩:=Bo x
  have q:FD d=true∧xG ds=true:=Bool.and_eq_true_iff.mp p
  obtain⟨A,a1,a2⟩:=Ho d v x1 q.1 (z d (List.mem_cons_self ..))
  obtain⟨B,b1,b2⟩:=uc ds vs x2 q.2 fun e he=>z e (List.mem_cons_of_mem _ he)
  have kA:∀b∈A,b∈A++B:=fun b hb=>List.mem_append.mpr (.inl hb)
  have kB:∀b∈B,b∈A++B:=fun b hb=>List.mem_append.mpr (.inr hb)
  refine⟨A++B,fun u hu=> ?_,fun b hb=> ?_⟩
  ·rcases List.mem_cons.mp hu with e | m
   ·rw [e]
    exact a1.mono kA
   ·exact(b1 u m).mono kB
  ·rcases List.mem_append.mp hb with m | m
   ·exact(a2 b m).mono kA
   ·exact(b2 b m).mono kB
end
end
def Jr (o:Obj):Option HO:=match o.data with
 | .seq vs _=>if (o.cls==Value.type "list")=true then some (.frz o (.lst (vs.toList.map D0))) else some (.frz o (.tup (vs.toList.map D0)))
 | _=>none
def jv (K:PySem.W.Frag) (h:Heap) (A:List Addr):Hp:=fun b=>if b∈A then(if (K.lookup b).isNone=true then(h.get? b).bind Jr else none) else none
def Cy (H:Hp):Prop:=∀b,H b=none∨∃o u,H b=some (.frz o u)
theorem CO (vs:List Value):Jr {cls:= .type "list",data:= .seq vs.toArray}=some (.frz {cls:= .type "list",data:= .seq vs.toArray} (.lst (vs.map D0))):=by
 show(if (Value.type "list"==Value.type "list")=true then some (HO.frz {cls:= .type "list",data:= .seq vs.toArray} (.lst (vs.toArray.toList.map D0))) else some (HO.frz {cls:= .type "list",data:= .seq vs.toArray} (.tup (vs.toArray.toList.map D0))))=_
 rw [if_pos (beq_self_eq_true _)]
theorem CP (vs:List Value):Jr {cls:= .type "tuple",data:= .seq vs.toArray}=some (.frz {cls:= .type "tuple",data:= .seq vs.toArray} (.tup (vs.map D0))):=by
 show(if (Value.type "tuple"==Value.type "list")=true then some (HO.frz {cls:= .type "tuple",data:= .seq vs.toArray} (.lst (vs.toArray.toList.map D0))) else some (HO.frz {cls:= .type "tuple",data:= .seq vs.toArray} (.tup (vs.toArray.toList.map D0))))=_
 rw [if_neg (by decide)]
section
variable {P:Program} {w:World} {K:PySem.W.Frag} {h:Heap} {A:List Addr}
theorem ya {b:Addr} {o:Obj} (hb:b∈A) (hk:K.lookup b=none) (e:h.get? b=some o):jv K h A b=Jr o:=by
 unfold jv
 rw [if_pos hb,hk,if_pos (show(none:Option Obj).isNone=true from rfl),e]<;>rfl
theorem JB {b:Addr} {u:HO} (q:jv K h A b=some u):b∈A∧K.lookup b=none:=by
 unfold jv at q
 by_cases hb:b∈A
 ·rw [if_pos hb] at q
  cases hk:K.lookup b with
  | none=>exact⟨hb,rfl⟩
  | some o=>
   rw [hk,if_neg (by simp)] at q
   cases q
 ·rw [if_neg hb] at q
  cases q
theorem ud (ar:∀a∈A,pC h A a) {b:Addr} {u:HO} (q:jv K h A b=some u):K.lookup b=none∧∃vs:List Value,vs.length≤sizeLine∧(∀u∈vs,FV A u)∧
  ((h.get? b=some {cls:= .type "list",data:= .seq vs.toArray}∧u= .frz {cls:= .type "list",data:= .seq vs.toArray} (.lst (vs.map D0)))∨
   (h.get? b=some {cls:= .type "tuple",data:= .seq vs.toArray}∧u= .frz {cls:= .type "tuple",data:= .seq vs.toArray} (.tup (vs.map D0)))):=by
 obtain⟨hb,hk⟩:=JB q
 obtain⟨vs,h1,h2,h3⟩:=ar b hb
 refine⟨hk,vs,h1,h2,?_⟩
 rcases h3 with e | e
 ·rw [ya hb hk e,CO] at q
  exact .inl ⟨e,(Option.some.inj q).symm⟩
 ·rw [ya hb hk e,CP] at q
  exact .inr ⟨e,(Option.some.inj q).symm⟩
theorem FW (ar:∀a∈A,pC h A a):Cy (jv K h A):=fun b=>by
 cases q:jv K h A b with
 | none=>exact .inl rfl
 | some u=>
  obtain⟨_,vs,_,_,⟨_,e⟩ | ⟨_,e⟩⟩:=ud ar q
  ·exact .inr ⟨_,_,by rw [e]⟩
  ·exact .inr ⟨_,_,by rw [e]⟩
theorem yi {c c':Value} {vs us:List Value} (e:(some {cls:=c,data:= .seq vs.toArray}:Option Obj)=some {cls:=c',data:= .seq us.toArray}):c=c'∧vs=us:=by
 have e1:=Option.some.inj e
 have e2:c=c':=congrArg Obj.cls e1
 have e3:Data.seq vs.toArray=Data.seq us.toArray:=congrArg Obj.data e1
 injection e3 with e4
 refine⟨e2,?_⟩
 have e5:=congrArg Array.toList e4
 simpa using e5
theorem Mo (KX:K.In h) (ar:∀a∈A,pC h A a) {a:Addr} {vs:List Value} (ha:a∈A) (e:h.get? a=some {cls:= .type "list",data:= .seq vs.toArray}):(∀u∈vs,FV A u)∧aX K (jv K h A) a (vs.map D0):=by
 obtain⟨us,h1,h2,h3⟩:=ar a ha
 have hu:us=vs:=by
  rcases h3 with q | q
  ·rw [e] at q
   exact(yi q).2.symm
  ·rw [e] at q
   exact absurd (Value.type.inj (yi q).1) (by decide)
 subst hu
 refine⟨h2,?_⟩
 cases hk:K.lookup a with
 | none=>exact .inl (.inr ⟨_,by rw [ya ha hk e,CO]⟩)
 | some o=>
  have e2:=KX a o hk
  rw [e] at e2
  obtain rfl:=Option.some.inj e2
  exact .inr ⟨_,us.toArray,_,hk,rfl,rfl,rfl,by rw [List.size_toArray];exact h1,by simpa using mM h2⟩
theorem Mp (KX:K.In h) (ar:∀a∈A,pC h A a) {a:Addr} {vs:List Value} (ha:a∈A) (e:h.get? a=some {cls:= .type "tuple",data:= .seq vs.toArray}):(∀u∈vs,FV A u)∧Ea K (jv K h A) a (vs.map D0):=by
 obtain⟨us,h1,h2,h3⟩:=ar a ha
 have hu:us=vs:=by
  rcases h3 with q | q
  ·rw [e] at q
   exact absurd (Value.type.inj (yi q).1) (by decide)
  ·rw [e] at q
   exact(yi q).2.symm
 subst hu
 refine⟨h2,?_⟩
 cases hk:K.lookup a with
 | none=>exact .inl (.inr ⟨_,by rw [ya ha hk e,CP]⟩)
 | some o=>
  have e2:=KX a o hk
  rw [e] at e2
  obtain rfl:=Option.some.inj e2
  exact .inr ⟨_,us.toArray,_,hk,rfl,rfl,by rw [List.size_toArray];exact h1,by simpa using mM h2⟩
mutual
theorem Kx {Pm:Params} (KX:K.In h) (ar:∀a∈A,pC h A a):∀(d:WData) (v:Value),Well Pm h v d→FD d=true→FV A v→Dw K (jv K h A) (D0 v) d
 | .none,_,x,_,_=>by
  cases x
  exact .non
 | .bool b,_,x,_,_=>by
  cases x
  exact .bl b
 | .int i,_,x,_,_=>by
  cases x
  exact .int i
 | .str s,_,x,_,_=>by
  cases x
  exact .str s
 | .bytes b,_,x,_,_=>by
  cases x
  have z:=Dw.byt (K:=K) (H:=jv K h A) b.toArray
  exact z
 | .list ds,_,x,p,hu=>by
  obtain⟨a,vs,rfl,ho,hall⟩:=Bp x
  obtain⟨h2,hs⟩:=Mo KX ar hu ho
  exact .lst hs (Bz KX ar ds _ hall p h2)
 | .tuple ds,_,x,p,hu=>by
  obtain⟨a,vs,rfl,ho,hall⟩:=zX x
  obtain⟨h2,hs⟩:=Mp KX ar hu ho
  exact .tup hs (Bz KX ar ds _ hall p h2)
 | .float _,_,_,p,_=>Bool.noConfusion (show false=true from p)
 | .dict _,_,_,p,_=>Bool.noConfusion (show false=true from p)
 | .bytearray _,_,_,p,_=>Bool.noConfusion (show false=true from p)
 | .set _,_,_,p,_=>Bool.noConfusion (show false=true from p)
 | .frozenset _,_,_,p,_=>Bool.noConfusion (show false=true from p)
 | .obj _ _,_,_,p,_=>Bool.noConfusion (show false=true from p)
theorem Bz {Pm:Params} (KX:K.In h) (ar:∀a∈A,pC h A a):∀(ds:List WData) (vs:List Value),WellAll Pm h vs ds→xG ds=true→(∀u∈vs,FV A u)→pD K (jv K h A) (vs.map D0) ds
 | [],_,x,_,_=>by
  cases x
  exact .nil
 | d::ds,_,x,p,hu=>by
  obtain⟨v,vs,rfl,x1,x2⟩:=Bo x
  have q:FD d=true∧xG ds=true:=Bool.and_eq_true_iff.mp p
  exact .cons (Kx KX ar d v x1 q.1 (hu _ (List.mem_cons_self ..))) (Bz KX ar ds vs x2 q.2 fun u m=>hu u (List.mem_cons_of_mem _ m))
end
end
theorem yI {ds:List WData} (h:WData.layableAll ds=true):∀d∈ds,d.weight≤1048576:=fun d hd=>
 (PySem.W.layableW_iff.mp (List.all_eq_true.mp h d hd)).2.2
theorem yC:∀(cs:List Codec) (a:Codec.denoteAll cs),(Codec.encAll cs a).length=cs.length
 | [],_=>rfl
 | c::cs,a=>by
  show(Codec.encAll cs a.2).length+1=cs.length+1
  rw [yC cs a.2]
end L2
end
section
section
namespace L2
open PySem PySem.Spec PyProof.Rows
section
variable {X:Cx}
theorem aH:yr X (binaryOp .Mult) (rI IntMulOk fun i j=> .int (i*j)):=MA fun _ _ _ _ _ _ _ hc q=>mul_int q hc
def J0 (_ j:Int):Prop:=0<j∧j.natAbs.log2<9000
theorem bV:yr X (binaryOp .FloorDiv) (rI J0 fun i j=> .int (i /j)):=MA fun i j _ _ _ _ _ hc q=>by
 have e:i /j=i.fdiv j:=(Int.fdiv_eq_ediv_of_nonneg i (Int.le_of_lt hc.1)).symm
 rw [e] at q
 exact floordiv_int (Int.ne_of_gt hc.1) q (.inl (PyProof.noPylong_of_log2 hc.2))
theorem jn {e:Expr} {t:TT} (h:PW X e t):PT X e t:=fun pins s σ H Q I q=>h _ pins s σ H Q I q
def LZ (ta:TA):TE:=fun σ H Q=>ta σ H fun vs H1=>∃j:Int,vs= [.int j]∧-(2 ^ 62)≤j∧j<2 ^ 62∧∀p,H1 p=none→Q (.ref p) (bC H1 p (.rng 0 j))
theorem vK {a:Expr} {ta:TA} {p pos:Pos} (hg:Gl X "range") (hm:X.mg "range"=none) (ha:PA X [a] ta) (hs:starEach [a] X.env= [(false,eval a X.env)]:=by rfl):PE X (.Call (.Name "range" p) [a] [] pos) (LZ ta):=by
 intro pins s σ H Q I h
 refine Call_ (sC I hg hm boot_range (PyProof.Rows.callWith_type1 (dn (ha pos pins s σ H _ I h) fun us s1 ⟨vs,H1,I1,r1,q1⟩=> ?_) hs rfl))
 obtain⟨j,e,q1,q2,q⟩:=q1
 subst e
 cases r1 with
 | cons r rr=>
  cases rr
  obtain⟨t,rfl⟩:=r
  refine call_range_1 ?_
  exact⟨.ref s1.heap.objs.size,_,I1.laid (fun b o e=>Heap.get?_push_of_some _ e) (Nat.le_refl _) (show f7 X.prog X.w _ _ _ (.rng 0 j) from⟨_,_,_,Heap.get?_push_size _ rfl⟩),rfl,q _ (I1.hok.fresh (Nat.le_refl _))⟩
theorem qI:∀{xs:List V} {us:List Value},xs.length=us.length→(∀(i:Nat) (x:V) (u:Value),xs[i]?=some x→us[i]?=some u→cj x u)→bw xs us
 | [],[],_,_=> .nil
 | [],_::_,h,_=>by simp at h
 | _::_,[],h,_=>by simp at h
 | x::xs,u::us,h,r=> .cons (r 0 x u rfl rfl) (qI (by simpa using h) fun i y z a b=>r (i+1) y z (by simpa using a) (by simpa using b))
def uI (n:Nat):List V:=(List.range n).map fun i=>V.int (i:Nat)
theorem rM (hc:X.calm=true):oK X (.type "list") (fun xs H Q=>∃(p:Addr) (j:Int),xs= [.ref p]∧H p=some (.rng 0 j)∧j≤1000000∧-1000000≤j∧∀l,H l=none→Q (.ref l) (bC H l (.lst (uI j.toNat)))):=by
 intro pins s σ H xs us Q I r h
 obtain⟨p,j,rfl,hp,h1,h2,q⟩:=h
 obtain⟨u,rfl,rx⟩:=FP r
 cases rx
 obtain⟨t,u,v,e⟩:∃t u v,s.heap.get? p=some {cls:= .type "range",data:= .fields #[.int 0 t,.int j u,.int 1 v]}:=I.hok p _ hp
 refine call_list_range (n:=j.toNat) (I.ok.hd hc) e (small_one (by omega) (by omega) (by omega) (by omega)) (by rw [rangeSize_one];split<;>omega) (by omega) fun h' tk acc' c' kp e' hi=> ?_
 refine⟨.ref s.heap.objs.size,_,I.laid (t':=tk) kp (Nat.le_refl _) (show f7 X.prog X.w _ h' _ (.lst (uI j.toNat)) from⟨?_,acc'.toList,c',?_,by simpa using e'⟩),rfl,q _ (I.hok.fresh (Nat.le_refl _))⟩
 ·unfold uI
  rw [List.length_map,List.length_range]
  show j.toNat≤2 ^ 24
  omega
 ·obtain⟨hsz,hit⟩:=hi
  refine qI (by unfold uI;rw [List.length_map,List.length_range,Array.length_toList,hsz]) fun i x u hx hu=> ?_
  unfold uI at hx
  rw [List.getElem?_map] at hx
  rw [Array.getElem?_toList] at hu
  obtain⟨tk,rfl⟩:=hit i u hu
  have hi:i<j.toNat:=by
   have:=(Array.getElem?_eq_some_iff.mp hu).1
   omega
  rw [List.getElem?_range hi] at hx
  cases hx
  refine⟨tk,?_⟩
  rw [Int.mul_one,Int.zero_add]
def K8 (i:Nat) (Fs:Addr→Sp→Prop) (t:TA):TE:=fun σ H Q=>∃f sp,σ[i]?=some (some (.ref f))∧Fs f sp∧t σ H fun vs H1=>sp vs H1 Q E0
theorem ml {i:Nat} {x:Str} {p pos:Pos} {e:Expr} {es:List Expr} {t:TA} (Fs:Addr→Sp→Prop) (hN:X.N[i]?=some x) (hv:Kp X.env.scope x) (hF:∀f sp,Fs f sp→∃k fd ps,iq X.prog X.w X.K X.mg X.base x8 k f fd ps sp∧du k X.A∧PySem.W.keepIn X.K (.ref f)=true∧gE X.K fd ps [])
  (ha:PA X (e::es) t) (hd:(x==("__debug__":Str))=false:=by decide) (hcd:(x==("__classdict__":Str))=false:=by decide) (he:starEach (e::es) X.env=(false,eval e X.env)::starEach es X.env:=by rfl) (hpl:(backTo pos (starEach es X.env)).any (·.1)=false:=by rfl):
  PE X (.Call (.Name x p) (e::es) [] pos) (K8 i Fs t):=by
 intro pins s σ H Q I h
 obtain⟨f,sp,es1,hf,h⟩:=h
 obtain⟨k,fd,ps,F,hr,hk,hb⟩:=hF f sp hf
 refine wpAny_Call_Name_kw (dn (Ix (i:=i) hN hv hd hcd pins s σ H (fun v H1=>v= .ref f∧H1=H) I ⟨_,es1,rfl,rfl⟩) fun u s0 ⟨v,H0,I0,rv,ev,eH⟩=> ?_)
 subst ev eH
 obtain rfl:u=Value.ref f:=rv
 refine PySem.W.callWith_K (h₀:=X.base) I.ok.mod.kin hk (dn (ha pos pins s0 σ _ _ I0 h) fun us s1 ⟨vs,H1,I1,r,q⟩=>⟨I1.kIn,?_⟩) he hpl
 exact BX (dvs:= []) (ds:= []) F hr hb .nil wU I1 r (by rw [List.append_nil];exact q)
def ML (t u:TE):TE:=fun σ H Q=>t σ H Q∨u σ H Q
theorem sX {e:Expr} {t u:TE} (h1:PE X e t) (h2:PE X e u):PE X e (ML t u):=fun pins s σ H Q I h=>h.elim (h1 pins s σ H Q I) (h2 pins s σ H Q I)
theorem uE {K':PySem.W.Frag} {e:Expr} {ta:TE} {f:Str} {pos:Pos} (he:PE X e ta) (hb:attributeBase e f X.env (eval e X.env)=eval e X.env) (hK:X.K=K'):PE X (.Attribute e f pos) (LT K' ta f):=by
 subst hK
 exact ao he hb
theorem ul {K':PySem.W.Frag} (hK:X.K=K'):Mh X (K2 K'):=by
 subst hK
 exact Fn
theorem IH {K':PySem.W.Frag} (hK:X.K=K'):Ml X (LM K'):=by
 subst hK
 exact yk
theorem yh {K':PySem.W.Frag} {es:List Expr} {k:Nat} {t:J4} {n:Nat} {pos:Pos} (hc:X.calm=true) (h:Ln X es t) (hn:(assignEach es X.env).length=n) (hst:(assignEach es X.env).findIdx? (·.1)=none) (hK:X.K=K'):PG X (.Tuple es k pos) (Lr K' n t):=by
 subst hK
 exact BU hc h hn hst
def LK (K:PySem.W.Frag):V→V→Hp→VK→Prop:=fun o i H Q=>∃p xs k j v,o= .ref p∧i= .int k∧aX K H p xs∧k=((j:Nat):Int)∧xs[j]?=some v∧Q v H
theorem HI:Lm X (LK X.K):=by
 intro pins s σ H o i ov iv Q I ro ri h
 obtain⟨p,xs,k,j,v,rfl,rfl,hq,ek,hv,q⟩:=h
 cases ro
 obtain⟨t,rfl⟩:=ri
 subst ek
 obtain⟨its,r,pl,hz⟩:=I.list hq
 obtain⟨w,ew,rw'⟩:=r.get hv
 have hj:=(List.getElem?_eq_some_iff.mp hv).1
 have hn:=yJ
 exact PyProof.Rows.getItem_listL pl.isList (by omega) (by omega) (by rw [Int.toNat_natCast];exact ew) ⟨v,H,I,rw',q⟩
structure GD (P:Program) (w:World) (K:PySem.W.Frag) (a:Addr) (kvs:List (Int×V)):Prop where
 ne:(a==sysModules)=false
 at_:∀h:Heap,K.In h→∃vs,KV (kvs.map fun p=>((Sum.inl p.1:vo),p.2)) vs∧h.DictOf (jL P w) a vs
def AA (kvs:List (Int×V)) (k:Int):Option V:=(kvs.find? fun kv=>decide (kv.1=k)).map (·.2)
theorem Co (k:Int):∀kvs:List (Int×V),D2 (kvs.map fun p=>((Sum.inl p.1:vo),p.2)) (Sum.inl k)=AA kvs k
 | []=>rfl
 | p::r=>by
  have ih:=Co k r
  unfold D2 AA at ih⊢
  rw [List.map_cons,List.find?_cons,List.find?_cons]
  by_cases e:p.1=k
  ·have e':(Sum.inl p.1:vo)=Sum.inl k:=by rw [e]
   simp only [e,decide_true]
   rfl
  ·have e':¬(Sum.inl p.1:vo)=Sum.inl k:=fun q=>e (Sum.inl.inj q)
   simp only [decide_eq_false e,decide_eq_false e']
   exact ih
def LU (P:Program) (w:World) (K:PySem.W.Frag) (td ty:TE):TE:=fun σ H Q=>td σ H fun x H1=>ty σ H1 fun y H2=>∃a kvs k v,x= .ref a∧GD P w K a kvs∧y= .int k∧AA kvs k=some v∧Q v H2
theorem jN {o i:Expr} {pos:Pos} {td ty:TE} (ho:PE X o td) (hi:PE X i ty) (hs:Ll i:=by exact fun _ _=>rfl):PE X (.Subscript o i pos) (LU X.prog X.w X.K td ty):=by
 intro pins s σ H Q I h
 refine JU PySem.F.slot_dict_getitem.lookup hs (dn (ho pins s σ H _ I h) fun u s1 ⟨x,H1,I1,rx,q1⟩=>dn (hi pins s1 σ H1 _ I1 q1) fun iv s2 ⟨y,H2,I2,ry,a,kvs,k,v,ex,g,ey,l,q2⟩=> ?_)
 subst ex ey
 obtain rfl:u=Value.ref a:=rx
 obtain⟨vs,rel,dd⟩:=g.at_ _ I2.kIn
 have ry':cj (kV (Sum.inl k)) iv:=ry
 obtain⟨w',hw,rw'⟩:=su.some_of (v:=v) (o:=valueAt vs (Sum.inl k)) (by have z:=rel.val (Sum.inl k);rw [Co,l] at z;exact z)
 refine⟨?_,wpAny_getItem_of (J7 ry') dd.mapOf hw ⟨v,H2,I2.tok _,rw',q2⟩⟩
 obtain⟨ob,es,ep,e,c,_⟩:=dd
 exact⟨ob,e,c.1⟩
def La (P:Program) (w:World) (K:PySem.W.Frag) (ty td:TE):TE:=fun σ H Q=>ty σ H fun y H1=>td σ H1 fun x H2=>∃a kvs k,x= .ref a∧GD P w K a kvs∧y= .int k∧Q (.bl (AA kvs k).isSome) H2
theorem Ip {o i:Expr} {td ty:TE} (hi:PE X i ty) (ho:PE X o td):PC X .In i o (La X.prog X.w X.K ty td):=by
 intro pins s σ H Q I h
 refine dn (hi pins s σ H _ I h) fun iv s1 ⟨y,H1,I1,ry,q1⟩=>dn (ho pins s1 σ H1 _ I1 q1) fun u s2 ⟨x,H2,I2,rx,a,kvs,k,ex,g,ey,q2⟩=> ?_
 subst ex ey
 obtain rfl:u=Value.ref a:=rx
 obtain⟨vs,rel,dd⟩:=g.at_ _ I2.kIn
 have ry':cj (kV (Sum.inl k)) iv:=ry
 refine wpAny_in_of (J7 ry') g.ne dd.mapOf ?_
 have z:=(rel.val (Sum.inl k)).isSome_eq
 rw [Co] at z
 rw [←z]
 exact⟨.bl (AA kvs k).isSome,H2,I2.tok _,rfl,q2⟩
theorem EB {o i:Expr} {pos:Pos} {td ty:TE} (hi:PE X i ty) (ho:PE X o td) (hm:behindInMarks .In o=false:=by rfl):PE X (.Compare i [.In] [o] pos) (La X.prog X.w X.K ty td):=KS (Ip hi ho) hm
theorem IA {o i:Expr} {pos:Pos} {td ty:TE} (hi:PE X i ty) (ho:PE X o td) (hm:behindInMarks .In o=false:=by rfl):PT X (.Compare i [.In] [o] pos) (tB (La X.prog X.w X.K ty td)):=KZ (Ip hi ho) hm
end
theorem KL {K:PySem.W.Frag} {a b:Addr} {xs ys:List V} {g:TG} {tt:TT} {te:TE} {vs:List Nat} {σ:St} {H1:Hp} {D:Addr} {Qd:Hp→Prop} (Pv:Nat→Hp→Prop) (h0:Pv 0 (bC H1 D (.lst []))) (he:xs.length=ys.length) (hl:∀i H,i≤xs.length→Pv i H→aX K H a xs∧aX K H b ys)
  (hs:∀i x y H T,xs[i]?=some x→ys[i]?=some y→Pv i H→H T=none→g (.ref T) (gB σ vs) (bC H T (.tup [x,y])) fun σ2 H2=>gB σ2 vs=gB σ vs∧tt σ2 H2 fun b H3=>
   if b=true then te σ2 H3 fun y H4=>∃acc,H4 D=some (.lst acc)∧acc.length<sizeLine∧Pv (i+1) (bC H4 D (.lst (acc++ [y]))) else Pv (i+1) H3) (hd:∀H,Pv xs.length H→Qd H):
  ∃W:Nat→Nat→Hp→Prop,(∃m,W 0 m (bC H1 D (.lst [])))∧∀i m H,W i m H→
   ((Lk K a b).stop i H∧Qd H)∨((Lk K a b).go i H∧∃Nx:Hp→Prop,(∀H',Nx H'→∃m',m'<m∧W (i+1) m' H')∧∀x H',(Lk K a b).yld i H x H'→g x (gB σ vs) H' fun σ2 H2=>gB σ2 vs=gB σ vs∧tt σ2 H2 fun b H3=>
     if b=true then te σ2 H3 fun y H4=>∃acc,H4 D=some (.lst acc)∧acc.length<sizeLine∧Nx (bC H4 D (.lst (acc++ [y]))) else Nx H3):=by
 refine⟨fun i m H=>m=xs.length - i∧i≤xs.length∧Pv i H,⟨xs.length,by simp,Nat.zero_le _,h0⟩,?_⟩
 rintro i m H ⟨rfl,hi,p⟩
 obtain⟨qa,qb⟩:=hl i H hi p
 by_cases hlt:i<xs.length
 ·have hlt2:i<ys.length:=by omega
  refine .inr ⟨⟨xs,ys,xs[i],ys[i],qa,qb,by simp [hlt],by simp [hlt2]⟩,Pv (i+1),fun H' p'=>⟨xs.length - (i+1),by omega,rfl,hlt,p'⟩,fun v H' hy=> ?_⟩
  obtain⟨T,x,y,rfl,hT,rfl,h1,h2⟩:=hy
  exact hs i x y H T (h1 xs qa) (h2 ys qb) p hT
 ·have e:i=xs.length:=by omega
  subst e
  exact .inl ⟨⟨xs,ys,qa,qb,.inl (Nat.le_refl _)⟩,hd H p⟩
end L2
end
end
section
namespace L2
open PySem PySem.Spec PySem.Calls PyProof.Rows
section
variable {P:Program} {w:World} {A:Around} {E:Value→Shared→Prop} {s:Shared} {H:Hp} {K:PySem.W.Frag}
theorem HQ {Q:Value→Shared→Prop} {f c' cc a r C dx:Addr} {name qual x y g:Str} {pm ctv:Value} {cl:List (Str×Addr)} {p1 p2 p3 p4 p5:Pos} {xs:List V} {i:Nat} {t0:Tok} {k:Int} {fs:List (Str×V)} {scope:Scope}
  (KX:K.In s.heap) (hok:sr P w H s.heap) (lim:s.heap.NoLimit) (hroom:A.depth<recursionLimit)
  (ho:s.heap.get? f=some (PySem.W.kla_obj name qual {posonlyargs:= [],args:= [{arg:=y,annotation:=none,pos:=p1}],vararg:=none,kwonlyargs:= [],kw_defaults:= [],kwarg:=none,defaults:= []} (.Attribute (.Subscript (.Name x p2) (.Name y p3) p4) g p5) scope cl pm c' ctv))
  (hb:bindArgs (PySem.W.kla_fn name qual {posonlyargs:= [],args:= [{arg:=y,annotation:=none,pos:=p1}],vararg:=none,kwonlyargs:= [],kw_defaults:= [],kwarg:=none,defaults:= []} (.Attribute (.Subscript (.Name x p2) (.Name y p3) p4) g p5) scope cl pm (.ref c') ctv) ⟨[.int i t0],[]⟩=pure [(y,.int i t0)])
  (hs1:scope.isCoroutine=false) (hs2:scope.isGenerator=false) (hs3:scope.kind= .function) (hs4:∀q∈scope.names,q.2≠ .cell) (hs5:scope.names.lookup y=some .local) (hs6:scope.names.lookup x=some .free)
  (hx1:(x==("__debug__":Str))=false) (hx2:(x==("__classdict__":Str))=false) (hy1:(y==("__debug__":Str))=false)
  (hcd:s.heap.CodeRec (.ref c') qual) (hcl:cl.lookup x=some cc) (hcell:s.heap.IsCell cc (some (.ref a)))
  (ha:H a=some (.lst xs)) (hi:xs[i]?=some (.ref r)) (hr:H r=some (.ins C dx fs)) (c:D8 K C) (n:iM K C g) (l:fs.lookup g=some (.int k))
  (h:∀h' tk t,(∀b o,s.heap.get? b=some o→h'.get? b=some o)→Q (.int k t) {s with heap:=h',toks:=tk}):
  wpAny (model P w) A (call (.ref f) [.int i t0]) Q E s:=by
 refine wpAny_call (PySem.W.kla_callFunE hroom ho rfl hs1 hs2 rfl hcd ?_)
 rw [hb]
 refine wpAny_pure (wpAny_newFunctionEnv hs4 (fun q hq=> ?_) (fun h₁ hns hsb=>⟨lim.fresh _ hsb,?_⟩) hs3)
 ·rw [List.mem_singleton.mp hq];exact hs5
 have hk₁:∀b o,s.heap.get? b=some o→h₁.get? b=some o:=fun b o e=>hsb.extBut b o (Nat.ne_of_lt (Heap.lt_size e)) (Heap.get?_push_of_some _ e)
 show codeAny _ _ (.expr _ (PySem.W.envX qual scope s.heap.objs.size f (.ref c') cl)) _ _
 refine PySem.W.kla_codeExpr ?_
 have hok1:sr P w H h₁:=hok.kept hk₁
 have KX1:K.In h₁:=KX.keeps hk₁
 obtain⟨hlen,its,nn,rv,hit⟩:=hok1 a _ ha
 obtain⟨u,hu,ru⟩:=rv.get hi
 obtain rfl:u=Value.ref r:=ru
 refine Fa rfl (Subscript_ ?_)
 refine wpAny_Name (wpAny_loadName_free hs3 hs6 hcl (hcell.keeps hk₁) ?_ hx2) hx1
 refine wpAny_Name (wpAny_loadName_local hs3 hs5 hns (show List.lookup y [(y,Value.int (i:Int) t0)]=_ from by rw [List.lookup_cons_self]) ?_) hy1
 have pl:h₁.IsList a its.toArray:=⟨_,hit,rfl,nn,rfl⟩
 refine item_listR (x:= .ref r) pl (by omega) (by have q1:=(List.getElem?_eq_some_iff.mp hi).1;have q2:=yJ;omega) (by simpa using hu) ?_ rfl
 obtain⟨mA,O,rr,_,_,_⟩:=ye hok1 hr
 obtain⟨u2,hu2,ru2⟩:=su.some_of (v:= .int k) (o:=mA g) (by rw [←l];exact rr g)
 obtain⟨t2,rfl⟩:=ru2
 exact Fi KX1 O (c.get g) c.hd n hu2 (AT (v:= .int k) ⟨t2,rfl⟩) (h _ _ _ hk₁)
theorem Af {r:Addr} {a b c:Int} {t u v:Tok} {n:Nat} {Q:List Value→Shared→Prop} (hh:A.handled=none) (hr:IsRange s.heap r a b c t u v) (hsmall:Builtin.Range.small a b c=true)
  (hn:Builtin.Range.rangeSize a b c=n) (hlen:n≤2 ^ 24)
  (h:∀h' tk acc',(∀b o,s.heap.get? b=some o→h'.get? b=some o)→s.heap.objs.size≤h'.objs.size→ItemsOf (fun i v=>∃t,v= .int (a+i*c) t) acc' n→Q acc'.toList {s with heap:=h',toks:=tk}):
  wpAny (model P w) A (collect (.ref r)) Q E s:=by
 have key:∀R:Result→Shared→Prop,(∀h' tk acc' c',(∀b o,s.heap.get? b=some o→h'.get? b=some o)→h'.get? s.heap.objs.size=some {cls:= .type "list",dict:=none,data:= .seq acc' c',slots:=#[]}→ItemsOf (fun i v=>∃t,v= .int (a+i*c) t) acc' n→R (.ok (.ret (.ref s.heap.objs.size))) {s with heap:=h',toks:=tk})→
   codeAny (model P w) A (.builtin "proto.collect" ⟨[.ref r],[]⟩) R s:=fun R hR=>by
  refine codeAny_builtin PySem.F.entry_proto_collect ?_
  rw [Around.under_plainId PySem.F.plain_proto_collect _]
  show wpAny _ A.in1 (newList []>>=fun l=>again (.builtin "list.__iadd__" ⟨[l,.ref r],[]⟩)) _ _ s
  refine wpAny_bind (wpAny_newObj_type ?_)
  refine wpAny_pure ⟨plainId_quiet PySem.F.plain_list_iadd _,codeAny_builtin PySem.F.entry_list_iadd ?_⟩
  rw [Around.under_plainId PySem.F.plain_list_iadd _]
  show wpAny _ A.in1 (Builtin.List.listExtendWith (.ref s.heap.objs.size) (.ref r) (.ref s.heap.objs.size)) _ _ _
  have e1:(s.heap.push {cls:= .type "list",data:= .seq ([]:List Value).toArray}).get? s.heap.objs.size=some {cls:= .type "list",data:= .seq #[] 0}:=Heap.get?_push_size _ rfl
  have e2:IsRange (s.heap.push {cls:= .type "list",data:= .seq ([]:List Value).toArray}) r a b c t u v:=Heap.get?_push_of_some _ hr
  refine wpAny_extend_range (R:=R) (A:=A) (s:={s with heap:=s.heap.push {cls:= .type "list",data:= .seq ([]:List Value).toArray}}) hh e2 hsmall hn hlen s.heap.objs.size _ 0 e1 fun h' tk acc' c' hk hS' hacc=> ?_
  exact hR h' tk acc' c' (fun b o e=>hk b o (Nat.ne_of_lt (Heap.lt_size e)) (Heap.get?_push_of_some _ e)) hS' hacc
 unfold collect
 refine wpAny_bind (wpAny_runValue (key _ fun h' tk acc' c' hk hS' hacc=> ?_))
 show wpAny _ A (load s.heap.objs.size>>=_) _ _ _
 refine wpAny_bind (wpAny_load hS' ?_)
 exact wpAny_pure (h h' tk acc' hk (Nat.le_of_lt (Heap.lt_size hS')) hacc)
theorem xN {h₀:Heap} {L:Addr} {m:Str→Option Value} {news:List (Addr×Obj)} {r:Addr} {hi:Int} {t u v:Tok} {n:Nat} {kz:List Int} {f:Value} {kw:List (Str×Value)} {Q:Value→Shared→Prop} (F:Fr h₀ L s.heap m) (N:News h₀ L s.heap news)
  (hh:A.handled=none) (hr:IsRange s.heap r 0 hi 1 t u v) (hsmall:Builtin.Range.small 0 hi 1=true) (hn:Builtin.Range.rangeSize 0 hi 1=n) (hlen:n≤2 ^ 24) (hkz:kz.length=n)
  (ha1:argsOk "sorted" ⟨[.ref r],kw⟩) (ha2:∀x,argsOk "list.sort" ⟨[.ref x],kw⟩) (ht:∀x,Builtin.«list.sort» ⟨[.ref x],kw⟩=ksk_tree x f false)
  (turn:∀(i:Nat) (t:Tok) (k:Int),kz[i]?=some k→∀(h:Heap) (tk:Nat) (own:List (Addr×Obj)),Fr h₀ L h m→News h₀ L h (news++own)→
   wpAny (model P w) A.in1.in1 (call f [.int i t]) (KskEnd h₀ L m (news++own) k {s with heap:=h,toks:=tk}) (fun _ _=>False) {s with heap:=h,toks:=tk})
  (h:∀D h' tk out c,Fr h₀ L h' m→News h₀ L h' ((D,seqObj "list" out c)::news)→s.heap.objs.size≤D→(∃vs:List Value,vs.length=n∧(∀(i:Nat) v,vs[i]?=some v→∃t,v= .int (i:Int) t)∧KskOut false kz vs out.toList)→Q (.ref D) {s with heap:=h',toks:=tk}):
  wpAny (model P w) A (call (.builtin "sorted") [.ref r] kw) Q E s:=by
 refine call_function_entry_kw kind_sorted plain_sorted entry_sorted ha1 ?_
 unfold Builtin.«sorted»
 refine wpAny_bind (m:=checkCount "sorted" 1 1 _) (wpAny_pure ?_)
 refine wpAny_bind (Af (A:=A.in1) hh hr hsmall hn hlen fun h1 tk1 acc hk hsz hacc=> ?_)
 have hl:acc.toList.length=n:=by rw [Array.length_toList];exact hacc.1
 have hZ:acc.toList.length≤sizeLine:=by rw [hl,sizeLine_eq];omega
 have hZ2:=hZ
 rw [sizeLine_eq] at hZ2
 refine wpAny_bind (wpAny_newList ?_ (by rw [sizeLine_eq];omega))
 have hoL:(h1.push (seqObj "list" acc.toList.toArray 0)).get? h1.objs.size=some (seqObj "list" acc.toList.toArray 0):=Heap.get?_push_size _ rfl
 have keep:∀b o,s.heap.get? b=some o→(h1.push (seqObj "list" acc.toList.toArray 0)).get? b=some o:=fun b o q=>Heap.get?_push_of_some _ (hk b o q)
 have F1:=F.kept hk
 have hL:L<h1.objs.size:=F1.ns.lt
 refine wpAny_bind (wpAny_holding (wpAny_call_entry_kw slot_list_sort ⟨_,hoL,rfl⟩ entry_list_sort ?body (ha2 _)))
 case body=>
  show wpAny (model P w) A.in1.in1 (Builtin.«list.sort» ⟨[.ref h1.objs.size],kw⟩) _ _ _
  rw [ht h1.objs.size]
  refine ksk_sortAny (kz:=kz) (vs:=acc.toList) (s:={s with heap:=h1.push (seqObj "list" acc.toList.toArray 0),toks:=tk1})
   (F.kept keep) (N.grown keep) hoL (Nat.ne_of_gt hL) (Heap.get?_none_of_le (Nat.le_trans F.above (Nat.le_of_lt hL)))
   (fun p hp=>Nat.ne_of_lt (Nat.lt_of_lt_of_le (Heap.lt_size (N p hp).1) hsz)) (by rw [hl];exact hkz) hZ (fun i v k hv hkk h' tk own F' N'=> ?_) fun h' tk out c F' N' k'=>⟨_,rfl,?_⟩
  ·obtain⟨t,e⟩:=hacc.2 i v (by simpa using hv)
   have e':v= .int (i:Int) t:=by rw [e];congr 1;omega
   rw [e']
   exact turn i t k hkk h' tk own F' N'
  ·refine wpAny_pure ⟨_,rfl,h _ h' tk out c F' N' hsz ⟨acc.toList,hl,fun i v hv=> ?_,k'⟩⟩
   obtain⟨t,e⟩:=hacc.2 i v (by simpa using hv)
   exact⟨t,by rw [e];congr 1;omega⟩
end
end L2
end
section
namespace L2
open PySem PySem.Spec PySem.Calls PyProof.Rows
section
variable {X:Cx} {pins:List (Addr×Obj)} {σ:St} {H:Hp} {s:Shared}
def Mb (q:Str) (ln cl:Int) (Pl:Addr) (H:Hp):Prop:=H Pl=some (.tbl #[])∨∃c':Addr,H Pl=some (.tbl #[rawInt ln,rawInt cl,.ref c'])∧H c'=some (.ext fun h=>h.CodeRec (.ref c') q)
def Ac (K:PySem.W.Frag) (mg:Str→Option Value) (Pl:Addr) (H:Hp):Prop:=(∀h:Heap,K.In h→h.BuiltinsAt mg Pl)∨∃bm:Addr,mg "__builtins__"=some (.ref bm)∧bm≠builtinsNs∧bm≠mainGlobals∧bm≠Pl∧∃o:Obj,o.cls= .type "module"∧o.dict=some builtinsNs∧o.data= .plain∧H bm=some (.frz o (.ext fun _=>True))
theorem Ac.get {K:PySem.W.Frag} {mg:Str→Option Value} {Pl:Addr} {H:Hp} {P:Program} {w:World} {h:Heap} (x:Ac K mg Pl H) (k:K.In h) (ok:sr P w H h):h.BuiltinsAt mg Pl:=by
 rcases x with x | ⟨bm,e1,e2,e3,e4,o,f2,f3,f4,e5⟩
 ·exact x h k
 ·obtain⟨f1,_⟩:=ok bm _ e5
  exact⟨bm,o,e1,e2,e3,e4,f1,f2,f3,f4⟩
theorem Ac.keep {K:PySem.W.Frag} {mg:Str→Option Value} {Pl:Addr} {H H':Hp} (x:Ac K mg Pl H) (k:∀b o u,H b=some (.frz o u)→H' b=some (.frz o u)):Ac K mg Pl H':=by
 rcases x with x | ⟨bm,e1,e2,e3,e4,o,f2,f3,f4,e5⟩
 ·exact .inl x
 ·exact .inr ⟨bm,e1,e2,e3,e4,o,f2,f3,f4,k _ _ _ e5⟩
theorem j7 {q:Str} {c':Addr} {h1 h2:Heap} (x:h1.CodeRec (.ref c') q) (k:∀o,h1.get? c'=some o→h2.get? c'=some o):h2.CodeRec (.ref c') q:=by
 obtain⟨c,o,vs,t,e,ho,hd,hv⟩:=x
 cases e
 exact⟨c',o,vs,t,rfl,k o ho,hd,hv⟩
theorem KK {E:Value→Shared→Prop} {c Pl:Addr} {q:Str} {params:Arguments} {body:Expr} {scope:Scope} {pos:Pos} {clos:List (Str×Addr)} {Q:Value→Shared→Prop} (I:a8 X pins σ H s)
  (hcode:X.env.code= .ref c) (hC:∀h,X.K.In h→PySem.W.CodeHd h c Pl) (hbm:s.heap.BuiltinsAt X.mg Pl) (hq:X.env.qual++"<lambda>"=q) (hdef:defaultsOf params X.env=([],[])) (hcl:closureFor scope X.env=pure clos)
  (tb:Mb q pos.line pos.col Pl H)
  (h:∀(f c':Addr) (ctv:Value) (H':Hp) (s':Shared),a8 X pins σ H' s'→s'.heap.get? f=some (PySem.W.kla_obj "<lambda>" q params body scope clos ((X.mg "__name__").getD .none) c' ctv)→s'.heap.CodeRec (.ref c') q→
   (∀b o,H b=some o→b≠Pl→H' b=some o)→Mb q pos.line pos.col Pl H'→(∀b o,s.heap.get? b=some o→b≠Pl→s'.heap.get? b=some o)→Q (.ref f) s'):
  wpAny (model X.prog X.w) X.A (eval (.Lambda params body scope pos) X.env) Q E s:=by
 subst hq
 refine PySem.W.kla_eval hdef ?_
 have hg:s.heap.Ns mainGlobals X.mg:=I.mod.glob.keeps I.bk
 rcases tb with tb | ⟨c',tb,tc⟩
 ·have hP:s.heap.get? Pl=some (PySem.W.tabObj #[]):=I.hok Pl _ tb
  have hgP:mainGlobals≠Pl:=fun z=>by
   obtain⟨o,es,ep,ho,_⟩:=I.mod.glob
   have:=(I.bs _ _ ho).2
   rw [z,tb] at this
   cases this
  refine PySem.W.kla_makeFunction (mg:=X.mg) hcl I.ok.glob hg hcode (hC _ I.kIn) hP trivial rfl hgP hbm fun c' ctv h' tk hx hge hlt hrec htb=> ?_
  have nc:H c'=none:=I.hok.fresh hge
  have hPc:Pl≠c':=fun z=>by rw [z,nc] at tb;cases tb
  have hx2:∀b o,b≠Pl→s.heap.get? b=some o→(h'.push (PySem.W.kla_obj "<lambda>" (X.env.qual++"<lambda>") params body scope clos ((X.mg "__name__").getD .none) c' ctv)).get? b=some o:=fun b o hb e=>Heap.get?_push_of_some _ (hx b o hb e)
  have e1:(#[]:Array Value)++#[rawInt pos.line,rawInt pos.col,.ref c']=#[rawInt pos.line,rawInt pos.col,.ref c']:=rfl
  rw [e1] at htb
  have eP:bC (bC H Pl (.tbl #[rawInt pos.line,rawInt pos.col,.ref c'])) c' (.ext fun h=>h.CodeRec (.ref c') (X.env.qual++"<lambda>")) Pl=some (.tbl #[rawInt pos.line,rawInt pos.col,.ref c']):=by rw [ak hPc,af]
  have old:∀b o,H b=some o→b≠Pl→bC (bC H Pl (.tbl #[rawInt pos.line,rawInt pos.col,.ref c'])) c' (.ext fun h=>h.CodeRec (.ref c') (X.env.qual++"<lambda>")) b=some o:=fun b o e hb=>by
   rw [ak (aw e nc),ak hb];exact e
  have nP:∀b o,H b=some o→o≠ .tbl #[]→b≠Pl:=fun b o e hn z=>by rw [z,tb] at e;exact hn (Option.some.inj e).symm
  have nN:∀b,H b=none→b≠Pl:=fun b n z=>by rw [z,tb] at n;cases n
  refine h h'.objs.size c' ctv _ _ (I.un (h':=h'.push (PySem.W.kla_obj "<lambda>" (X.env.qual++"<lambda>") params body scope clos ((X.mg "__name__").getD .none) c' ctv)) (t':=tk) ⟨fun b o e n _ _=>hx2 b o (nN b n) e,fun b o e n _ _=>⟨o.slots,hx2 b o (nN b n) e⟩,fun b o e n _=> ?_,fun b o e _=> ?_,fun b xs e=>old _ _ e (nP _ _ e (by intro z;cases z)),fun b o u e=>old _ _ e (nP _ _ e (by intro z;cases z)),fun b ps e=> ?_⟩ (fun b u e=> ?_))
   (Heap.get?_push_size _ rfl) (j7 hrec fun o e=>Heap.get?_push_of_some _ e) old (.inr ⟨c',eP,af⟩) fun b o e hb=>hx2 b o hb e
  ·rw [ak (Nat.ne_of_lt (Nat.lt_of_lt_of_le (Heap.lt_size e) hge)),ak (nN b n)];exact n
  ·by_cases hb:b=Pl
   ·subst hb;exact⟨_,Heap.get?_push_of_some _ htb⟩
   ·exact⟨o,hx2 b o hb e⟩
  ·by_cases hb:b=Pl
   ·subst hb
    rw [tb] at e
    cases e
    exact⟨#[rawInt pos.line,rawInt pos.col,.ref c'],eP⟩
   ·exact⟨#[],by rw [old _ _ e hb];simp⟩
  ·by_cases hb:b=c'
   ·subst hb
    rw [af] at e
    cases e
    exact⟨j7 hrec fun o e=>Heap.get?_push_of_some _ e,let ⟨_,o,_,_,e0,ho,_⟩:=hrec;⟨o,by cases e0;exact Heap.get?_push_of_some _ ho⟩,fun h1 h2 a k=>j7 a k⟩
   ·rw [ak hb] at e
    by_cases hb2:b=Pl
    ·subst hb2
     rw [af] at e
     cases e
     exact Heap.get?_push_of_some _ htb
    ·rw [ak hb2] at e
     refine(I.hok b u e).stay (fun d v hd r=>hx2 d v ?_ r) (fun d r=>old _ _ r (nP _ _ r (by intro z;cases z))) fun d xs r=>old _ _ r (nP _ _ r (by intro z;cases z))
     rcases hd with rfl | hd
     ·exact hb2
     ·exact nP _ _ hd (by intro z;cases z)
 ·have hP:s.heap.get? Pl=some (PySem.W.tabObj #[rawInt pos.line,rawInt pos.col,.ref c']):=I.hok Pl _ tb
  have hrec:s.heap.CodeRec (.ref c') (X.env.qual++"<lambda>"):=(I.hok c' _ tc).1
  have hf:codeAmong pos (#[rawInt pos.line,rawInt pos.col,.ref c']:Array Value).toList=some (.ref c'):=by
   show(if ((pos.line:Int)==pos.line && (pos.col:Int)==pos.col)=true then some (Value.ref c') else _)=_
   rw [if_pos (by simp)]
  refine PySem.W.kla_makeFunctionHit (mg:=X.mg) hcl I.ok.glob hg hcode (hC _ I.kIn) hP trivial hf hbm fun ctv h' tk hk hsz=> ?_
  exact h h'.objs.size c' ctv H _ (I.kept (h':=h'.push _) (t':=tk) fun b u e=>Heap.get?_push_of_some _ (hk b u e)) (Heap.get?_push_size _ rfl) (j7 hrec fun o e=>Heap.get?_push_of_some _ (hk _ _ e)) (fun b o e _=>e) (.inr ⟨c',tb,tc⟩) fun b o e _=>Heap.get?_push_of_some _ (hk b o e)
end
end L2
end
section
namespace L2
open PySem PySem.Spec PySem.Calls PyProof.Rows
section
variable {X:Cx} {pins:List (Addr×Obj)} {σ:St} {H:Hp} {s:Shared}
def Bv (h:Heap) (L:Addr):List (Addr×Obj):=(List.range h.objs.size).filterMap fun a=>if a=L then none else(h.get? a).map fun o=>(a,o)
theorem m9 {h:Heap} {L a:Addr} {o:Obj}:(a,o)∈Bv h L↔h.get? a=some o∧a≠L:=by
 unfold Bv
 rw [List.mem_filterMap]
 constructor
 ·rintro⟨b,hb,e⟩
  by_cases q:b=L
  ·rw [if_pos q] at e;cases e
  ·rw [if_neg q] at e
   obtain⟨o',e1,e2⟩:=Option.map_eq_some_iff.mp e
   cases e2
   exact⟨e1,q⟩
 ·rintro⟨e,q⟩
  exact⟨a,List.mem_range.mpr (Heap.lt_size e),by rw [if_neg q,e];rfl⟩
theorem AU (a:Addr):({}:Heap).get? a=none:=Heap.get?_none_of_le (Nat.zero_le _)
theorem Nc {h:Heap} {L:Addr} {m:Str→Option Value} (hn:h.Ns L m):Fr {} L h m:=⟨hn,fun b o e=>(nomatch (AU b).symm.trans e),Nat.zero_le _⟩
theorem LJ (h:Heap) (L:Addr):News {} L h (Bv h L):=fun⟨a,o⟩ hp=>⟨(m9.mp hp).1,(m9.mp hp).2,AU _⟩
theorem Fy {h:Heap} {a:Addr} {m m':Str→Option Value} (x:h.Ns a m) (y:h.Ns a m'):m=m':=by
 obtain⟨o,es,ep,e1,e2,_,e3⟩:=x
 obtain⟨o',es',ep',f1,f2,_,f3⟩:=y
 rw [e1] at f1
 cases f1
 rw [e2] at f2
 cases f2
 funext n
 rw [←e3,f3]
theorem a8.moved {h':Heap} {tk:Nat} {m:Str→Option Value} (I:a8 X pins σ H s) (hn:s.heap.Ns X.env.locals m) (hn':h'.Ns X.env.locals m) (k:∀b o,b≠X.env.locals→s.heap.get? b=some o→h'.get? b=some o):
  a8 X pins σ H {s with heap:=h',toks:=tk}:=by
 have nL:∀b u,H b=some u→b≠X.env.locals:=fun b u e z=>by rw [z,I.free] at e;cases e
 refine I.step (g':=s.gens) (d':=s.drawn) (ch:= []) (fun _ z=>nomatch z) (fun b o hb _ _ e _=>k b o hb e) (fun b o hb _ _ e _=>⟨o.slots,k b o hb e⟩) (fun _ _ _ _ n=>n) (fun b o _ e=> ?_) (fun _ _ e=>e) (fun _ _ _ e=>e) (fun b ps e=>⟨#[],by rw [e];simp⟩) (fun m' hm=>by rw [Fy hm hn];exact hn') (fun b u e=> ?_) I.bare
 ·by_cases hb:b=X.env.locals
  ·subst hb
   obtain⟨o',_,_,ho',_⟩:=hn'
   exact⟨o',ho'⟩
  ·exact⟨o,k b o hb e⟩
 ·refine(I.hok b u e).stay (fun c v hc q=>k c v ?_ q) (fun _ q=>q) fun _ _ q=>q
  rcases hc with z | z
  ·rw [z];exact nL b u e
  ·exact nL c _ z
theorem a8.movedLaid {h':Heap} {tk:Nat} {m:Str→Option Value} {D:Addr} {o:HO} (I:a8 X pins σ H s) (hn:s.heap.Ns X.env.locals m) (hn':h'.Ns X.env.locals m) (k:∀b o,b≠X.env.locals→s.heap.get? b=some o→h'.get? b=some o)
  (hD:s.heap.objs.size≤D) (new:f7 X.prog X.w (bC H D o) h' D o):a8 X pins σ (bC H D o) {s with heap:=h',toks:=tk}:=by
 have nD:H D=none:=I.hok.fresh hD
 have nL:∀b u,H b=some u→b≠X.env.locals:=fun b u e z=>by rw [z,I.free] at e;cases e
 have old:∀b u,H b=some u→bC H D o b=some u:=fun b u e=>by rw [ak (aw e nD)];exact e
 refine I.step (g':=s.gens) (d':=s.drawn) (ch:= []) (fun _ z=>nomatch z) (fun b o hb _ _ e _=>k b o hb e) (fun b o hb _ _ e _=>⟨o.slots,k b o hb e⟩) (fun b o _ e n=> ?_) (fun b o _ e=> ?_) (fun _ _ e=>old _ _ e) (fun _ _ _ e=>old _ _ e) (fun b ps e=>⟨#[],by rw [old _ _ e];simp⟩) (fun m' hm=>by rw [Fy hm hn];exact hn') (fun b u e=> ?_) I.bare
 ·rw [ak (Nat.ne_of_lt (Nat.lt_of_lt_of_le (Heap.lt_size e) hD))];exact n
 ·by_cases hb:b=X.env.locals
  ·subst hb
   obtain⟨o',_,_,ho',_⟩:=hn'
   exact⟨o',ho'⟩
  ·exact⟨o,k b o hb e⟩
 ·by_cases hb:b=D
  ·subst hb
   rw [af] at e
   cases e
   exact new
  ·rw [ak hb] at e
   refine(I.hok b u e).stay (fun c v hc q=>k c v ?_ q) (fun _ q=>old _ _ q) fun _ _ q=>old _ _ q
   rcases hc with z | z
   ·rw [z];exact nL b u e
   ·exact nL c _ z
theorem Im {n:Nat} {kz:List Int} {vs out:List Value} (hk:kz.length=n) (hv:vs.length=n) (hi:∀(i:Nat) v,vs[i]?=some v→∃t,v= .int (i:Int) t) (ko:KskOut false kz vs out):
  ∃js:List Nat,bw (js.map fun j:Nat=>V.int (j:Int)) out∧js.Perm (List.range n)∧js.Pairwise fun i j=>kz.getD i 0≤kz.getD j 0:=by
 obtain⟨ps,hp,ho,hs⟩:=ko
 have key:∀p∈kz.zip vs,∃(i:Nat) (t:Tok),p.2= .int (i:Int) t∧kz.getD i 0=p.1:=fun p hp=>by
  obtain⟨i,hi1⟩:=List.getElem?_of_mem hp
  rw [List.getElem?_zip_eq_some] at hi1
  obtain⟨t,e⟩:=hi i _ hi1.2
  exact⟨i,t,e,by rw [List.getD_eq_getElem?_getD,hi1.1];rfl⟩
 refine⟨ps.map fun p=>(numOf p.2).toNat,?_,?_,?_⟩
 ·rw [ho]
  refine qI (by simp) fun i x u h1 h2=> ?_
  rw [List.getElem?_map,List.getElem?_map] at h1
  rw [List.getElem?_map] at h2
  obtain⟨p,e1,e2⟩:=Option.map_eq_some_iff.mp h2
  rw [e1] at h1
  obtain⟨j,t,e3,_⟩:=key p (hp.mem_iff.mp (List.mem_of_getElem? e1))
  have h1':x=V.int (((numOf p.2).toNat:Nat):Int):=(Option.some.inj h1).symm
  rw [h1',←e2,e3]
  exact⟨t,rfl⟩
 ·refine(hp.map _).trans (List.Perm.of_eq ?_)
  refine List.ext_getElem? fun i=> ?_
  rw [List.getElem?_map]
  rcases Nat.lt_or_ge i n with q | q
  ·have e1:vs[i]?=some vs[i]:=List.getElem?_eq_getElem (by omega)
   have e2:kz[i]?=some kz[i]:=List.getElem?_eq_getElem (by omega)
   obtain⟨t,e3⟩:=hi i _ e1
   have e4:(kz.zip vs)[i]?=some (kz[i],vs[i]):=List.getElem?_zip_eq_some.mpr ⟨e2,e1⟩
   rw [e4,List.getElem?_range q]
   show some (numOf vs[i]).toNat=some i
   rw [e3]
   rfl
  ·rw [List.getElem?_eq_none (by rw [List.length_zip];omega),List.getElem?_eq_none (by rw [List.length_range];exact q)]
   rfl
 ·rw [List.pairwise_map]
  refine hs.imp_of_mem fun {p q} hp' hq' hr=> ?_
  have hr':p.1≤q.1:=hr
  obtain⟨i,t,e1,e2⟩:=key p (hp.mem_iff.mp hp')
  obtain⟨j,u,f1,f2⟩:=key q (hp.mem_iff.mp hq')
  rw [e1,f1]
  show kz.getD i 0≤kz.getD j 0
  rw [e2,f2]
  exact hr'
def IN (X:Cx) (ta:TA) (i:Nat) (g q:Str) (ln cl:Int):TE:=fun σ H Q=>ta σ H fun vs H1=>∃(rg a Pl c:Addr) (n:Nat) (xs:List V) (kz:List Int),vs= [.ref rg]∧H1 rg=some (.rng 0 n)∧n≤1000000∧σ[i]?=some (some (.ref a))∧H1 a=some (.lst xs)∧kz.length=n∧
 (∀(j:Nat) k,kz[j]?=some k→∃r C dx fs,xs[j]?=some (.ref r)∧H1 r=some (.ins C dx fs)∧D8 X.K C∧iM X.K C g∧fs.lookup g=some (.int k))∧
 X.env.code= .ref c∧(∀h,X.K.In h→PySem.W.CodeHd h c Pl)∧Ac X.K X.mg Pl H1∧Mb q ln cl Pl H1∧
 ∀(H':Hp) (D:Addr) (js:List Nat),(∀b o,H1 b=some o→b≠Pl→H' b=some o)→Mb q ln cl Pl H'→H' D=none→js.Perm (List.range n)→js.Pairwise (fun u v=>kz.getD u 0≤kz.getD v 0)→Q (.ref D) (bC H' D (.lst (js.map fun j:Nat=>V.int (j:Int))))
theorem EC {e:Expr} {ta:TA} {i:Nat} {x y g q:Str} {p pos lp p1 p2 p3 p4 p5 kp:Pos} {scope:Scope} {clos:List (Str×Addr)} {k:Nat} (hr:du k X.A) (hg:Gl X "sorted") (hm:X.mg "sorted"=none) (ha:PA X [e] ta) (hN:X.N[i]?=some x)
  (hcx:X.env.scope.names.lookup x=some .cell) (hq:X.env.qual++"<lambda>"=q) (hcl:closureFor scope X.env=pure clos) (hlx:clos.lookup x=X.env.cells.lookup x)
  (hb:∀(pm ctv v:Value) (c':Addr),bindArgs (PySem.W.kla_fn "<lambda>" q {posonlyargs:= [],args:= [{arg:=y,annotation:=none,pos:=p1}],vararg:=none,kwonlyargs:= [],kw_defaults:= [],kwarg:=none,defaults:= []} (.Attribute (.Subscript (.Name x p2) (.Name y p3) p4) g p5) scope clos pm (.ref c') ctv) ⟨[v],[]⟩=pure [(y,v)])
  (hs1:scope.isCoroutine=false) (hs2:scope.isGenerator=false) (hs3:scope.kind= .function) (hs4:∀z∈scope.names,z.2≠ .cell) (hs5:scope.names.lookup y=some .local) (hs6:scope.names.lookup x=some .free)
  (hx1:(x==("__debug__":Str))=false) (hx2:(x==("__classdict__":Str))=false) (hy1:(y==("__debug__":Str))=false)
  (he:starEach [e] X.env= [(false,eval e X.env)]:=by rfl):
  PE X (.Call (.Name "sorted" p) [e] [⟨some "key",.Lambda {posonlyargs:= [],args:= [{arg:=y,annotation:=none,pos:=p1}],vararg:=none,kwonlyargs:= [],kw_defaults:= [],kwarg:=none,defaults:= []} (.Attribute (.Subscript (.Name x p2) (.Name y p3) p4) g p5) scope lp,kp⟩] pos) (IN X ta i g q lp.line lp.col):=by
 intro pins s σ H Q I h
 refine wpAny_Call_Name_kw (sC I hg hm rfl ?_)
 refine PyProof.Rows.callWith_kw (dn (ha pos pins s σ H _ I h) fun us s1 ⟨vs,H1,I1,rv,q1⟩=> ?_) (by rw [he];rfl) (by rw [he];rfl)
 obtain⟨rg,a,Pl,c,n,xs,kz,rfl,hrg,hn,hσ,hxs,hkz,hks,hcode,hC,hbm,tb,q1⟩:=q1
 cases rv with
 | cons r1 rr=>
 cases rr
 cases r1
 show wpAny _ _ (evalAll ((do let v ←eval _ X.env;standAt pos;pure v):: [])) _ _ s1
 refine wpAny_evalAll_cons (wpAny_bind (KK I1 hcode hC (hbm.get I1.kIn I1.hok) hq rfl hcl tb fun f c' ctv H2 s2 I2 hf hrec k2 tb2 hk2=>wpAny_bind (wpAny_standAt (wpAny_pure ?_))))
 refine wpAny_evalAll_nil ?_
 show wpAny _ _ (call (.builtin "sorted") [.ref rg] [(Str.ofString "key",.ref f)]) _ _ s2
 obtain⟨m,hns,_⟩:=id I2.loc
 have nP:∀b o,H1 b=some o→(∀ps,o≠ .tbl ps)→b≠Pl:=fun b o e hn z=>by
  rcases tb with tb | ⟨_,tb,_⟩
  ·rw [z,tb] at e;exact hn _ (Option.some.inj e).symm
  ·rw [z,tb] at e;exact hn _ (Option.some.inj e).symm
 have kP:∀b o,H1 b=some o→(∀ps,o≠ .tbl ps)→H2 b=some o:=fun b o e hn=>k2 _ _ e (nP b o e hn)
 have oL:∀b o,s2.heap.get? b=some o→(∀es ep,o.data≠ .dict es ep)→b≠X.env.locals:=fun b o e hd z=>by
  obtain⟨o',es,ep,e1,e2,_⟩:=hns
  rw [z,e1] at e
  cases e
  exact hd _ _ e2
 have fL:f≠X.env.locals:=oL _ _ hf (by intro es ep z;cases z)
 have cL:c'≠X.env.locals:=by
  obtain⟨_,o,vs,t,e0,e1,e2,_⟩:=hrec
  cases e0
  exact oL _ _ e1 (by intro es ep z;rw [e2] at z;cases z)
 obtain⟨t1,t2,t3,hrange⟩:=I2.hok rg _ (kP _ _ hrg (by intro ps z;cases z))
 refine xN (P:=X.prog) (w:=X.w) (h₀:={}) (L:=X.env.locals) (m:=m) (news:=Bv s2.heap X.env.locals) (kz:=kz) (n:=n) (hi:=(n:Int)) (f:= .ref f) (Nc hns) (LJ _ _) hr.hd hrange (small_one (by omega) (by omega) (by omega) (by omega)) (by rw [rangeSize_one];split<;>omega) (by omega) hkz (ksk_s1 _ _) (fun z=>ksk_l1 _ _) (fun z=>ksk_t1 f z)
  (fun j t kk hkk h' tk own F' N'=> ?_) fun D h' tk out cc F' N' hD ⟨vs,hv1,hv2,ko⟩=> ?_
 ·have kp:∀b o,b≠X.env.locals→s2.heap.get? b=some o→h'.get? b=some o:=fun b o hb e=>(N' (b,o) (List.mem_append_left _ (m9.mpr ⟨e,hb⟩))).1
  have I':=I2.moved (tk:=tk) hns F'.ns kp
  obtain⟨r,C,dx,fs,hj,hri,hc,hna,hl⟩:=hks j kk hkk
  obtain⟨m',hn',hl'⟩:=id I'.loc
  obtain⟨u,ru,l⟩:=hl' i x (.ref a) hN hσ (Or.inr (Or.inl hcx))
  cases ru
  rcases l with⟨hk,_⟩ | ⟨_,c0,hc0,hcell⟩
  ·rw [show X.env.kindOf x=some .cell from hcx] at hk
   cases hk
  ·exact HQ (P:=X.prog) (w:=X.w) (s:={s2 with heap:=h',toks:=tk}) (H:=H2) I'.kIn I'.hok I'.nolimit (by have:=hr.dp;show X.A.depth<_;omega) (kp _ _ fL hf) (hb _ _ _ _) hs1 hs2 hs3 hs4 hs5 hs6 hx1 hx2 hy1 (j7 hrec fun o e=>kp _ _ cL e) (hlx.trans hc0) hcell (kP _ _ hxs (by intro ps z;cases z)) hj (kP _ _ hri (by intro ps z;cases z)) hc hna hl
    fun h2 tk2 t2 k3=>⟨h2,tk2,t2,rfl,rfl,F'.kept k3,N'.grown k3⟩
 ·have kp:∀b o,b≠X.env.locals→s2.heap.get? b=some o→h'.get? b=some o:=fun b o hb e=>(N' (b,o) (List.mem_cons_of_mem _ (m9.mpr ⟨e,hb⟩))).1
  obtain⟨js,v1,v2,v3⟩:=Im hkz hv1 hv2 ko
  have hlen:(js.map fun j:Nat=>V.int (j:Int)).length≤sizeLine:=by rw [List.length_map,v2.length_eq,List.length_range,sizeLine_eq];omega
  exact⟨.ref D,_,I2.movedLaid (tk:=tk) (o:= .lst (js.map fun j:Nat=>V.int (j:Int))) hns F'.ns kp hD ⟨hlen,out.toList,cc,v1,by rw [Array.toArray_toList];exact(N' _ List.mem_cons_self).1⟩,rfl,q1 H2 D js k2 tb2 (I2.hok.fresh hD) v2 v3⟩
end
section
variable {P:Program} {w:World} {K:PySem.W.Frag} {mg:Str→Option Value} {base:Heap}
theorem Ki.okC {x qual:Str} {st:Stmt} {f:Addr} {fd:FuncData} {N ps:List Str} {k:Nat} {sp:Sp} (F:Ki K x qual st f fd) (S:ap N ps (ag st)) (len:∀vs H Q E,sp vs H Q E→vs.length=ps.length)
  (hbody:∀(cdv:Value) (A:Around) (outer:List Env) (s:Shared) (H:Hp) (vs:List V) (Q:VK) (E:XK),fd.code=cdv→du k (A.deeper (envOfC qual (ag st) s.heap.objs.size f cdv))→sp vs H Q E→
   ∃t,D9 (By x8 P w K mg base N qual (ag st) f cdv A outer s H E).nox (gX st) t∧t {nx:=fun _ H'=>Q .non H',rt:=Q} (start N vs) H):iq P w K mg base x8 (k+1) f fd ps sp:=by
 obtain⟨oc,od,kV,doc,pm,an,cdv,ct,osl,rfl,lk,hcd⟩:=F.ex
 refine J5 lk hcd S len fun A outer s H vs Q E hr hsp=> ?_
 obtain⟨t,h,q⟩:=hbody cdv A outer s H vs Q E rfl hr hsp
 exact⟨t,h.nox,q⟩
end
end L2
end
section
namespace L2
open PySem PySem.Spec PySem.Calls PyProof.Rows
open PySem.W (WData Codec OpenSpec Well WellAll ReadsW ReadsAllW)
section
variable {A:Hp} {Pl bm b:Addr} {ob:Obj} {u:HO}
def l7 (A:Hp) (Pl bm:Addr) (ob:Obj):Hp:=fun b=>if b=bm then some (.frz ob (.ext fun _=>True)) else if b=Pl then some (.tbl #[]) else A b
theorem CN:l7 A Pl bm ob bm=some (.frz ob (.ext fun _=>True)):=if_pos rfl
theorem CM (h:Pl≠bm):l7 A Pl bm ob Pl=some (.tbl #[]):=(if_neg h).trans (if_pos rfl)
theorem Fj (h1:b≠bm) (h2:b≠Pl):l7 A Pl bm ob b=A b:=(if_neg h1).trans (if_neg h2)
theorem k8 (h:l7 A Pl bm ob b=some u):(b=bm∧u= .frz ob (.ext fun _=>True))∨(b=Pl∧u= .tbl #[])∨(b≠Pl∧A b=some u):=by
 by_cases h1:b=bm
 ·rw [h1,CN] at h
  exact .inl ⟨h1,(Option.some.inj h).symm⟩
 ·by_cases h2:b=Pl
  ·rw [h2,CM (h2▸h1)] at h
   exact .inr (.inl ⟨h2,(Option.some.inj h).symm⟩)
  ·rw [Fj h1 h2] at h
   exact .inr (.inr ⟨h2,h⟩)
end
theorem EQ {P:Program} {w:World} {K:PySem.W.Frag} {mg mb:Str→Option Value} {CX:Hf} {k:Nat} {fa:Addr} {fd:FuncData} {ps:List Str} {sp:Sp} {s₁:Shared} {vals:List Value} {ds:List WData} {R:PySem.W.WRecords} {cl:Str→Option Addr} {d0:WData} {Pl bm c0:Addr} {ob:Obj}
  (KX:K.In s₁.heap) (hns:s₁.heap.Ns mainGlobals mg) (hb:s₁.heap.Ns builtinsNs mb) (hbb:∀x:Str,x≠"__name__"→mb x=bootBuiltins x) (hlim:s₁.heap.NoLimit) (hg:s₁.gens=#[])
  (hwl:WellAll w.params s₁.heap vals ds) (hpl:xG ds=true) (hwt:∀d∈ds,d.weight≤1048576) (hr:du k callerA)
  (hcd:PySem.W.CodeHd s₁.heap c0 Pl) (tb:s₁.heap.get? Pl=some (PySem.W.tabObj #[])) (kP:K.lookup Pl=none) (eb:s₁.heap.get? bm=some ob) (db:ob.data= .plain) (kb:K.lookup bm=none)
  (F:∀base:Heap,K.In base→base.Ns mainGlobals mg→iq P w K mg base CX k fa fd ps sp) (hbind:∀(s:Shared) (us:List Value),us.length=ps.length→BindsTo s fd ⟨us,[]⟩ (ps.zip us)) (hlen:ds.length=ps.length)
  (hsp:∀(H0 H:Hp) (xs:List V),(∀b u,H0 b=some u→H b=some u)→Cy H0→H Pl=some (.tbl #[])→H bm=some (.frz ob (.ext fun _=>True))→pD K H0 xs ds→sp xs H (fun v H'=>Dw K H' v d0) fun _ _ _=>False)
  (hCX:∀H e s',CX [] H s₁ (fun _ _ _=>False) e s'→False):
  codeAny (model P w) callerA (.call (.ref fa) ⟨vals,[]⟩) (fun r s'=>∃u as,r= .ok (.ret u)∧ReadsW R cl s'.heap u d0 as∧OldK s₁.heap s'.heap∧s'.os=s₁.os∧AllBare s'.gens) s₁:=by
 obtain⟨A,ho,ar⟩:=uc ds vals hwl hpl hwt
 have hO:Cy (jv K s₁.heap A):=FW ar
 have hS:=Bz KX ar ds vals hwl hpl ho
 have hV:=mM ho
 have nPb:Pl≠bm:=fun z=>by
  rw [z,eb] at tb
  rw [Option.some.inj tb] at db
  cases db
 have sub:∀b u,jv K s₁.heap A b=some u→b≠bm∧b≠Pl:=fun b u q=>by
  obtain⟨_,vs,_,_,⟨e,_⟩ | ⟨e,_⟩⟩:=ud ar q
  ·refine⟨fun z=> ?_,fun z=> ?_⟩
   ·rw [z,eb] at e
    rw [Option.some.inj e] at db
    cases db
   ·rw [z,tb] at e
    cases e
  ·refine⟨fun z=> ?_,fun z=> ?_⟩
   ·rw [z,eb] at e
    rw [Option.some.inj e] at db
    cases db
   ·rw [z,tb] at e
    cases e
 have ext:∀b u,jv K s₁.heap A b=some u→l7 (jv K s₁.heap A) Pl bm ob b=some u:=fun b u q=>(Fj (sub b u q).1 (sub b u q).2).trans q
 have hok:sr P w (l7 (jv K s₁.heap A) Pl bm ob) s₁.heap:=fun b u q=>by
  rcases k8 q with⟨rfl,rfl⟩ | ⟨rfl,rfl⟩ | ⟨_,q⟩
  ·exact⟨eb,trivial,⟨ob,eb⟩,fun _ _ _ _=>trivial⟩
  ·exact tb
  ·obtain⟨_,vs,h1,h2,⟨e,rfl⟩ | ⟨e,rfl⟩⟩:=ud ar q
   ·exact⟨e,by rw [List.length_map];exact h1,vs,_,mM h2,e⟩
   ·exact⟨e,by rw [List.length_map];exact h1,vs,mM h2,_,e,rfl,_,rfl⟩
 have hK:∀b u,l7 (jv K s₁.heap A) Pl bm ob b=some u→K.lookup b=none:=fun b u q=>by
  rcases k8 q with⟨rfl,_⟩ | ⟨rfl,_⟩ | ⟨_,q⟩
  ·exact kb
  ·exact kP
  ·exact(ud ar q).1
 have noA:∀{b:Addr} {o:Obj} {es:Array DictEntry} {ep:Nat},s₁.heap.get? b=some o→o.data= .dict es ep→l7 (jv K s₁.heap A) Pl bm ob b=none:=fun {b o es ep} e d=>by
  cases q:l7 (jv K s₁.heap A) Pl bm ob b with
  | none=>rfl
  | some u=>
   rcases k8 q with⟨rfl,_⟩ | ⟨rfl,_⟩ | ⟨_,q⟩
   ·rw [eb] at e
    cases e
    rw [db] at d
    cases d
   ·rw [tb] at e
    cases e
    cases d
   ·obtain⟨_,vs,_,_,⟨e2,_⟩ | ⟨e2,_⟩⟩:=ud ar q
    ·rw [e2] at e
     cases e
     have d':Data.seq vs.toArray _=Data.dict es ep:=d
     cases d'
    ·rw [e2] at e
     cases e
     have d':Data.seq vs.toArray _=Data.dict es ep:=d
     cases d'
 have hPl:l7 (jv K s₁.heap A) Pl bm ob Pl=some (.tbl #[]):=CM nPb
 have frz:∀b u,l7 (jv K s₁.heap A) Pl bm ob b=some u→b≠Pl→∃o u',u= .frz o u':=fun b u q n=>by
  rcases k8 q with⟨_,e⟩ | ⟨z,_⟩ | ⟨_,q⟩
  ·exact⟨_,_,e⟩
  ·exact absurd z n
  ·rcases hO b with z | ⟨o,v,z⟩
   ·rw [q] at z
    cases z
   ·rw [q] at z
    exact⟨_,_,Option.some.inj z⟩
 have hsp':=hsp (jv K s₁.heap A) (l7 (jv K s₁.heap A) Pl bm ob) _ ext hO hPl CN hS
 generalize l7 (jv K s₁.heap A) Pl bm ob=H at hok hK noA hPl frz hsp'
 have base_of:∀{b:Addr} {o:Obj},s₁.heap.get? b=some o→H b=none→(BC s₁.heap H).get? b=some o:=fun e n=>HK e n
 have nsK:∀{b:Addr} {m:Str→Option Value},s₁.heap.Ns b m→(BC s₁.heap H).Ns b m:=fun {b m} ⟨o,es,ep,e,d,r⟩=>⟨o,es,ep,base_of e (noA e d),d,r⟩
 have nK:∀b o,K.lookup b=some o→H b=none:=fun b o e=>by
  cases q:H b with
  | none=>rfl
  | some u=>
   rw [hK b u q] at e
   cases e
 have hKb:K.In (BC s₁.heap H):=fun b o e=>base_of (KX b o e) (nK b o e)
 have hM:Mod K mg (BC s₁.heap H):=⟨hKb,nsK hns,⟨mb,nsK hb,hbb⟩,let ⟨mc,h1,h2⟩:=hlim;⟨mc,nsK h1,h2⟩⟩
 have e0:Eb P w K mg (BC s₁.heap H) callerA [] s₁ H:=⟨rfl,hM,fun b o e=>JC e,Nat.le_of_eq (Gf _ _),trivial,fun b hb=>absurd (show b∈([]:List Addr) from hb) (by simp),hok,.of_eq hg⟩
 have hl:vals.length=ps.length:=by rw [lE hwl];exact hlen
 refine codeAny_mono ((F _ hKb (nsK hns)).run callerA [] s₁ H ⟨vals,[]⟩ vals (vals.map D0) _ _ hr e0 (hbind s₁ vals hl) hV hsp') fun r s' x=> ?_
 cases r with
 | error e=>exact(hCX H e s' x).elim
 | ok fl=>
  cases fl with
  | next=>exact False.elim x
  | brk=>exact False.elim x
  | cont=>exact False.elim x
  | ret u=>
   obtain⟨v,H',os,bare,un,hok',r',q⟩:=x
   have kept:∀b o,b≠Pl→s₁.heap.get? b=some o→s'.heap.get? b=some o:=fun b o nb e=>by
    cases q2:H b with
    | none=>exact un.keep b o e q2 (by intro z;exact absurd (show b∈([]:List Addr) from z) (by simp)) (by simp)
    | some u2=>
     obtain⟨ob',u3,rfl⟩:=frz b u2 q2 nb
     have z2:=un.frzs b ob' _ q2
     obtain⟨e1,_⟩:=hok b _ q2
     obtain⟨e2,_⟩:=hok' b _ z2
     rw [e] at e1
     cases e1
     exact e2
   have KX':K.In s'.heap:=fun b o e=>kept b o (fun z=>by rw [z,kP] at e;cases e) (KX b o e)
   obtain⟨as,hrd⟩:=Dw.reads (R:=R) (cl:=cl) hok' KX' d0 v u q r'
   obtain⟨more,hm⟩:=un.tbls Pl _ hPl
   have gm:s'.heap.get? Pl=some {cls:= .none,data:= .fields (#[]++more)}:=hok' Pl _ hm
   refine⟨u,as,rfl,hrd,⟨fun b o e=> ?_,fun b o e=> ?_⟩,os,bare⟩
   ·by_cases z:b=Pl
    ·subst z
     rw [tb] at e
     cases e
     obtain⟨oc,vs,_,_,_,_,_,_,_,c1,c2,c3,c4,_⟩:=hcd
     exact .inr (.inl ⟨⟨c0,oc,vs,c1,c2,c3,c4⟩,rfl,#[],more,rfl,gm⟩)
    ·exact .inl (kept b o z e)
   ·by_cases z:b=Pl
    ·subst z
     exact⟨_,gm⟩
    ·exact⟨o,kept b o z e⟩
theorem Lg {r:OpenSpec} {k:Nat} {q:Program} {loose:List Str} {XP:(Str→Option Value)→Heap→Prop} {YP:World→Heap→Prop} {d:DefRec} {K:PySem.Params→PySem.W.Frag} {CX:Hf} {ps:List Str}
  (hwell:r.wellSaid=true) (hdf:d.params.defaults= []) (hlen:r.args.length=ps.length) (hr:du k callerA)
  (hY:∀(w:World) (h:Heap),YP w h→(K w.params).In h)
  (F:∀(w:World) (mean:ExcName→Option Value) (mg mb:Str→Option Value) (fa:Addr) (h:Heap),Top q (PySem.W.looseW q loose) mean mg mb h→YP w h→(K w.params).In h→mg d.name=some (.ref fa)→
   ∃(fd:FuncData) (sp:Sp) (Pl bm c0:Addr) (ob:Obj),(∀(s:Shared) (us:List Value),us.length=ps.length→BindsTo s fd ⟨us,[]⟩ (ps.zip us))∧
    (∀base:Heap,(K w.params).In base→base.Ns mainGlobals mg→iq r.prog w (K w.params) mg base CX k fa fd ps sp)∧
    PySem.W.CodeHd h c0 Pl∧h.get? Pl=some (PySem.W.tabObj #[])∧(K w.params).lookup Pl=none∧h.get? bm=some ob∧ob.data= .plain∧(K w.params).lookup bm=none∧
    ∀(H0 H:Hp) (xs:List V) (a:Codec.denoteAll r.args),(∀b u,H0 b=some u→H b=some u)→Cy H0→H Pl=some (.tbl #[])→H bm=some (.frz ob (.ext fun _=>True))→Codec.withinAll r.args a=true→Codec.app r.args r.asked a=true→pD (K w.params) H0 xs (Codec.encAll r.args a)→
     sp xs H (fun v H'=>Dw (K w.params) H' v (r.ret.enc (Codec.app r.args r.f a))) fun _ _ _=>False)
  (hCX:∀(H:Hp) (s:Shared) (e:Value) (s':Shared),CX [] H s (fun _ _ _=>False) e s'→False):
  PySem.W.WalkOS q loose XP YP r d [] (fun f vs=>PySem.call f vs):=by
 intro w s_0 s₁ mg mb G Y fa o pm cd doc dV kV ho hd hcd hD hmg hg args vals as hpre hlay hrd hwl hlo
 obtain⟨a,e1,e2⟩:=PySem.W.os_pre_some hpre
 obtain⟨e3,hwi⟩:=Codec.encAll_of_decAll r.args args a e1
 subst e3
 have KX:=hY w _ Y
 obtain⟨fd,sp,Pl,bm,c0,ob,hb,hF,t1,t2,t3,t4,t5,t6,hsp⟩:=F w _ mg mb fa _ G.T Y KX hmg
 refine PySem.W.enter_call (codeAny_mono (EQ (R:= []) (cl:=classAt s_0.heap) (d0:=r.ret.enc (Codec.app r.args r.f a)) KX G.T.g G.T.b G.T.builtins G.T.nolimit hg hwl (A0 _ _) (yI hlay) hr t1 t2 t3 t4 t5 t6 hF hb (by rw [yC];exact hlen)
  (fun H0 H xs h1 h2 h3 h4 h5=>hsp H0 H xs a h1 h2 h3 h4 hwi e2 h5) fun H e s'=>hCX H s₁ e s') fun r' s' hq=> ?_)
 obtain⟨u,as',rfl,h1,h2,h3,h4⟩:=hq
 exact⟨.inl ⟨u,_,as',rfl,fun _=>rfl,h1,(OpenSpec.post_iff hwell hwi _ _).mpr rfl,fun z=>Bool.noConfusion (show false=true from z)⟩,h2,h3,h4⟩
end L2
end
section
namespace Pf
open PySem PySem.Spec PyProof.Rows L2
def bA (i:Nat):Stmt:=PySem.Challenge.pw_toldchance_s01_answers.main.body.getD i (.Pass ⟨0,0,0,0⟩)
abbrev rT:Stmt:=bh (bA 4) 0
abbrev mr:Stmt:=bh (bA 4) 1
abbrev rV:Stmt:=bh (bA 4) 2
abbrev w9:Stmt:=bA 5
abbrev uL:Stmt:=bA 6
abbrev zp:Stmt:=bA 27
abbrev r6:Stmt:=bA 28
abbrev uO:Stmt:=bA 29
abbrev rZ:Stmt:=bA 30
abbrev uM:Stmt:=bA 31
abbrev o0:Stmt:=bA 32
abbrev uN:Stmt:=bA 33
abbrev lx:Stmt:=bA 34
abbrev oW:Stmt:=bh (bA 37) 0
abbrev oY:Stmt:=bh (bA 37) 1
abbrev oX:Stmt:=bh (bA 37) 2
abbrev iH:Stmt:=bh (bA 37) 3
abbrev xc:Stmt:=bA 39
abbrev mw:Stmt:=bA 40
abbrev uS:Stmt:=bA 41
abbrev qg:Stmt:=bA 42
abbrev Bh:Stmt:=bA 44
abbrev zf:Stmt:=bA 45
abbrev xg:Stmt:=bA 46
abbrev zm:Stmt:=bA 47
abbrev BY:Stmt:=bA 48
abbrev zj:Stmt:=bA 49
abbrev my:Stmt:=bA 51
abbrev jp:Stmt:=bA 52
abbrev iE:Stmt:=bh (bA 54) 0
abbrev d7:Stmt:=bh (bA 54) 1
abbrev fK:Stmt:=bh (bA 54) 2
abbrev fJ:Stmt:=bh (bA 54) 3
abbrev pd:Stmt:=bA 55
abbrev uR:Stmt:=bA 56
abbrev qi:Stmt:=bA 57
abbrev fO:Stmt:=bA 58
abbrev ll:Stmt:=bA 59
abbrev ze:Stmt:=bA 60
abbrev p8:Stmt:=bh (bA 63) 0
abbrev mv:Stmt:=bh (bA 63) 1
abbrev oT:Stmt:=bh (bA 63) 2
abbrev p9:Stmt:=bh (bA 63) 3
abbrev kj:Stmt:=bh (bA 63) 4
abbrev km:Stmt:=bA 64
abbrev pc:Stmt:=bA 65
abbrev xf:Stmt:=bA 66
abbrev mx:Stmt:=bA 67
abbrev pb:Stmt:=bA 68
abbrev kl:Stmt:=bA 69
abbrev dG:Stmt:=bA 70
abbrev kr:Stmt:=bA 71
abbrev lv:Stmt:=bA 72
abbrev rX:Stmt:=bh (bA 74) 0
abbrev wX:Stmt:=bh (bA 74) 1
abbrev iG:Stmt:=bh (bA 74) 2
abbrev mt:Stmt:=bh (bA 74) 3
abbrev iF:Stmt:=bh (bA 74) 4
abbrev gK:Stmt:=bh (bA 74) 5
abbrev jI:Stmt:=bh (bA 74) 6
abbrev rW:Stmt:=bh (bA 74) 7
abbrev rS:Stmt:=bh (bA 75) 0
abbrev wW:Stmt:=bh (bA 75) 1
abbrev iD:Stmt:=bh (bA 75) 2
abbrev mq:Stmt:=bh (bA 75) 3
abbrev iC:Stmt:=bh (bA 75) 4
abbrev gJ:Stmt:=bh (bA 75) 5
abbrev jH:Stmt:=bh (bA 75) 6
abbrev rR:Stmt:=bh (bA 75) 7
abbrev lq:Stmt:=bA 76
abbrev ql:Stmt:=bA 77
abbrev qh:Stmt:=bA 78
abbrev wZ:Stmt:=bA 79
abbrev zo:Stmt:=bA 80
abbrev xa:Stmt:=bA 81
abbrev w6:Stmt:=bA 82
abbrev Bc:Stmt:=bA 89
abbrev qk:Stmt:=bA 90
abbrev jy:Stmt:=bA 91
abbrev Bd:Stmt:=bA 92
abbrev Dy:Stmt:=bA 93
abbrev r8:Stmt:=bA 94
abbrev uP:Stmt:=bA 95
abbrev rY:Stmt:=bA 96
abbrev lQ:Stmt:=bA 97
abbrev nM:Stmt:=bA 98
abbrev hU:Stmt:=bA 99
abbrev Dp:Stmt:=bA 100
abbrev iK:Stmt:=bA 101
abbrev tj:Stmt:=bA 102
abbrev iT:Stmt:=bA 103
abbrev jA:Stmt:=bA 104
abbrev jz:Stmt:=bA 105
abbrev qj:Stmt:=bA 106
abbrev uQ:Stmt:=bA 107
abbrev w8:Stmt:=bA 113
abbrev qc:Stmt:=bA 114
abbrev qd:Stmt:=bA 115
abbrev zg:Stmt:=bA 117
abbrev Dt:Stmt:=bA 118
abbrev zh:Stmt:=bA 119
abbrev Dx:Stmt:=bA 120
abbrev A9:Stmt:=bA 121
abbrev Dn:Stmt:=bA 122
abbrev lu:Stmt:=bA 124
abbrev iI:Stmt:=bA 125
abbrev oU:Stmt:=bh (bA 127) 0
abbrev li:Stmt:=bh (bA 127) 1
abbrev oV:Stmt:=bh (bA 127) 2
abbrev jJ:Stmt:=bh (bA 127) 3
abbrev Du:Stmt:=bA 129
abbrev FI:Stmt:=bA 130
abbrev zl:Stmt:=bA 131
abbrev Dv:Stmt:=bA 132
abbrev Dm:Stmt:=bA 133
abbrev Bb:Stmt:=bA 134
abbrev zk:Stmt:=bA 135
abbrev Bg:Stmt:=bA 136
abbrev FH:Stmt:=bA 137
abbrev Dr:Stmt:=bA 138
abbrev Do:Stmt:=bA 139
abbrev Be:Stmt:=bA 140
abbrev kn:Stmt:=bA 142
abbrev g9:Stmt:=bA 143
abbrev r9:Stmt:=bA 145
abbrev hX:Stmt:=bA 146
abbrev eK:Stmt:=bA 147
abbrev hJ:Stmt:=bA 148
abbrev fC:Stmt:=bA 149
abbrev qf:Stmt:=bA 150
abbrev lr:Stmt:=bA 151
abbrev zi:Stmt:=bA 152
abbrev Bf:Stmt:=bA 154
abbrev pf:Stmt:=bA 155
abbrev Dq:Stmt:=bA 156
abbrev Ba:Stmt:=bA 157
abbrev vN:Stmt:=bA 158
abbrev zn:Stmt:=bA 159
abbrev xb:Stmt:=bA 160
abbrev A8:Stmt:=bA 161
abbrev Ds:Stmt:=bA 162
abbrev lj:Stmt:=bA 163
abbrev iJ:Stmt:=bA 165
abbrev lP:Stmt:=bh (bA 167) 0
abbrev wY:Stmt:=bA 168
abbrev oZ:Stmt:=bA 169
structure GC (mg:Str→Option Value) (x:Str) (v:V) where
 u:Value
 eq:mg x=some u
 rel:cj v u
structure Hh (K:PySem.W.Frag) (mg:Str→Option Value) (x:Str) (kvs:List (Int×V)) where
 a:Addr
 eq:mg x=some (.ref a)
 gd:∀(P:Program) (w:World),GD P w K a kvs
 rel:cj (.ref a) (.ref a):=rfl
structure Df (K:PySem.W.Frag) (mg:Str→Option Value) (x:Str) (st:Stmt) (ps:List Str) where
 f:Addr
 fd:FuncData
 F:Ki K x x st f fd
 ba:∀us:List Value,us.length=ps.length→bindArgs fd ⟨us,[]⟩=pure (ps.zip us)
 mgx:mg x=some (.ref f)
structure Me (K:PySem.W.Frag) (C:Addr) (m qual:Str) (st:Stmt) (ps:List Str) where
 f:Addr
 fd:FuncData
 F:Ki K m qual st f fd
 ba:∀us:List Value,us.length=ps.length→bindArgs fd ⟨us,[]⟩=pure (ps.zip us)
 meth:Hj K C m f
 cl:D8 K C
structure Kl (K:PySem.W.Frag) (mg:Str→Option Value) (x:Str) (attrs:List Str) where
 C:Addr
 cl:D8 K C
 mgC:mg x=some (.ref C)
 no:∀a∈attrs,iM K C a
 makes:PySem.W.makesIn K C=true
 kp:PySem.W.keepIn K (.ref C)=true
theorem Df.b {K:PySem.W.Frag} {mg:Str→Option Value} {x:Str} {st:Stmt} {ps:List Str} (d:Df K mg x st ps):gE K d.fd ps []:=gE.all d.ba
theorem Df.bt {K:PySem.W.Frag} {mg:Str→Option Value} {x:Str} {st:Stmt} {ps:List Str} (d:Df K mg x st ps) (s:Shared) (us:List Value) (h:us.length=ps.length):BindsTo s d.fd ⟨us,[]⟩ (ps.zip us):= .of_eq (d.ba us h)
theorem Me.b {K:PySem.W.Frag} {C:Addr} {m qual:Str} {st:Stmt} {ps:List Str} (d:Me K C m qual st ps):gE K d.fd ps []:=gE.all d.ba
theorem Kl.mk' {K:PySem.W.Frag} {mg:Str→Option Value} {x:Str} {attrs:List Str} (c:Kl K mg x attrs) {q:Str} {st:Stmt} {ps:List Str} (i:Me K c.C "__init__" q st ps):Mk K c.C i.f:=⟨c.makes,i.meth.at_,i.meth.fn,c.kp⟩
structure Tx (K:PySem.W.Frag) (mg:Str→Option Value) where
 qS:GC mg "STATES" (.int 18446744073709551616)
 z7:GC mg "FACTOR" (.int 6364136223846793005)
 wK:GC mg "SUMMAND" (.int 1442695040888963407)
 a7:GC mg "WRONG_STREAM" (.int (-1))
 gk:GC mg "WRONG_STEPS" (.int (-2))
 dU:GC mg "WRONG_LENGTH" (.int (-3))
 Aa:GC mg "WRONG_MIRROR" (.int (-4))
 jc:GC mg "WRONG_BOUND" (.int (-5))
 jG:GC mg "WRONG_WEIGHTS" (.int (-6))
 vn:GC mg "WRONG_PART" (.int (-7))
 jd:GC mg "WRONG_PLACE" (.int (-8))
 vm:GC mg "NO_DISTRIBUTION" (.int (-10))
 D7:GC mg "WRONG_RAW" (.int (-11))
 lY:GC mg "EMPTY_PLACE" (.int (-12))
 wJ:GC mg "STREAMS" (.int 64)
 D6:GC mg "PLACES" (.int 64)
 D5:GC mg "MOST_RAWS" (.int 1000)
 z9:GC mg "MOST_WEIGHTS" (.int 64)
 Cr:GC mg "MOST_TEETH" (.int 1000000000000000000)
 i8:GC mg "GREATEST_BOUND" (.int 1000000000000000000)
 z8:GC mg "GREATEST_SUM" (.int 10000000000000000000000000000000000000000)
 lH:GC mg "GREATEST_FACTOR" (.int 1000000000)
 cK:GC mg "RAW_NUMBERS" (.int 4294967296)
 JZ:GC mg "GROUP" (.int 16)
 Cs:GC mg "MOST_TRIES" (.int 20)
 vk:GC mg "GREATEST_BOTTOM" (.int 100)
 AB:GC mg "MOST_THINGS" (.int 60)
 D4:GC mg "MOST_DICE" (.int 6)
 Cq:GC mg "MOST_SIDES" (.int 10)
 Ab:mg "list"=none
 cr:mg "range"=none
 FU:mg "sum"=none
 L7:mg "any"=none
 Ja:mg "sorted"=none
 L8:mg "max"=none
 IZ:mg "min"=none
 L6:mg "all"=none
 eV:mg "len"=none
 Kg:mg "abs"=none
 L9:mg "zip"=none
 dZ:Kl K mg "Leap" ["factor","summand"]
 aI:Kl K mg "Stream" ["state","seed","count","mirror"]
 ai:Kl K mg "Distribution" ["weights","shapes","total","before","ends"]
 aA:Kl K mg "Ratio" ["top","bottom"]
 aM:Kl K mg "Line" ["x","y","bottom","origin","rise"]
 aF:Kl K mg "Comb" ["x","gap","teeth","bottom","origin","rise"]
 bg:Kl K mg "Reader" ["numbers","position"]
 aN:Kl K mg "Bank" ["streams","distributions"]
 gM:Me K dZ.C "__init__" "Leap.__init__" rT ["self","factor","summand"]
 dR:Me K dZ.C "landing" "Leap.landing" mr ["self","state"]
 ju:Me K dZ.C "then" "Leap.then" rV ["self","other"]
 rk:Df K mg "leap_of" w9 ["steps"]
 oA:Df K mg "distance" uL ["start","end"]
 bE:Df K mg "within" zp ["number","least","greatest"]
 bn:Df K mg "is_stream" r6 ["number"]
 fw:Df K mg "is_steps" uO ["number"]
 fv:Df K mg "is_length" rZ ["number"]
 fu:Df K mg "is_bound" uM ["number"]
 gf:Df K mg "are_weights" o0 ["row"]
 d5:Df K mg "is_place" uN ["number"]
 bP:Df K mg "place_refusal" lx ["bank","d"]
 dJ:Me K aI.C "__init__" "Stream.__init__" oW ["self","seed"]
 lV:Me K aI.C "twin" "Stream.twin" oY ["self"]
 jb:Me K aI.C "move" "Stream.move" oX ["self","steps"]
 br:Me K aI.C "raw_number" "Stream.raw_number" iH ["self"]
 rl:Df K mg "portion" xc ["u","many"]
 im:Df K mg "chosen_place" mw ["u","weights"]
 kT:Df K mg "shuffled" uS ["stream","row","many"]
 oC:Df K mg "lots_drawn" qg ["stream","weights","many"]
 oJ:Df K mg "whole" Bh ["bank","reader"]
 kM:Df K mg "choose" zf ["bank","reader"]
 i7:Df K mg "shuffle" xg ["bank","reader"]
 kS:Df K mg "sample" zm ["bank","reader"]
 z4:Df K mg "mix" BY ["bank","reader"]
 tY:Df K mg "lots" zj ["bank","reader"]
 kQ:Df K mg "is_draw_call" my ["place"]
 gC:Df K mg "answer_draw_call" jp ["bank","place","reader"]
 fS:Me K ai.C "__init__" "Distribution.__init__" iE ["self","weights","shapes"]
 dj:Me K ai.C "place_taken" "Distribution.place_taken" d7 ["self","u"]
 cV:Me K ai.C "value_in" "Distribution.value_in" fK ["self","place","u"]
 cU:Me K ai.C "value_at" "Distribution.value_at" fJ ["self","u"]
 lX:Df K mg "sums_before" pd ["weights"]
 tZ:Df K mg "raw_ends" uR ["weights"]
 oF:Df K mg "rounded_up" qi ["top","bottom"]
 bY:Df K mg "distribution_of" fO ["weights","shapes"]
 wE:Df K mg "blended" ll ["one","v","other","w"]
 E5:Df K mg "bent" ze ["distribution","factor","summand"]
 bf:Me K aA.C "__init__" "Ratio.__init__" p8 ["self","top","bottom"]
 dk:Me K aA.C "lowest" "Ratio.lowest" mv ["self"]
 ja:Me K aA.C "times" "Ratio.times" oT ["self","other"]
 ou:Me K aA.C "plus" "Ratio.plus" p9 ["self","other"]
 c8:Me K aA.C "is_below" "Ratio.is_below" kj ["self","other"]
 cf:Df K mg "common_measure" km ["a","b"]
 b7:Df K mg "right_ratio" pc ["top","bottom"]
 rm:Df K mg "product" xf ["factors"]
 io:Df K mg "common_parts" mx ["bottoms"]
 gg:Df K mg "lowest_over" pb ["top","factors"]
 cJ:Df K mg "all_lowest" kl ["ratios"]
 d6:Df K mg "places_of_one_bottom" dG ["ratios","places","start"]
 i5:Df K mg "measure_of_all" kr ["ratios"]
 jF:Df K mg "lowest_within" lv ["ratio","shared"]
 qO:Me K aM.C "__init__" "Line.__init__" rX ["self","x","y"]
 wD:Me K aM.C "at" "Line.at" wX ["self","t","span"]
 fU:Me K aM.C "told_numbers" "Line.told_numbers" iG ["self"]
 kK:Me K aM.C "far_end" "Line.far_end" mt ["self"]
 fT:Me K aM.C "doubled_mean" "Line.doubled_mean" iF ["self"]
 eO:Me K aM.C "sixfold_square" "Line.sixfold_square" gK ["self"]
 il:Me K aM.C "part_below" "Line.part_below" jI ["self","v","strict"]
 qN:Me K aM.C "bent" "Line.bent" rW ["self","factor","summand"]
 qM:Me K aF.C "__init__" "Comb.__init__" rS ["self","x","gap","teeth"]
 wC:Me K aF.C "at" "Comb.at" wW ["self","t","span"]
 fR:Me K aF.C "told_numbers" "Comb.told_numbers" iD ["self"]
 kJ:Me K aF.C "far_end" "Comb.far_end" mq ["self"]
 fQ:Me K aF.C "doubled_mean" "Comb.doubled_mean" iC ["self"]
 eM:Me K aF.C "sixfold_square" "Comb.sixfold_square" gJ ["self"]
 ik:Me K aF.C "part_below" "Comb.part_below" jH ["self","v","strict"]
 qL:Me K aF.C "bent" "Comb.bent" rR ["self","factor","summand"]
 gr:Df K mg "common_bottom" lq ["one","other"]
 fG:Df K mg "whole_over" ql ["ratio","bottom"]
 ip:Df K mg "room_below" qh ["top","bottom","v"]
 rh:Df K mg "clamped" wZ ["number","most"]
 qR:Df K mg "turned" zo ["ratio","factor","summand"]
 mN:Df K mg "line_of" xa ["x","y"]
 jZ:Df K mg "comb_of" w6 ["x","gap","teeth"]
 vj:Df K mg "point" Bc ["x"]
 jP:Df K mg "whole_comb" qk ["a","b"]
 eD:Df K mg "points_from" jy ["first","weights"]
 oE:Df K mg "power" Bd ["base","exponent"]
 z6:Df K mg "ways" Dy ["many","some"]
 gN:Df K mg "one_point" r8 ["numbers"]
 i6:Df K mg "one_comb" uP ["numbers"]
 lG:Df K mg "are_tries" rY ["tries","p","q"]
 gO:Df K mg "successes" lQ ["numbers"]
 i3:Df K mg "failures" nM ["numbers"]
 dt:Df K mg "marked_things" hU ["numbers"]
 wG:Df K mg "dice" Dp ["numbers"]
 fY:Df K mg "with_one_die_more" iK ["counts","sides"]
 mO:Df K mg "points" tj ["many","numbers"]
 dS:Df K mg "joined_lines" iT ["many","numbers"]
 eG:Df K mg "whole_combs" jA ["many","numbers"]
 eE:Df K mg "told_shapes" jz ["many","numbers"]
 oH:Df K mg "told_shape" qj ["numbers"]
 gD:Df K mg "ratio_in" uQ ["numbers","place"]
 wF:Df K mg "defined" w8 ["kind","a","b"]
 ox:Df K mg "by_numbers" qc ["kind","a","b"]
 oy:Df K mg "by_weights" qd ["kind","a","b"]
 kN:Df K mg "define" zg ["bank","reader"]
 zZ:Df K mg "kept" Dt ["bank","d","distribution"]
 kO:Df K mg "forget" zh ["bank","reader"]
 ua:Df K mg "told" Dx ["bank","reader"]
 ow:Df K mg "blend" A9 ["bank","reader"]
 tV:Df K mg "bend" Dn ["bank","reader"]
 jE:Df K mg "is_place_call" lu ["place"]
 fV:Df K mg "answer_place_call" iI ["bank","place","reader"]
 lU:Me K bg.C "__init__" "Reader.__init__" oU ["self","numbers"]
 jC:Me K bg.C "at_end" "Reader.at_end" li ["self"]
 au:Me K bg.C "take" "Reader.take" oV ["self"]
 cq:Me K bg.C "take_row" "Reader.take_row" jJ ["self"]
 t8:Df K mg "seed" Du ["bank","reader"]
 z5:Df K mg "raw" FI ["bank","reader"]
 t7:Df K mg "raws" zl ["bank","reader"]
 t9:Df K mg "skip" Dv ["bank","reader"]
 tU:Df K mg "back" Dm ["bank","reader"]
 yp:Df K mg "moved" Bb ["bank","k","n","steps"]
 kR:Df K mg "mirror" zk ["bank","reader"]
 oI:Df K mg "where" Bg ["bank","reader"]
 zY:Df K mg "far" FH ["bank","reader"]
 tX:Df K mg "goto" Dr ["bank","reader"]
 tW:Df K mg "copy" Do ["bank","reader"]
 oG:Df K mg "space" Be ["bank","reader"]
 i4:Df K mg "is_stream_call" kn ["place"]
 ft:Df K mg "answer_stream_call" g9 ["bank","place","reader"]
 qQ:Df K mg "shares_of" r9 ["distribution"]
 d9:Df K mg "taken_classes" hX ["distribution"]
 fX:Df K mg "mean_and_variance" eK ["distribution"]
 fx:Df K mg "least_and_greatest" hJ ["distribution"]
 kL:Df K mg "chance_below" fC ["distribution","v","strict"]
 oB:Df K mg "hits_below" qf ["distribution","v","strict"]
 jD:Df K mg "hits_in_class" lr ["distribution","place","start","v","strict"]
 qP:Df K mg "is_hit" zi ["distribution","place","u","v","strict"]
 rp:Df K mg "value" Bf ["bank","reader"]
 eF:Df K mg "two_numbers" pf ["ratio"]
 wH:Df K mg "draw" Dq ["bank","reader"]
 rj:Df K mg "draws" Ba ["bank","reader"]
 yo:Df K mg "drawn" vN ["bank","d","k","many"]
 mP:Df K mg "shares" zn ["bank","reader"]
 j1:Df K mg "moments" xb ["bank","reader"]
 re:Df K mg "below" A8 ["bank","reader"]
 wI:Df K mg "hits" Ds ["bank","reader"]
 gq:Df K mg "below_refusal" lj ["bank","d","p","q","strict"]
 fW:Df K mg "answer_value_call" iJ ["bank","place","reader"]
 lF:Me K aN.C "__init__" "Bank.__init__" lP ["self"]
 jY:Df K mg "answers" wY ["calls"]
 lW:Df K mg "answer_call" oZ ["bank","reader"]
 bv:Hh K mg "DRAW_CALLS" [(11,.ref oJ.f),(12,.ref kM.f),(13,.ref i7.f),(14,.ref kS.f),(15,.ref z4.f),(16,.ref tY.f)]
 bu:Hh K mg "BY_NUMBERS" [(0,.ref gN.f),(1,.ref i6.f),(6,.ref gO.f),(7,.ref i3.f),(8,.ref dt.f),(9,.ref wG.f)]
 bp:Hh K mg "NUMBERS_TAKEN" [(0,.int 2),(1,.int 2),(6,.int 3),(7,.int 3),(8,.int 3),(9,.int 2)]
 b8:Hh K mg "BY_WEIGHTS" [(2,.ref mO.f),(3,.ref dS.f),(4,.ref eG.f),(5,.ref eE.f)]
 bH:Hh K mg "NUMBERS_A_CLASS" [(2,.int 2),(3,.int 2),(4,.int 2),(5,.int 6)]
 bU:Hh K mg "NUMBERS_BEYOND" [(2,.int 0),(3,.int 2),(4,.int 0),(5,.int 0)]
 bB:Hh K mg "PLACE_CALLS" [(17,.ref kN.f),(18,.ref kO.f),(19,.ref ua.f),(27,.ref ow.f),(28,.ref tV.f)]
 aL:Hh K mg "STREAM_CALLS" [(0,.ref t8.f),(1,.ref z5.f),(2,.ref t7.f),(3,.ref t9.f),(4,.ref tU.f),(5,.ref kR.f),(6,.ref oI.f),(7,.ref zY.f),(8,.ref tX.f),(9,.ref tW.f),(10,.ref oG.f)]
 bq:Hh K mg "VALUE_CALLS" [(20,.ref rp.f),(21,.ref wH.f),(22,.ref rj.f),(23,.ref mP.f),(24,.ref j1.f),(25,.ref re.f),(26,.ref wI.f)]
section
variable {P:Program} {w:World} {K:PySem.W.Frag} {mg:Str→Option Value} {base:Heap} {x m q:Str} {st:Stmt} {ps N:List Str} {C:Addr} {k:Nat} {sp:Sp}
abbrev cM (P:Program) (w:World) (base:Heap) (d:Df K mg x st ps) (k:Nat) (sp:Sp):Prop:=iq P w K mg base x8 k d.f d.fd ps sp
abbrev pk (mg:Str→Option Value) (P:Program) (w:World) (base:Heap) (d:Me K C m q st ps) (k:Nat) (sp:Sp):Prop:=iq P w K mg base x8 k d.f d.fd ps sp
theorem Df.okA (d:Df K mg x st ps) (S:ap N ps (ag st))
  (hb:∀(cdv:Value) (A:Around) (outer:List Env) (s:Shared) (H:Hp) (vs:List V) (Q:VK) (E:XK),du k (A.deeper (envOfC x (ag st) s.heap.objs.size d.f cdv))→sp vs H Q E→
   ∃t,D9 (By x8 P w K mg base N x (ag st) d.f cdv A outer s H E).nox (gX st) t∧t {nx:=fun _ H'=>Q .non H',rt:=Q} (start N vs) H)
  (len:∀vs H Q E,sp vs H Q E→vs.length=ps.length:=by intro _ _ _ _ h;(repeat obtain⟨_,h⟩:=h);all_goals (subst_vars;rfl)):iq P w K mg base x8 (k+1) d.f d.fd ps sp:=d.F.ok S len hb
theorem Me.okA (d:Me K C m q st ps) (S:ap N ps (ag st))
  (hb:∀(cdv:Value) (A:Around) (outer:List Env) (s:Shared) (H:Hp) (vs:List V) (Q:VK) (E:XK),du k (A.deeper (envOfC q (ag st) s.heap.objs.size d.f cdv))→sp vs H Q E→
   ∃t,D9 (By x8 P w K mg base N q (ag st) d.f cdv A outer s H E).nox (gX st) t∧t {nx:=fun _ H'=>Q .non H',rt:=Q} (start N vs) H)
  (len:∀vs H Q E,sp vs H Q E→vs.length=ps.length:=by intro _ _ _ _ h;(repeat obtain⟨_,h⟩:=h);all_goals (subst_vars;rfl)):iq P w K mg base x8 (k+1) d.f d.fd ps sp:=d.F.ok S len hb
end
theorem bJ {N ps:List Str} {sc:Scope} (a:sc.kind= .function:=by rfl) (b:sc.isCoroutine=false:=by rfl) (c:sc.isGenerator=false:=by rfl) (d:N.Nodup:=by decide+kernel) (e:N.take ps.length=ps:=by rfl)
  (f:∀x∈ps,sc.names.lookup x=some .local∨sc.names.lookup x=some .cell:=by decide+kernel) (g:∀y∈sc.names,y.2≠ .free:=by decide+kernel):ap N ps sc:=⟨a,b,c,d,e,f,g⟩
theorem zr:ap ["self","factor","summand"] ["self","factor","summand"] (ag rT):=bJ
theorem uU:ap ["self","state"] ["self","state"] (ag mr):=bJ
theorem zt:ap ["self","other"] ["self","other"] (ag rV):=bJ
theorem dX:ap ["steps","left","leap","power"] ["steps"] (ag w9):=bJ
theorem cI:ap ["start","end","state","power","bit","steps"] ["start","end"] (ag uL):=bJ
theorem DA:ap ["number","least","greatest"] ["number","least","greatest"] (ag zp):=bJ
theorem zA:ap ["number"] ["number"] (ag r6):=bJ
theorem Ao:ap ["number"] ["number"] (ag uO):=bJ
theorem zz:ap ["number"] ["number"] (ag rZ):=bJ
theorem Am:ap ["number"] ["number"] (ag uM):=bJ
theorem vS:ap ["row"] ["row"] (ag o0):=bJ
theorem An:ap ["number"] ["number"] (ag uN):=bJ
theorem tu:ap ["bank","d"] ["bank","d"] (ag lx):=bJ
theorem vQ:ap ["self","seed"] ["self","seed"] (ag oW):=bJ
theorem mC:ap ["self","other"] ["self"] (ag oY):=bJ
theorem vR:ap ["self","steps"] ["self","steps"] (ag oX):=bJ
theorem h9:ap ["self","number"] ["self"] (ag iH):=bJ
theorem B5:ap ["u","many"] ["u","many"] (ag xc):=bJ
theorem cS:ap ["u","weights","mark","place","reached"] ["u","weights"] (ag mw):=bJ
theorem ga:ap ["stream","row","many","mixed","i","j","held"] ["stream","row","many"] (ag uS):=bJ
theorem d8:ap ["stream","weights","many","left","places","i","place"] ["stream","weights","many"] (ag qg):=bJ
theorem kF:ap ["bank","reader","k","a","b","u"] ["bank","reader"] (ag Bh):=bJ
theorem lz:ap ["bank","reader","k","weights","u"] ["bank","reader"] (ag zf):=bJ
theorem nX:ap ["bank","reader","k","n"] ["bank","reader"] (ag xg):=bJ
theorem lB:ap ["bank","reader","k","n","m"] ["bank","reader"] (ag zm):=bJ
theorem qr:ap ["bank","reader","k","row","number"] ["bank","reader"] (ag BY):=bJ
theorem jV:ap ["bank","reader","k","m","weights","weight"] ["bank","reader"] (ag zj):=bJ
theorem uW:ap ["place"] ["place"] (ag my):=bJ
theorem iL:ap ["bank","place","reader","call"] ["bank","place","reader"] (ag jp):=bJ
theorem nS:ap ["self","weights","shapes"] ["self","weights","shapes"] (ag iE):=bJ
theorem bi:ap ["self","u","low","high","middle"] ["self","u"] (ag d7):=bJ
theorem fh:ap ["self","place","u","t"] ["self","place","u"] (ag fK):=bJ
theorem ku:ap ["self","u"] ["self","u"] (ag fJ):=bJ
theorem dQ:ap ["weights","sums","reached","weight"] ["weights"] (ag pd):=bJ
theorem eC:ap ["weights","ends","total","reached","weight"] ["weights"] (ag uR):=bJ
theorem xK:ap ["top","bottom"] ["top","bottom"] (ag qi):=bJ
theorem fm:ap ["weights","shapes","shape"] ["weights","shapes"] (ag fO):=bJ
theorem fD:ap ["one","v","other","w","weight","weights"] ["one","v","other","w"] (ag ll):=bJ
theorem vU:ap ["distribution","factor","summand","shape","shapes"] ["distribution","factor","summand"] (ag ze):=bJ
theorem xH:ap ["self","top","bottom"] ["self","top","bottom"] (ag p8):=bJ
theorem ly:ap ["self","shared"] ["self"] (ag mv):=bJ
theorem vO:ap ["self","other"] ["self","other"] (ag oT):=bJ
theorem xI:ap ["self","other"] ["self","other"] (ag p9):=bJ
theorem rC:ap ["self","other"] ["self","other"] (ag kj):=bJ
theorem cv:ap ["a","b","larger","smaller","rest"] ["a","b"] (ag km):=bJ
theorem mF:ap ["top","bottom","ratio"] ["top","bottom"] (ag pc):=bJ
theorem jO:ap ["factors","result","factor"] ["factors"] (ag xf):=bJ
theorem cT:ap ["bottoms","parts","reached","bottom","part"] ["bottoms"] (ag mx):=bJ
theorem cA:ap ["top","factors","left","bottom","factor","shared"] ["top","factors"] (ag pb):=bJ
theorem bO:ap ["ratios","results","places","start","group","place","shared"] ["ratios"] (ag kl):=bJ
theorem cx:ap ["ratios","places","start","bottom","place"] ["ratios","places","start"] (ag dG):=bJ
theorem cX:ap ["ratios","bottom","tops","ratio"] ["ratios"] (ag kr):=bJ
theorem kE:ap ["ratio","shared","measure"] ["ratio","shared"] (ag lv):=bJ
theorem zw:ap ["self","x","y"] ["self","x","y"] (ag rX):=bJ
theorem B0:ap ["self","t","span"] ["self","t","span"] (ag wX):=bJ
theorem nV:ap ["self"] ["self"] (ag iG):=bJ
theorem uV:ap ["self"] ["self"] (ag mt):=bJ
theorem nU:ap ["self"] ["self"] (ag iF):=bJ
theorem lR:ap ["self"] ["self"] (ag gK):=bJ
theorem fi:ap ["self","v","strict","width","room"] ["self","v","strict"] (ag jI):=bJ
theorem zu:ap ["self","factor","summand"] ["self","factor","summand"] (ag rW):=bJ
theorem zq:ap ["self","x","gap","teeth"] ["self","x","gap","teeth"] (ag rS):=bJ
theorem BZ:ap ["self","t","span"] ["self","t","span"] (ag wW):=bJ
theorem nQ:ap ["self"] ["self"] (ag iD):=bJ
theorem uT:ap ["self"] ["self"] (ag mq):=bJ
theorem nO:ap ["self"] ["self"] (ag iC):=bJ
theorem f9:ap ["self","way"] ["self"] (ag gJ):=bJ
theorem cb:ap ["self","v","strict","room","step","reached"] ["self","v","strict"] (ag jH):=bJ
theorem qo:ap ["self","factor","summand","gap"] ["self","factor","summand"] (ag rR):=bJ
theorem tp:ap ["one","other"] ["one","other"] (ag lq):=bJ
theorem xM:ap ["ratio","bottom"] ["ratio","bottom"] (ag ql):=bJ
theorem xJ:ap ["top","bottom","v"] ["top","bottom","v"] (ag qh):=bJ
theorem B1:ap ["number","most"] ["number","most"] (ag wZ):=bJ
theorem xi:ap ["ratio","factor","summand","result"] ["ratio","factor","summand"] (ag zo):=bJ
theorem B4:ap ["x","y"] ["x","y"] (ag xa):=bJ
theorem B2:ap ["x","gap","teeth"] ["x","gap","teeth"] (ag w6):=bJ
theorem EG:ap ["x"] ["x"] (ag Bc):=bJ
theorem xL:ap ["a","b"] ["a","b"] (ag qk):=bJ
theorem iV:ap ["first","weights","i","shapes"] ["first","weights"] (ag jy):=bJ
theorem nW:ap ["base","exponent","result","i"] ["base","exponent"] (ag Bd):=bJ
theorem ra:ap ["many","some","result","i"] ["many","some"] (ag Dy):=bJ
theorem zB:ap ["numbers"] ["numbers"] (ag r8):=bJ
theorem Ap:ap ["numbers"] ["numbers"] (ag uP):=bJ
theorem zx:ap ["tries","p","q"] ["tries","p","q"] (ag rY):=bJ
theorem dP:ap ["numbers","n","p","q","i"] ["numbers"] (ag lQ):=bJ
theorem eB:ap ["numbers","m","p","q","i","weights"] ["numbers"] (ag nM):=bJ
theorem cC:ap ["numbers","a","b","n","i"] ["numbers"] (ag hU):=bJ
theorem jT:ap ["numbers","n","s","counts","i"] ["numbers"] (ag Dp):=bJ
theorem c5:ap ["counts","sides","result","i","side"] ["counts","sides"] (ag iK):=bJ
theorem qt:ap ["many","numbers","i"] ["many","numbers"] (ag tj):=bJ
theorem ie:ap ["many","numbers","i"] ["many","numbers"] (ag iT):=bJ
theorem iX:ap ["many","numbers","i"] ["many","numbers"] (ag jA):=bJ
theorem iW:ap ["many","numbers","i"] ["many","numbers"] (ag jz):=bJ
theorem jB:ap ["numbers","x","other"] ["numbers"] (ag qj):=bJ
theorem Aq:ap ["numbers","place"] ["numbers","place"] (ag uQ):=bJ
theorem B3:ap ["kind","a","b"] ["kind","a","b"] (ag w8):=bJ
theorem ph:ap ["kind","a","b","make"] ["kind","a","b"] (ag qc):=bJ
theorem pj:ap ["kind","a","b","make"] ["kind","a","b"] (ag qd):=bJ
theorem jq:ap ["bank","reader","d","kind","a","b"] ["bank","reader"] (ag zg):=bJ
theorem GS:ap ["bank","d","distribution"] ["bank","d","distribution"] (ag Dt):=bJ
theorem qp:ap ["bank","reader","d","refusal"] ["bank","reader"] (ag zh):=bJ
theorem jX:ap ["bank","reader","d","refusal","distribution","numbers","shape"] ["bank","reader"] (ag Dx):=bJ
theorem fk:ap ["bank","reader","d","e","f","v","w","one","other"] ["bank","reader"] (ag A9):=bJ
theorem eA:ap ["bank","reader","d","e","p","q","r","s","distribution","factor","summand"] ["bank","reader"] (ag Dn):=bJ
theorem tq:ap ["place"] ["place"] (ag lu):=bJ
theorem ia:ap ["bank","place","reader","call"] ["bank","place","reader"] (ag iI):=bJ
theorem vP:ap ["self","numbers"] ["self","numbers"] (ag oU):=bJ
theorem tm:ap ["self"] ["self"] (ag li):=bJ
theorem mB:ap ["self","number"] ["self"] (ag oV):=bJ
theorem fj:ap ["self","length","start"] ["self"] (ag jJ):=bJ
theorem vW:ap ["bank","reader","k","s"] ["bank","reader"] (ag Du):=bJ
theorem Dz:ap ["bank","reader","k"] ["bank","reader"] (ag FI):=bJ
theorem jW:ap ["bank","reader","k","n","stream","i"] ["bank","reader"] (ag zl):=bJ
theorem vX:ap ["bank","reader","k","n"] ["bank","reader"] (ag Dv):=bJ
theorem vT:ap ["bank","reader","k","n"] ["bank","reader"] (ag Dm):=bJ
theorem EF:ap ["bank","k","n","steps"] ["bank","k","n","steps"] (ag Bb):=bJ
theorem lA:ap ["bank","reader","k","b","stream"] ["bank","reader"] (ag zk):=bJ
theorem tw:ap ["bank","reader","k","stream"] ["bank","reader"] (ag Bg):=bJ
theorem zy:ap ["bank","reader","x","y"] ["bank","reader"] (ag FH):=bJ
theorem mE:ap ["bank","reader","k","y","stream","n"] ["bank","reader"] (ag Dr):=bJ
theorem vV:ap ["bank","reader","k","j"] ["bank","reader"] (ag Do):=bJ
theorem fq:ap ["bank","reader","k","n","g","leap","state","i"] ["bank","reader"] (ag Be):=bJ
theorem rD:ap ["place"] ["place"] (ag kn):=bJ
theorem gL:ap ["bank","place","reader","call"] ["bank","place","reader"] (ag g9):=bJ
theorem fo:ap ["distribution","found","start","end"] ["distribution"] (ag r9):=bJ
theorem dY:ap ["distribution","weight","shape"] ["distribution"] (ag hX):=bJ
theorem aJ:ap ["distribution","classes","weight","shape","parts","bottom","squared","means","squares","total","mean","variance"] ["distribution"] (ag eK):=bJ
theorem bd:ap ["distribution","ends","weight","shape","least","greatest","end"] ["distribution"] (ag hJ):=bJ
theorem bc:ap ["distribution","v","strict","weight","shape","chances","chance","parts","bottom","reached"] ["distribution","v","strict"] (ag fC):=bJ
theorem cW:ap ["distribution","v","strict","found","start","place","end"] ["distribution","v","strict"] (ag qf):=bJ
theorem bN:ap ["distribution","place","start","v","strict","end","low","high","at_first","middle"] ["distribution","place","start","v","strict"] (ag lr):=bJ
theorem xh:ap ["distribution","place","u","v","strict","value"] ["distribution","place","u","v","strict"] (ag zi):=bJ
theorem nY:ap ["bank","reader","d","u","refusal"] ["bank","reader"] (ag Bf):=bJ
theorem vY:ap ["ratio"] ["ratio"] (ag pf):=bJ
theorem qZ:ap ["bank","reader","d","k","refusal"] ["bank","reader"] (ag Dq):=bJ
theorem kD:ap ["bank","reader","d","k","n","refusal"] ["bank","reader"] (ag Ba):=bJ
theorem gA:ap ["bank","d","k","many","distribution","stream","numbers","ratio","i"] ["bank","d","k","many"] (ag vN):=bJ
theorem lC:ap ["bank","reader","d","refusal","found"] ["bank","reader"] (ag zn):=bJ
theorem fE:ap ["bank","reader","d","refusal","distribution","answer","ratio"] ["bank","reader"] (ag xb):=bJ
theorem iU:ap ["bank","reader","d","p","q","strict","refusal"] ["bank","reader"] (ag A8):=bJ
theorem jU:ap ["bank","reader","d","p","q","strict","refusal"] ["bank","reader"] (ag Ds):=bJ
theorem kC:ap ["bank","d","p","q","strict","refusal"] ["bank","d","p","q","strict"] (ag lj):=bJ
theorem ib:ap ["bank","place","reader","call"] ["bank","place","reader"] (ag iJ):=bJ
theorem kt:ap ["self","k"] ["self"] (ag lP):=bJ
theorem ic:ap ["calls","bank","reader","answered","answer"] ["calls"] (ag wY):=bJ
theorem mD:ap ["bank","reader","place"] ["bank","reader"] (ag oZ):=bJ
def DH (C:Addr) (R:List V→List (Str×V)→Prop):Sp:=fun vs H Q _=>∃p dx args fs,vs= .ref p::args∧R args fs∧H p=some (.ins C dx [])∧∀H':Hp,H' p=some (.ins C dx fs)→(∀b o,H b=some o→b≠p→H' b=some o)→Q .non H'
theorem cn {C x dx:Addr} {R:List V→List (Str×V)→Prop} {args:List V} {fs:List (Str×V)} {H1:Hp} {G:Hp→Prop} {E:XK} (nx:H1 x=none) (nd:H1 dx=none) (k:∀H2,H2 x=some (.ins C dx fs)→aC H1 H2→G H2) (r:R args fs):
  DH C R (.ref x::(args++ [])) (bC (bC H1 dx (.own x)) x (.ins C dx [])) (fun v H2=>v= .non∧G H2) E:=
 ⟨x,dx,args,fs,by rw [List.append_nil],r,af,fun H' h1 h2=>⟨rfl,k H' h1 (aC.made nx nd h2)⟩⟩
theorem l9 {a b:Int} (h1: -(2 ^ 64)<a) (h2:a<2 ^ 64):IntMulOk a b:= .of_left (intBits_le_64 h1 h2)
theorem C2 {a b:Int} (h1: -(2 ^ 64)<b) (h2:b<2 ^ 64):IntMulOk a b:= .of_right (intBits_le_64 h1 h2)
theorem aC.laid {H:Hp} {p:Addr} {o:HO} (h:H p=none):aC H (bC H p o):=fun b u e=>by
 rw [ak (aw e h)]
 exact e
section
variable {X:Cx} {x m q:Str} {st:Stmt} {ps at_:List Str} {k n:Nat} {sp:Sp} {e a b o:Expr} {es:List Expr} {t:TA} {te ta tb:TE} {p pos apos pos':Pos} {C:Addr}
theorem be (d:Df X.K X.mg x st ps) (F:iq X.prog X.w X.K X.mg X.base x8 k d.f d.fd ps sp) (hr:du n X.A) (ha:PA X (e::es) t) (hk:k≤n:=by decide) (hg:Gl X x:=by rfl) (hdb:(x==("__debug__":Str))=false:=by decide)
  (he:starEach (e::es) X.env=(false,eval e X.env)::starEach es X.env:=by rfl) (hpl:(backTo pos (starEach es X.env)).any (·.1)=false:=by rfl):PE X (.Call (.Name x p) (e::es) [] pos) (Ke sp [] E0 t):=JG F (hr.mono hk) hg d.mgx d.F.kp d.b .nil wU ha hdb he hpl
theorem xq {c:Kl X.K X.mg x at_} (d:Me X.K c.C "__init__" q st ps) (F:iq X.prog X.w X.K X.mg X.base x8 k d.f d.fd ps sp) (hr:du n X.A) (ha:PA X (e::es) t) (hk:k+1≤n:=by decide) (hg:Gl X x:=by rfl) (hdb:(x==("__debug__":Str))=false:=by decide)
  (he:starEach (e::es) X.env=(false,eval e X.env)::starEach es X.env:=by rfl) (hpl:(backTo pos (starEach es X.env)).any (·.1)=false:=by rfl):PE X (.Call (.Name x p) (e::es) [] pos) (IL c.C sp [] E0 t):=BT (c.mk' d) F (hr.mono hk) hg c.mgC d.b .nil wU ha hdb he hpl
theorem wB {pl:Sem Bool} (ho:PE X o ta) (d:Me X.K C m q st ps) (F:iq X.prog X.w X.K X.mg X.base x8 k d.f d.fd ps sp) (hr:du n X.A) (ha:PA X (e::es) t) (hk:k≤n:=by decide)
  (hst:starEach (e::es) X.env=(false,eval e X.env)::starEach es X.env:=by rfl) (hpl:(backTo pos (starEach es X.env)).any (·.1)=false:=by rfl)
  (ht:eval (.Call (.Attribute o m apos) (e::es) [] pos) X.env=(do
   let ov ←eval o X.env
   standAt apos.atName
   let (f,first) ←holding [ov] (getMethod ov m pl)
   callWith pos f first (backTo pos (starEach (e::es) X.env)) (backToKw pos (keywordEach [] X.env))):=by rfl):PE X (.Call (.Attribute o m apos) (e::es) [] pos) (DU C m sp [] E0 ta t):=JH ho d.cl d.meth F (hr.mono hk) d.b .nil wU ha hst hpl ht
theorem dm {pl:Sem Bool} (ho:PE X o ta) (d:Me X.K C m q st ps) (F:iq X.prog X.w X.K X.mg X.base x8 k d.f d.fd ps sp) (hr:du n X.A) (hk:k≤n:=by decide)
  (ht:eval (.Call (.Attribute o m apos) [] [] pos) X.env=(do
   let ov ←eval o X.env
   standAt apos.atName
   let (f,first) ←holding [ov] (getMethod ov m pl)
   callWith pos f first (backTo pos (starEach [] X.env)) (backToKw pos (keywordEach [] X.env))):=by rfl):PE X (.Call (.Attribute o m apos) [] [] pos) (DU C m sp [] E0 ta IM):=Iv ho d.cl d.meth F (hr.mono hk) d.b .nil wU ht
theorem dI {v:V} (g:GC X.mg x v) (hg:Gl X x:=by rfl) (hd:(x==("__debug__":Str))=false:=by decide):PE X (.Name x pos) (tC v):=FB hg g.eq g.rel hd
theorem FS {kvs:List (Int×V)} (g:Hh X.K X.mg x kvs) (hg:Gl X x:=by rfl) (hd:(x==("__debug__":Str))=false:=by decide):PE X (.Name x pos) (tC (.ref g.a)):=FB hg g.eq g.rel hd
theorem aW (i:Nat) (hN:X.N.Nodup) (he:PE X e te) (hi:X.N[i]?=some x:=by rfl) (hx:Km X.env.scope x:=by first | exact Or.inl rfl | exact Or.inr rfl) (hs:swapsWith e (some (.Name x pos')) pos.line X.env=pure false:=by rfl) (hf:X.fn x=true∨X.env.scope.names.lookup x=some .local:=by first | exact .inl rfl | exact .inr rfl | assumption):
  PS X (.Assign [.Name x pos'] e pos) (JW te (AS i)):=KY hN hi hx he hs hf
theorem i9 (i:Nat) (hN:X.N.Nodup) (hi:X.N[i]?=some x:=by rfl) (hx:Km X.env.scope x:=by first | exact Or.inl rfl | exact Or.inr rfl) (hf:X.fn x=true∨X.env.scope.names.lookup x=some .local:=by first | exact .inl rfl | exact .inr rfl | assumption):PG X (.Name x pos) (AS i):=JI hN hi hx hf
theorem fP (ha:PE X a ta) (hb:PE X b tb) (hs:E6 b:=by exact fun _ _=>rfl):PE X (.Subscript a b pos) (LX (K2 X.K) ta tb):=Dg Fn ha hb hs
end
end Pf
end
namespace Pf
open PySem PySem.Spec PyProof.Rows L2
section
variable {P:Program} {w:World} {K:PySem.W.Frag} {mg:Str→Option Value} {base:Heap}
def lf (f:Nat×Nat):List (Str×V):= [("factor",.int (f.1:Nat)),("summand",.int (f.2:Nat))]
def mR (T:Tx K mg) (H:Hp) (a:Addr) (f:Nat×Nat):Prop:=∃dx,H a=some (.ins T.dZ.C dx (lf f))
theorem HR (f:Nat×Nat) (x:Nat):((f.1:Int)*(x:Int)+(f.2:Int))%18446744073709551616=((Lc.jw f x:Nat):Int):=by
 unfold Lc.jw
 rw [Int.natCast_emod,Int.natCast_add,Int.natCast_mul]
 rfl
theorem C1 (a b:Nat):((a:Int)*(b:Int))%18446744073709551616=((a*b%Vbdeab.P:Nat):Int):=by
 rw [Int.natCast_emod,Int.natCast_mul]
 rfl
def zH (T:Tx K mg):Sp:=DH T.dZ.C (fun args fs=>∃a c:Nat,args= [.int a,.int c]∧fs=lf (a,c))
theorem g7 (T:Tx K mg):pk mg P w base T.gM 1 (zH T):=by
 refine T.gM.okA zr ?_ (by rintro _ _ _ _ ⟨p,dx,_,_,rfl,⟨a,c,rfl,rfl⟩,hp,k⟩;rfl)
 rintro _ A _ s H _ Q E hr ⟨p,dx,_,_,rfl,⟨a,c,rfl,rfl⟩,hp,k⟩
 refine⟨_,(ac (bS (pv 0) (pv 1) rfl)
   (ae (bS (pv 0) (pv 2) rfl))),?_⟩
 refine⟨_,rfl,_,rfl,p,_,dx,[],rfl,hp,T.dZ.cl,T.dZ.no _ (by decide),(by show 0<1000;decide),?_⟩
 refine⟨_,rfl,_,rfl,p,_,dx,_,rfl,af,T.dZ.cl,T.dZ.no _ (by decide),(by show 1<1000;decide),?_⟩
 exact k _ af fun b o e hb=>by rw [ak hb,ak hb];exact e
def u0 (T:Tx K mg):Sp:=fun vs H Q _=>∃(a:Addr) (f:Nat×Nat) (x:Nat),vs= [.ref a,.int x]∧mR T H a f∧Lc.J3 f∧Q (.int (Lc.jw f x:Nat)) H
theorem eS (T:Tx K mg):pk mg P w base T.dR 1 (u0 T):=by
 refine T.dR.okA uU ?_
 rintro _ A _ s H _ Q E hr ⟨a,f,x,rfl,⟨dx,h1⟩,nf,k⟩
 refine⟨_,(ae (aj (aB sU (aB bG (aB aH (ao (pv 0) rfl) (pv 1)) (ao (pv 0) rfl)) (dI T.qS)))),?_⟩
 refine⟨_,rfl,a,_,dx,_,_,rfl,h1,T.dZ.cl,T.dZ.no _ (by decide),rfl,_,rfl,_,_,rfl,rfl,l9 (by have:=nf.1;omega) (by have h:=nf.1;unfold Vbdeab.P at h;omega),?_⟩
 refine⟨_,rfl,a,_,dx,_,_,rfl,h1,T.dZ.cl,T.dZ.no _ (by decide),rfl,_,_,rfl,rfl,_,_,rfl,rfl,(by show(0:Int)<18446744073709551616;decide),?_⟩
 have e:=HR f x
 show Q (.int _) H
 rw [e]
 exact k
def zI (T:Tx K mg):Sp:=fun vs H Q _=>∃(a b:Addr) (f g:Nat×Nat),vs= [.ref a,.ref b]∧mR T H a f∧mR T H b g∧Lc.J3 f∧Lc.J3 g∧∀(x:Addr) (H':Hp),mR T H' x (Lc.Ae f g)→aC H H'→Q (.ref x) H'
theorem j9 (T:Tx K mg):pk mg P w base T.ju 3 (zI T):=by
 refine T.ju.okA zt ?_
 rintro _ A _ s H _ Q E hr ⟨a,b,f,g,rfl,⟨dx,h1⟩,⟨dy,h2⟩,nf,ng,k⟩
 refine⟨_,(ae (aj (xq T.gM (g7 T) hr (ab (aB sU (aB aH (ao (pv 0) rfl) (ao (pv 1) rfl)) (dI T.qS)) (ab (wB (pv 1) T.dR (eS T) hr (ab (ao (pv 0) rfl) ad)) ad))))),?_⟩
 refine⟨_,rfl,a,_,dx,_,_,rfl,h1,T.dZ.cl,T.dZ.no _ (by decide),rfl,_,rfl,b,_,dy,_,_,rfl,h2,T.dZ.cl,T.dZ.no _ (by decide),rfl,_,_,rfl,rfl,l9 (by have:=nf.1;omega) (by have h:=nf.1;unfold Vbdeab.P at h;omega),?_⟩
 refine⟨_,_,rfl,rfl,(by show(0:Int)<18446744073709551616;decide),?_⟩
 refine⟨_,rfl,b,dy,_,rfl,h2,rfl,_,rfl,a,_,dx,_,_,rfl,h1,T.dZ.cl,T.dZ.no _ (by decide),rfl,b,g,f.2,rfl,⟨dy,h2⟩,ng,?_⟩
 intro x dx' nx nd _
 refine cn nx nd (fun H2 e2 s2=>k x H2 ⟨dx',e2⟩ s2) ⟨f.1*g.1%Vbdeab.P,Lc.jw g f.2,?_,rfl⟩
 exact congrArg (fun z=> [V.int z,V.int ((Lc.jw g f.2:Nat):Int)]) (C1 f.1 g.1)
def Cg (T:Tx K mg):Sp:=fun vs H Q _=>∃steps:Int,vs= [.int steps]∧∀(x:Addr) (H':Hp),mR T H' x (Lc.pw (steps%18446744073709551616).toNat)→aC H H'→Q (.ref x) H'
theorem uy (T:Tx K mg):cM P w base T.rk 4 (Cg T):=by
 refine T.rk.okA dX ?_
 rintro _ A _ s H _ Q E hr ⟨steps,rfl,k⟩
 refine⟨_,(ac (aW 1 dX.nd (aB sU (pv 0) (dI T.qS)))
   (ac (aW 2 dX.nd (xq T.gM (g7 T) hr (ab am (ab am ad))))
   (ac (aW 3 dX.nd (xq T.gM (g7 T) hr (ab (dI T.z7) (ab (dI T.wK) ad))))
   (ac (jk PassesOwn.never (aO rP (pv 1) am (aV _)) (ac (aQ (aO oR (aB sU (pv 1) am) am (aV _)) (ae (aW 2 dX.nd (wB (pv 2) T.ju (j9 T) hr (ab (pv 3) ad)))) aE)
   (ac (aW 3 dX.nd (wB (pv 3) T.ju (j9 T) hr (ab (pv 3) ad)))
   (ae (aW 1 dX.nd (aB bV (pv 1) am))))))
   (ae (aj (pv 2))))))),?_⟩
 refine⟨_,rfl,_,_,rfl,rfl,(by show(0:Int)<18446744073709551616;decide),?_⟩
 intro a dxa na nda _
 refine cn na nda (fun H1 ha s1=> ?_) ⟨1,0,rfl,rfl⟩
 intro b dxb nb ndb _
 refine cn nb ndb (fun H2 hb s2=> ?_) ⟨Vbdeab.A,Vbdeab.C,rfl,rfl⟩
 refine⟨fun m σ H'=>∃(l p q:Nat) (x y:Addr),m=l∧σ= [some (.int steps),some (.int l),some (.ref x),some (.ref y)]∧mR T H' x (Lc.pw p)∧mR T H' y (Lc.pw q)∧p+l*q=(steps%18446744073709551616).toNat∧aC H H',⟨(steps%18446744073709551616).toNat,?_⟩,?_⟩
 ·refine⟨(steps%18446744073709551616).toNat,0,1,a,b,rfl,?_,⟨dxa,s2 _ _ ha⟩,⟨dxb,?_⟩,by omega,s1.trans s2⟩
  ·rw [Int.toNat_of_nonneg (Int.emod_nonneg _ (by decide))]
   rfl
  ·rw [Lc.ID]
   exact hb
 ·rintro l σ H' ⟨_,p,q,x,y,rfl,rfl,⟨dx,hx⟩,⟨dy,hy⟩,e,sm⟩
  refine⟨_,rfl,_,_,rfl,rfl,_,rfl,aU (fun hl=>⟨_,fun _ _ z=>z,?_⟩) (fun hl=> ?_)⟩
  ·have hl':0<l:=by have:=of_decide_eq_true hl;omega
   refine⟨_,rfl,_,_,rfl,rfl,(by show(0:Int)<2;decide),rfl,_,rfl,aU (fun ho=> ?_) (fun ho=> ?_)⟩
   ·have ho':l%2=1:=by have:=V.int.inj (of_decide_eq_true ho);omega
    refine⟨_,rfl,x,dx,_,rfl,hx,rfl,_,rfl,x,y,_,_,rfl,⟨dx,hx⟩,⟨dy,hy⟩,Lc.kg _,Lc.kg _,fun x2 H2 hx2 sm2=> ?_⟩
    refine⟨_,rfl,y,dy,_,rfl,sm2 _ _ hy,rfl,_,rfl,y,y,_,_,rfl,⟨dy,sm2 _ _ hy⟩,⟨dy,sm2 _ _ hy⟩,Lc.kg _,Lc.kg _,fun y2 H3 hy2 sm3=> ?_⟩
    refine⟨_,rfl,_,_,rfl,rfl,⟨by decide,by decide+kernel⟩,?_⟩
    obtain⟨e1,e2⟩:=Lc.HV (a:=p) (b:=q) ho'
    rw [e1] at hx2
    rw [←Lc.lO] at hy2
    obtain⟨dx2,hx2⟩:=hx2
    exact⟨l /2,by omega,l /2,p+q,q+q,x2,y2,rfl,rfl,⟨dx2,sm3 _ _ hx2⟩,hy2,by rw [e2];exact e,(sm.trans sm2).trans sm3⟩
   ·have ho':l%2=0:=by
     have:¬((l:Int)%2=1):=fun z=>ho (decide_eq_true (congrArg V.int z))
     omega
    refine⟨_,rfl,y,dy,_,rfl,hy,rfl,_,rfl,y,y,_,_,rfl,⟨dy,hy⟩,⟨dy,hy⟩,Lc.kg _,Lc.kg _,fun y2 H3 hy2 sm3=> ?_⟩
    refine⟨_,rfl,_,_,rfl,rfl,⟨by decide,by decide+kernel⟩,?_⟩
    rw [←Lc.lO] at hy2
    exact⟨l /2,by omega,l /2,p,q+q,x,y2,rfl,rfl,⟨dx,sm3 _ _ hx⟩,hy2,by rw [Lc.Gu ho'];exact e,sm.trans sm3⟩
  ·have hl':l=0:=by
    have:¬((0:Int)<(l:Int)):=fun z=>hl (decide_eq_true z)
    omega
   subst hl'
   refine⟨_,rfl,?_⟩
   rw [Nat.zero_mul,Nat.add_zero] at e
   rw [←e] at k
   exact k x H' ⟨dx,hx⟩ sm
theorem mS (a b:Nat):Builtin.bitAnd (a:Int) (b:Int)=((a &&& b:Nat):Int):=by
 rfl
def As (T:Tx K mg):Sp:=fun vs H Q _=>∃x y:Nat,vs= [.int x,.int y]∧x<Vbdeab.P∧y<Vbdeab.P∧∀H':Hp,aC H H'→Q (.int (Vbdeab.far x y:Nat)) H'
theorem rO (T:Tx K mg):cM P w base T.oA 4 (As T):=by
 refine T.oA.okA cI ?_
 rintro _ A _ s H _ Q E hr ⟨x,y,rfl,hx,hy,k⟩
 refine⟨_,(ac (aW 2 cI.nd (pv 0))
   (ac (aW 3 cI.nd (xq T.gM (g7 T) hr (ab (dI T.z7) (ab (dI T.wK) ad))))
   (ac (aW 4 cI.nd am)
   (ac (aW 5 cI.nd am)
   (ac (jk PassesOwn.never (aO FA (pv 2) (pv 1) (aV _)) (ac (aQ (aO FA (aB Ik (pv 2) (pv 4)) (aB Ik (pv 1) (pv 4)) (aV _)) (ac (aW 2 cI.nd (wB (pv 3) T.dR (eS T) hr (ab (pv 2) ad)))
   (ae (lN (i:=5) cI.nd rfl (Or.inl rfl) (pv 4) j8))) aE)
   (ac (aW 3 cI.nd (wB (pv 3) T.ju (j9 T) hr (ab (pv 3) ad)))
   (ae (aW 4 cI.nd (aB aH (pv 4) am))))))
   (ae (aj (pv 5)))))))),?_⟩
 refine⟨_,rfl,?_⟩
 intro a dxa na nda _
 refine cn na nda (fun H1 ha s1=> ?_) ⟨Vbdeab.A,Vbdeab.C,rfl,rfl⟩
 refine⟨fun m σ H'=>∃(j st n:Nat) (b:Addr),m+j=64∧σ= [some (.int x),some (.int y),some (.int st),some (.ref b),some (.int (2 ^ j:Nat)),some (.int n)]∧mR T H' b (Lc.sq j)∧st<Vbdeab.P∧st%2 ^ j=y%2 ^ j∧Vbdeab.far x y=n+farFrom m j st y∧aC H H',⟨64,?_⟩,?_⟩
 ·exact⟨0,x,0,a,rfl,rfl,⟨dxa,ha⟩,hx,by rw [Nat.pow_zero,Nat.mod_one,Nat.mod_one],by rw [Nat.zero_add];rfl,s1⟩
 ·rintro m σ H' ⟨j,st,n,b,hm,rfl,⟨db,hb⟩,hst,hlow,hfar,sm⟩
  refine⟨_,rfl,_,rfl,rfl,_,rfl,aU (fun hl=>⟨_,fun _ _ z=>z,?_⟩) (fun hl=> ?_)⟩
  ·have hne:st≠y:=fun z=>by rw [z] at hl;simp at hl
   have hj:j<64:=by
    rcases Nat.lt_or_ge j 64 with q | q
    ·exact q
    ·have:j=64:=by omega
     subst this
     exact absurd (Lc.Hn hst hy hlow) hne
   obtain⟨m',rfl⟩:∃m',m=m'+1:=⟨m - 1,by omega⟩
   have hnr:Lc.J3 (Lc.sq j):=by rw [Lc.FJ];exact Lc.kg _
   have e2:(((2 ^ j:Nat):Int))*2=((2 ^ (j+1):Nat):Int):=by rw [Nat.pow_succ,Int.natCast_mul];rfl
   refine⟨_,rfl,_,rfl,_,_,rfl,rfl,_,rfl,_,rfl,_,_,rfl,rfl,rfl,_,rfl,aU (fun ho=> ?_) (fun ho=> ?_)⟩
   ·have hbit:¬(st%2 ^ (j+1)=y%2 ^ (j+1)):=fun z=>by
     have q:=(Lc.Fb hlow).mpr z
     have q2:V.int (Builtin.bitAnd (st:Int) ((2 ^ j:Nat):Int))=V.int (Builtin.bitAnd (y:Int) ((2 ^ j:Nat):Int)):=by rw [mS,mS,q]
     rw [decide_eq_true q2] at ho
     cases ho
    refine⟨_,rfl,b,db,_,rfl,hb,rfl,_,rfl,b,_,st,rfl,⟨db,hb⟩,hnr,?_⟩
    refine⟨_,rfl,_,rfl,_,_,rfl,rfl,?_⟩
    refine⟨_,rfl,b,db,_,rfl,hb,rfl,_,rfl,b,b,_,_,rfl,⟨db,hb⟩,⟨db,hb⟩,hnr,hnr,fun b2 H3 hb2 sm3=> ?_⟩
    refine⟨_,rfl,_,_,rfl,rfl,C2 (by decide) (by decide),?_⟩
    refine⟨m',by omega,j+1,Lc.jw (Lc.sq j) st,n+2 ^ j,b2,by omega,?_,hb2,Lc.BG _ _,Lc.JT hj hlow hbit,?_,sm.trans sm3⟩
    ·rw [←e2,Int.natCast_add]
     rfl
    ·rw [hfar,Lc.KA hj hbit,Nat.add_assoc]
   ·have hbit:st%2 ^ (j+1)=y%2 ^ (j+1):=by
     apply (Lc.Fb hlow).mp
     by_cases q2:V.int (Builtin.bitAnd (st:Int) ((2 ^ j:Nat):Int))=V.int (Builtin.bitAnd (y:Int) ((2 ^ j:Nat):Int))
     ·have q3:=V.int.inj q2
      rw [mS,mS] at q3
      exact Int.ofNat.inj q3
     ·exact absurd (by show(!decide _)=true;rw [decide_eq_false q2];rfl) ho
    refine⟨_,rfl,b,db,_,rfl,hb,rfl,_,rfl,b,b,_,_,rfl,⟨db,hb⟩,⟨db,hb⟩,hnr,hnr,fun b2 H3 hb2 sm3=> ?_⟩
    refine⟨_,rfl,_,_,rfl,rfl,C2 (by decide) (by decide),?_⟩
    refine⟨m',by omega,j+1,st,n,b2,by omega,?_,hb2,hst,hbit,?_,sm.trans sm3⟩
    ·rw [←e2]
     rfl
    ·rw [hfar,Lc.Ky hbit]
  ·have heq:st=y:=by
    by_cases q:st=y
    ·exact q
    ·have q':¬V.int (st:Int)=V.int (y:Int):=fun z=>q (Int.ofNat.inj (V.int.inj z))
     exact absurd (by rw [decide_eq_false q'];rfl) hl
   subst heq
   refine⟨_,rfl,?_⟩
   rw [Lc.CK,Nat.add_zero] at hfar
   rw [hfar] at k
   exact k H' sm
def DK (T:Tx K mg):Sp:=fun vs H Q _=>∃n a b:Int,vs= [.int n,.int a,.int b]∧Q (.bl (decide (a≤n∧n≤b))) H
theorem a4 (T:Tx K mg):cM P w base T.bE 1 (DK T):=by
 refine T.bE.okA DA ?_
 rintro _ A _ s H _ Q E hr ⟨n,a,b,rfl,k⟩
 refine⟨_,(ae (aj (Ir Ka Ka (pv 1) (pv 0) (pv 2)))),?_⟩
 refine⟨_,rfl,_,rfl,_,_,rfl,rfl,_,rfl,aU (fun h1=>⟨_,rfl,_,_,rfl,rfl,?_⟩) (fun h1=> ?_)⟩
 ·have h1':a≤n:=of_decide_eq_true h1
  have e:decide (a≤n∧n≤b)=decide (n≤b):=by by_cases q:n≤b<;>simp [q,h1']
  rw [e] at k
  exact k
 ·have h1':¬a≤n:=fun z=>h1 (decide_eq_true z)
  have e:decide (a≤n∧n≤b)=false:=decide_eq_false fun z=>h1' z.1
  rw [e] at k
  exact k
def zO (T:Tx K mg):Sp:=fun vs H Q _=>∃n:Int,vs= [.int n]∧Q (.bl (decide (0≤n∧n≤63))) H
theorem aY (T:Tx K mg):cM P w base T.bn 2 (zO T):=by
 refine T.bn.okA zA ?_
 rintro _ A _ s H _ Q E hr ⟨n,rfl,k⟩
 refine⟨_,(ae (aj (be T.bE (a4 T) hr (ab (pv 0) (ab am (ab (aB bI (dI T.wJ) am) ad)))))),?_⟩
 exact⟨_,rfl,_,_,rfl,rfl,n,0,63,rfl,k⟩
def Av (T:Tx K mg):Sp:=fun vs H Q _=>∃n:Int,vs= [.int n]∧Q (.bl (decide (0≤n∧n≤18446744073709551615))) H
theorem er (T:Tx K mg):cM P w base T.fw 2 (Av T):=by
 refine T.fw.okA Ao ?_
 rintro _ A _ s H _ Q E hr ⟨n,rfl,k⟩
 refine⟨_,(ae (aj (be T.bE (a4 T) hr (ab (pv 0) (ab am (ab (aB bI (dI T.qS) am) ad)))))),?_⟩
 exact⟨_,rfl,_,_,rfl,rfl,n,0,_,rfl,k⟩
def zN (T:Tx K mg):Sp:=fun vs H Q _=>∃n:Int,vs= [.int n]∧Q (.bl (decide (0≤n∧n≤1000))) H
theorem e9 (T:Tx K mg):cM P w base T.fv 2 (zN T):=by
 refine T.fv.okA zz ?_
 rintro _ A _ s H _ Q E hr ⟨n,rfl,k⟩
 refine⟨_,(ae (aj (be T.bE (a4 T) hr (ab (pv 0) (ab am (ab (dI T.D5) ad)))))),?_⟩
 exact⟨_,rfl,n,0,_,rfl,k⟩
def At (T:Tx K mg):Sp:=fun vs H Q _=>∃n:Int,vs= [.int n]∧Q (.bl (decide (-1000000000000000000≤n∧n≤1000000000000000000))) H
theorem eh (T:Tx K mg):cM P w base T.fu 2 (At T):=by
 refine T.fu.okA Am ?_
 rintro _ A _ s H _ Q E hr ⟨n,rfl,k⟩
 refine⟨_,(ae (aj (be T.bE (a4 T) hr (ab (pv 0) (ab (FC Cn (dI T.i8)) (ab (dI T.i8) ad)))))),?_⟩
 exact⟨_,rfl,_,rfl,n,-1000000000000000000,_,rfl,k⟩
theorem mL:∀{l:List Int},(∀x∈l,0≤x)→l.sum=((Vbdeab.sum (l.map Int.toNat):Nat):Int)
 | [],_=>rfl
 | a::r,h=>by
  rw [List.sum_cons,mL fun x hx=>h x (List.mem_cons_of_mem _ hx),List.map_cons,Ch.sum_cons,Int.natCast_add,Int.toNat_of_nonneg (h a List.mem_cons_self)]
theorem ij {l:List Int} (h:(weights l).isSome=true):(∀x∈l,0≤x)∧weights l=some (l.map Int.toNat)∧1≤l.length∧l.length≤64∧1≤Vbdeab.sum (l.map Int.toNat)∧Vbdeab.sum (l.map Int.toNat)≤10 ^ 40:=by
 unfold weights at h⊢
 split at h
 ·rename_i hc
  obtain⟨h1,h2⟩:=hc
  rw [if_pos ⟨h1,h2⟩]
  unfold weightsOk LIMIT at h2
  simp only [Bool.and_eq_true,decide_eq_true_eq,List.length_map] at h2
  exact⟨fun x hx=>of_decide_eq_true (List.all_eq_true.mp h1 x hx),rfl,h2.1.1.1,h2.1.1.2,h2.1.2,h2.2⟩
 ·cases h
theorem ot {l:List Int} (h:¬((∀x∈l,0≤x)∧1≤l.length∧l.length≤64∧1≤l.sum∧l.sum≤10000000000000000000000000000000000000000)):(weights l).isSome=false:=by
 cases e:(weights l).isSome with
 | false=>rfl
 | true=>
  obtain⟨h1,_,h2,h3,h4,h5⟩:=ij e
  refine absurd ⟨h1,h2,h3,?_,?_⟩ h
  ·rw [mL h1];omega
  ·rw [mL h1]
   have:((Vbdeab.sum (l.map Int.toNat):Nat):Int)≤((10 ^ 40:Nat):Int):=Int.ofNat_le.mpr h5
   exact this
theorem E1 {l:List Int} (h:(∀x∈l,0≤x)∧1≤l.length∧l.length≤64∧1≤l.sum∧l.sum≤10000000000000000000000000000000000000000):(weights l).isSome=true:=by
 obtain⟨h1,h2,h3,h4,h5⟩:=h
 unfold weights
 rw [mL h1] at h4 h5
 rw [if_pos]
 ·rfl
 ·refine⟨List.all_eq_true.mpr fun x hx=>decide_eq_true (h1 x hx),?_⟩
  unfold weightsOk LIMIT
  simp only [Bool.and_eq_true,decide_eq_true_eq,List.length_map]
  exact⟨⟨⟨h2,h3⟩,by omega⟩,Int.ofNat_le.mp (show((Vbdeab.sum (l.map Int.toNat):Nat):Int)≤((10 ^ 40:Nat):Int) from h5)⟩
def we (T:Tx K mg):Sp:=fun vs H Q _=>∃(a:Addr) (ns:List Int),vs= [.ref a]∧aX K H a (ns.map V.int)∧Q (.bl (weights ns).isSome) H
theorem iQ (T:Tx K mg):cM P w base T.gf 2 (we T):=by
 refine T.gf.okA vS ?_
 rintro _ A _ s H _ Q E hr ⟨a,ns,rfl,hs,k⟩
 refine⟨_,(ac (aQ (aS (aP (be T.bE (a4 T) hr (ab (a5 aT (by rfl) T.eV PySem.boot_len (ab (pv 0) ad)) (ab am (ab (dI T.z9) ad)))))) (ae (aj Kb)) aE)
   (ac (aQ (aO jj (a5 (Kw rfl) (by rfl) T.IZ (by rfl) (ab (pv 0) ad)) am (aV _)) (ae (aj Kb)) aE)
   (ae (aj (be T.bE (a4 T) hr (ab (a5 (Bx rfl) (by rfl) T.FU (by rfl) (ab (pv 0) ad)) (ab am (ab (dI T.z8) ad)))))))),?_⟩
 refine⟨_,rfl,a,_,rfl,.inl hs,_,_,_,rfl,_,rfl,aU (fun h1=> ?_) (fun h1=> ?_)⟩
 ·rw [ot fun z=>by rw [List.length_map] at h1;simp at h1;omega] at k
  exact k
 ·have hl:1≤ns.length∧ns.length≤64:=by
   rw [List.length_map] at h1
   simp at h1
   omega
  refine⟨_,rfl,a,ns,rfl,hs,hl.1,fun m hm hle=>⟨_,_,rfl,rfl,_,rfl,aU (fun h2=> ?_) (fun h2=> ?_)⟩⟩
  ·have h2':m<0:=of_decide_eq_true h2
   rw [ot fun z=>by have:=z.1 m hm;omega] at k
   exact k
  ·have h2':0≤m:=Int.not_lt.mp fun z=>h2 (decide_eq_true z)
   have hnn:∀x∈ns,0≤x:=fun x hx=>Int.le_trans h2' (hle x hx)
   refine⟨_,rfl,a,ns,rfl,hs,_,_,_,rfl,?_⟩
   by_cases q:1≤ns.sum∧ns.sum≤10000000000000000000000000000000000000000
   ·rw [E1 ⟨hnn,hl.1,hl.2,q.1,q.2⟩] at k
    rw [decide_eq_true q]
    exact k
   ·rw [ot fun z=>q ⟨z.2.2.2.1,z.2.2.2.2⟩] at k
    rw [decide_eq_false q]
    exact k
def Sz (m:Nat) (x:Int):Prop:=x.natAbs<2 ^ m
theorem Sz.mono {m n:Nat} {x:Int} (h:Sz m x) (k:m≤n):Sz n x:=Nat.lt_of_lt_of_le h (Nat.pow_le_pow_right (by decide) k)
theorem Sz.mul {m n k:Nat} {x y:Int} (h:Sz m x) (g:Sz n y) (e:m+n≤k:=by decide):Sz k (x*y):=by
 refine Sz.mono (m:=m+n) ?_ e
 show(x*y).natAbs<2 ^ (m+n)
 rw [Int.natAbs_mul,Nat.pow_add]
 exact Nat.mul_lt_mul'' h g
theorem Sz.add {m n k:Nat} {x y:Int} (h:Sz m x) (g:Sz n y) (e1:m+1≤k:=by decide) (e2:n+1≤k:=by decide):Sz k (x+y):=by
 have h1:x.natAbs<2 ^ (k - 1):=h.mono (by omega)
 have h2:y.natAbs<2 ^ (k - 1):=g.mono (by omega)
 show(x+y).natAbs<2 ^ k
 have e:2 ^ k=2 ^ (k - 1)*2:=by rw [←Nat.pow_succ];congr 1;omega
 rw [e]
 omega
theorem Sz.neg {m:Nat} {x:Int} (h:Sz m x):Sz m (-x):=by show(-x).natAbs<_;rw [Int.natAbs_neg];exact h
theorem Sz.sub {m n k:Nat} {x y:Int} (h:Sz m x) (g:Sz n y) (e1:m+1≤k:=by decide) (e2:n+1≤k:=by decide):Sz k (x - y):=by
 rw [Int.sub_eq_add_neg]
 exact h.add g.neg e1 e2
theorem Sz.le {m:Nat} {x y:Int} (h:Sz m y) (e:x.natAbs≤y.natAbs):Sz m x:=Nat.lt_of_le_of_lt e h
theorem Sz.ediv {m:Nat} {x y:Int} (h:Sz m x) (hy:0<y):Sz m (x /y):=by
 refine h.le ?_
 have k1:=Int.ediv_mul_le x (show y≠0 by omega)
 have k2:=Int.lt_ediv_add_one_mul_self x hy
 generalize x /y=d at*
 by_cases hd:0≤d
 ·have:d*1≤d*y:=Int.mul_le_mul_of_nonneg_left (by omega) hd
  omega
 ·have:(d+1)*y≤(d+1)*1:=Int.mul_le_mul_of_nonpos_left (by omega) (by omega)
  omega
theorem Sz.emod {m:Nat} {x y:Int} (h:Sz m y) (hy:0<y):Sz m (x%y):=by
 refine h.le ?_
 have:=Int.emod_nonneg x (show y≠0 by omega)
 have:=Int.emod_lt_of_pos x hy
 omega
theorem bo {m n:Nat} {x y:Int} (h:Sz m x) (g:Sz n y) (e:m+n≤134217728:=by decide):IntMulOk x y:= .of_le (PySem.intBits_le_iff.mpr h) (PySem.intBits_le_iff.mpr g) e
theorem mV {x y:Int} (h:0<y) (g:Sz 9000 y):J0 x y:=⟨h,(Nat.log2_lt (by omega)).mpr g⟩
def M6 (n d:Int):List (Str×V):= [("top",.int n),("bottom",.int d)]
def dW (T:Tx K mg) (H:Hp) (a:Addr) (n d:Int):Prop:=∃dx,H a=some (.ins T.aA.C dx (M6 n d))
def ir (T:Tx K mg) (H:Hp) (a:Addr) (q:Vbdeab.Q):Prop:=dW T H a q.num (q.den:Int)
def fH (H H':Hp):Prop:=∀b C dx fs,H b=some (.ins C dx fs)→H' b=some (.ins C dx fs)
theorem aC.i {H H':Hp} (s:aC H H'):fH H H':=fun b C dx fs e=>s _ _ e
theorem fH.lst {H:Hp} {D:Addr} {xs:List V} {o:HO} (h:H D=some (.lst xs)):fH H (bC H D o):=fun b C dx fs e=>by
 rw [ak (bb e h (by intro z;cases z))]
 exact e
theorem dW.si {T:Tx K mg} {H H':Hp} {a:Addr} {n d:Int} (h:dW T H a n d) (s:fH H H'):dW T H' a n d:=let ⟨dx,e⟩:=h;⟨dx,s _ _ _ _ e⟩
theorem ir.si {T:Tx K mg} {H H':Hp} {a:Addr} {q:Vbdeab.Q} (h:ir T H a q) (s:fH H H'):ir T H' a q:=dW.si h s
theorem dW.same {T:Tx K mg} {H H':Hp} {a:Addr} {n d:Int} (h:dW T H a n d) (s:aC H H'):dW T H' a n d:=let ⟨dx,e⟩:=h;⟨dx,s _ _ e⟩
theorem ir.same {T:Tx K mg} {H H':Hp} {a:Addr} {q:Vbdeab.Q} (h:ir T H a q) (s:aC H H'):ir T H' a q:=dW.same h s
def OQ (T:Tx K mg) (H:Hp) (v:V) (o:Option Vbdeab.Q):Prop:=match o with
 | none=>v= .non
 | some q=>∃x,v= .ref x∧ir T H x q
theorem OQ.same {T:Tx K mg} {H H':Hp} {v:V} {o:Option Vbdeab.Q} (h:OQ T H v o) (s:aC H H'):OQ T H' v o:=by
 cases o with
 | none=>exact h
 | some q=>obtain⟨x,e,h⟩:=h;exact⟨x,e,h.same s⟩
theorem ma {p:Prop} [Decidable p] (h:(!decide p)=true):¬p:=fun q=>by rw [decide_eq_true q] at h;cases h
theorem md {p:Prop} [Decidable p] (h:¬(!decide p)=true):p:=by
 by_cases q:p
 ·exact q
 ·exact absurd (by rw [decide_eq_false q];rfl) h
theorem aC.refl' (H:Hp):aC H H:=fun _ _ e=>e
def xO (T:Tx K mg):Sp:=DH T.aA.C (fun args fs=>∃n d:Int,args= [.int n,.int d]∧fs=M6 n d)
theorem a6 (T:Tx K mg):pk mg P w base T.bf 1 (xO T):=by
 refine T.bf.okA xH ?_ (by rintro _ _ _ _ ⟨p,dx,_,_,rfl,⟨n,d,rfl,rfl⟩,hp,k⟩;rfl)
 rintro _ A _ s H _ Q E hr ⟨p,dx,_,_,rfl,⟨n,d,rfl,rfl⟩,hp,k⟩
 refine⟨_,(ac (bS (pv 0) (pv 1) rfl)
   (ae (bS (pv 0) (pv 2) rfl))),?_⟩
 refine⟨_,rfl,_,rfl,p,_,dx,_,rfl,hp,T.aA.cl,T.aA.no _ (by decide),(by show 0<1000;decide),?_⟩
 refine⟨_,rfl,_,rfl,p,_,dx,_,rfl,af,T.aA.cl,T.aA.no _ (by decide),(by show 1<1000;decide),?_⟩
 exact k _ af fun b o e hb=>by rw [ak hb,ak hb];exact e
def rF (T:Tx K mg):Sp:=fun vs H Q _=>∃a b:Int,vs= [.int a,.int b]∧0<b∧Q (.int (Nat.gcd a.natAbs b.toNat:Nat)) H
theorem cu (T:Tx K mg):cM P w base T.cf 1 (rF T):=by
 refine T.cf.okA cv ?_
 rintro _ A _ s H _ Q E hr ⟨a,b,rfl,hb,k⟩
 refine⟨_,(ac (aW 2 cv.nd (pv 0))
   (ac (aW 3 cv.nd (pv 1))
   (ac (jk PassesOwn.never (aO rP (pv 3) am (aV _)) (ac (aW 4 cv.nd (aB sU (pv 2) (pv 3)))
   (ac (aW 2 cv.nd (pv 3))
   (ae (aW 3 cv.nd (pv 4))))))
   (ae (aj (pv 2)))))),?_⟩
 refine⟨_,rfl,_,rfl,fun m σ H'=>∃(l s:Int) (v:Option V),m=s.toNat∧0≤s∧σ= [some (.int a),some (.int b),some (.int l),some (.int s),v]∧Nat.gcd l.natAbs s.natAbs=Nat.gcd a.natAbs b.toNat∧(s=0→0≤l)∧H'=H,⟨b.toNat,a,b,none,rfl,by omega,rfl,by rw [show b.natAbs=b.toNat by omega],fun z=>by omega,rfl⟩,?_⟩
 rintro m σ H' ⟨l,s,v,rfl,hs,rfl,hg,hl,rfl⟩
 refine⟨_,rfl,_,_,rfl,rfl,_,rfl,aU (fun ht=>⟨_,fun _ _ z=>z,?_⟩) (fun ht=> ?_)⟩
 ·have hs':0<s:=of_decide_eq_true ht
  refine⟨_,rfl,_,rfl,_,_,rfl,rfl,hs',?_⟩
  refine⟨_,rfl,_,rfl,?_⟩
  have h1:=Int.emod_nonneg l (show s≠0 by omega)
  have h2:=Int.emod_lt_of_pos l hs'
  exact⟨(l%s).toNat,by omega,s,l%s,_,rfl,h1,rfl,by rw [←hg];exact Kd.HH hs',fun _=>hs,rfl⟩
 ·have hs':¬0<s:=fun z=>ht (decide_eq_true z)
  have e:s=0:=by omega
  subst e
  refine⟨_,rfl,?_⟩
  have h0:=hl rfl
  rw [←hg] at k
  have e2:((Nat.gcd l.natAbs (0:Int).natAbs:Nat):Int)=l:=by rw [show(0:Int).natAbs=0 from rfl,Nat.gcd_zero_right];omega
  rw [e2] at k
  exact k
theorem cG {n d:Int} (h:0<d):(0:Int)<((Nat.gcd n.natAbs d.toNat:Nat):Int):=by
 have:=Nat.gcd_pos_of_pos_right n.natAbs (n:=d.toNat) (by omega)
 omega
theorem jg {n d:Int} {m:Nat} (h:0<d) (z:Sz m d):Sz m ((Nat.gcd n.natAbs d.toNat:Nat):Int):=by
 refine z.le ?_
 have:=Nat.gcd_le_right n.natAbs (n:=d.toNat) (by omega)
 omega
def u7 (T:Tx K mg):Sp:=fun vs H Q _=>∃(a:Addr) (n d:Int),vs= [.ref a]∧dW T H a n d∧0<d∧Sz 9000 d∧∀(x:Addr) (H':Hp),ir T H' x (Vbdeab.mkQ n d.toNat)→aC H H'→Q (.ref x) H'
theorem dB (T:Tx K mg):pk mg P w base T.dk 3 (u7 T):=by
 refine T.dk.okA ly ?_
 rintro _ A _ s H _ Q E hr ⟨a,n,d,rfl,⟨dx,h1⟩,hd,hz,k⟩
 refine⟨_,(ac (aW 1 ly.nd (be T.cf (cu T) hr (ab (ao (pv 0) rfl) (ab (ao (pv 0) rfl) ad))))
   (ae (aj (xq T.bf (a6 T) hr (ab (aB bV (ao (pv 0) rfl) (pv 1)) (ab (aB bV (ao (pv 0) rfl) (pv 1)) ad)))))),?_⟩
 refine⟨_,rfl,a,_,dx,_,_,rfl,h1,T.aA.cl,T.aA.no _ (by decide),rfl,_,rfl,a,_,dx,_,_,rfl,h1,T.aA.cl,T.aA.no _ (by decide),rfl,n,d,rfl,hd,?_⟩
 have hg:=cG (n:=n) hd
 have hgz:=jg (n:=n) hd hz
 refine⟨_,rfl,a,_,dx,_,_,rfl,h1,T.aA.cl,T.aA.no _ (by decide),rfl,_,rfl,_,_,rfl,rfl,mV hg hgz,_,rfl,a,_,dx,_,_,rfl,h1,T.aA.cl,T.aA.no _ (by decide),rfl,_,rfl,_,_,rfl,rfl,mV hg hgz,?_⟩
 intro x dx' nx nd _
 refine cn nx nd (fun H2 e2 s2=>k x H2 ⟨dx',?_⟩ s2) ⟨_,_,rfl,rfl⟩
 rw [e2,Kd.BK hd,Kd.BJ hd]
def v6 (T:Tx K mg):Sp:=fun vs H Q _=>∃(a b:Addr) (n d m e:Int),vs= [.ref a,.ref b]∧dW T H a n d∧dW T H b m e∧IntMulOk n m∧IntMulOk d e∧∀(x:Addr) (H':Hp),dW T H' x (n*m) (d*e)→aC H H'→Q (.ref x) H'
theorem me (T:Tx K mg):pk mg P w base T.ja 3 (v6 T):=by
 refine T.ja.okA vO ?_
 rintro _ A _ s H _ Q E hr ⟨a,b,n,d,m,e,rfl,⟨dx,h1⟩,⟨dy,h2⟩,m1,m2,k⟩
 refine⟨_,(ae (aj (xq T.bf (a6 T) hr (ab (aB aH (ao (pv 0) rfl) (ao (pv 1) rfl)) (ab (aB aH (ao (pv 0) rfl) (ao (pv 1) rfl)) ad))))),?_⟩
 refine⟨_,rfl,a,_,dx,_,_,rfl,h1,T.aA.cl,T.aA.no _ (by decide),rfl,_,rfl,b,_,dy,_,_,rfl,h2,T.aA.cl,T.aA.no _ (by decide),rfl,_,_,rfl,rfl,m1,_,rfl,a,_,dx,_,_,rfl,h1,T.aA.cl,T.aA.no _ (by decide),rfl,_,rfl,b,_,dy,_,_,rfl,h2,T.aA.cl,T.aA.no _ (by decide),rfl,_,_,rfl,rfl,m2,?_⟩
 intro x dx' nx nd _
 exact cn nx nd (fun H2 e2 s2=>k x H2 ⟨dx',e2⟩ s2) ⟨_,_,rfl,rfl⟩
def xP (T:Tx K mg):Sp:=fun vs H Q _=>∃(a b:Addr) (n d m e:Int),vs= [.ref a,.ref b]∧dW T H a n d∧dW T H b m e∧IntMulOk n e∧IntMulOk m d∧IntMulOk d e∧∀(x:Addr) (H':Hp),dW T H' x (n*e+m*d) (d*e)→aC H H'→Q (.ref x) H'
theorem xx (T:Tx K mg):pk mg P w base T.ou 3 (xP T):=by
 refine T.ou.okA xI ?_
 rintro _ A _ s H _ Q E hr ⟨a,b,n,d,m,e,rfl,⟨dx,h1⟩,⟨dy,h2⟩,m1,m2,m3,k⟩
 refine⟨_,(ae (aj (xq T.bf (a6 T) hr (ab (aB bG (aB aH (ao (pv 0) rfl) (ao (pv 1) rfl)) (aB aH (ao (pv 1) rfl) (ao (pv 0) rfl))) (ab (aB aH (ao (pv 0) rfl) (ao (pv 1) rfl)) ad))))),?_⟩
 refine⟨_,rfl,a,_,dx,_,_,rfl,h1,T.aA.cl,T.aA.no _ (by decide),rfl,_,rfl,b,_,dy,_,_,rfl,h2,T.aA.cl,T.aA.no _ (by decide),rfl,_,_,rfl,rfl,m1,_,rfl,b,_,dy,_,_,rfl,h2,T.aA.cl,T.aA.no _ (by decide),rfl,_,rfl,a,_,dx,_,_,rfl,h1,T.aA.cl,T.aA.no _ (by decide),rfl,_,_,rfl,rfl,m2,_,_,rfl,rfl,_,rfl,a,_,dx,_,_,rfl,h1,T.aA.cl,T.aA.no _ (by decide),rfl,_,rfl,b,_,dy,_,_,rfl,h2,T.aA.cl,T.aA.no _ (by decide),rfl,_,_,rfl,rfl,m3,?_⟩
 intro x dx' nx nd _
 exact cn nx nd (fun H2 e2 s2=>k x H2 ⟨dx',e2⟩ s2) ⟨_,_,rfl,rfl⟩
def rE (T:Tx K mg):Sp:=fun vs H Q _=>∃(a b:Addr) (n d m e:Int),vs= [.ref a,.ref b]∧dW T H a n d∧dW T H b m e∧IntMulOk n e∧IntMulOk m d∧Q (.bl (decide (n*e<m*d))) H
theorem dL (T:Tx K mg):pk mg P w base T.c8 1 (rE T):=by
 refine T.c8.okA rC ?_
 rintro _ A _ s H _ Q E hr ⟨a,b,n,d,m,e,rfl,⟨dx,h1⟩,⟨dy,h2⟩,m1,m2,k⟩
 refine⟨_,(ae (aj (BS jj (aB aH (ao (pv 0) rfl) (ao (pv 1) rfl)) (aB aH (ao (pv 1) rfl) (ao (pv 0) rfl)) (aV _)))),?_⟩
 exact⟨_,rfl,a,_,dx,_,_,rfl,h1,T.aA.cl,T.aA.no _ (by decide),rfl,_,rfl,b,_,dy,_,_,rfl,h2,T.aA.cl,T.aA.no _ (by decide),rfl,_,_,rfl,rfl,m1,_,rfl,b,_,dy,_,_,rfl,h2,T.aA.cl,T.aA.no _ (by decide),rfl,_,rfl,a,_,dx,_,_,rfl,h1,T.aA.cl,T.aA.no _ (by decide),rfl,_,_,rfl,rfl,m2,_,_,rfl,rfl,k⟩
theorem BB {n d:Int} (h:1≤d):Vbdeab.fraction n d=if (-1000000000000000000≤(Vbdeab.mkQ n d.toNat).num∧(Vbdeab.mkQ n d.toNat).num≤1000000000000000000)∧¬1000000000000000000<(((Vbdeab.mkQ n d.toNat).den:Nat):Int) then some (Vbdeab.mkQ n d.toNat) else none:=by
 unfold Vbdeab.fraction
 have hp:=(Fr.Iz.mk' (n:=n) (d:=d) (by omega)).pos
 have hB:Vbdeab.BIG=1000000000000000000:=rfl
 have e:(1≤d∧(Vbdeab.mkQ n d.toNat).small=true)↔((-1000000000000000000≤(Vbdeab.mkQ n d.toNat).num∧(Vbdeab.mkQ n d.toNat).num≤1000000000000000000)∧¬1000000000000000000<(((Vbdeab.mkQ n d.toNat).den:Nat):Int)):=by
  unfold Vbdeab.Q.small
  rw [Bool.and_eq_true,Bool.and_eq_true,decide_eq_true_eq,decide_eq_true_eq,decide_eq_true_eq,hB]
  omega
 by_cases c:1≤d∧(Vbdeab.mkQ n d.toNat).small=true
 ·rw [if_pos c,if_pos (e.mp c)]
 ·rw [if_neg c,if_neg fun z=>c (e.mpr z)]
def wt (T:Tx K mg):Sp:=fun vs H Q _=>∃n d:Int,vs= [.int n,.int d]∧Sz 9000 d∧∀(v:V) (H':Hp),OQ T H' v (Vbdeab.fraction n d)→aC H H'→Q v H'
theorem bQ (T:Tx K mg):cM P w base T.b7 4 (wt T):=by
 refine T.b7.okA mF ?_
 rintro _ A _ s H _ Q E hr ⟨n,d,rfl,hz,k⟩
 refine⟨_,(ac (aQ (aO jj (pv 1) am (aV _)) (ae (aj ck)) aE)
   (ac (aW 2 mF.nd (dm (xq T.bf (a6 T) hr (ab (pv 0) (ab (pv 1) ad))) T.dk (dB T) hr))
   (ac (aQ (jn (fI (aS (aP (be T.fu (eh T) hr (ab (ao (pv 2) rfl) ad)))) (fN (aO rP (ao (pv 2) rfl) (dI T.i8) (aV _))))) (ae (aj ck)) aE)
   (ae (aj (pv 2)))))),?_⟩
 refine⟨_,rfl,_,_,rfl,rfl,_,rfl,aU (fun h1=> ?_) (fun h1=> ?_)⟩
 ·have h1':d<1:=of_decide_eq_true h1
  refine k .non H ?_ (aC.refl' H)
  have e:Vbdeab.fraction n d=none:=by unfold Vbdeab.fraction;rw [if_neg fun z=>by omega]
  rw [e]
  exact rfl
 ·have h1':1≤d:=Int.not_lt.mp fun z=>h1 (decide_eq_true z)
  rw [BB h1'] at k
  refine⟨_,rfl,_,rfl,?_⟩
  intro x dx nx nd _
  refine cn nx nd (fun H2 e2 s2=> ?_) ⟨n,d,rfl,rfl⟩
  refine⟨x,dx,_,rfl,e2,rfl,x,n,d,rfl,⟨dx,e2⟩,by omega,hz,fun y H3 ⟨dy,e3⟩ s3=> ?_⟩
  have s:=s2.trans s3
  refine⟨_,rfl,y,_,dy,_,_,rfl,e3,T.aA.cl,T.aA.no _ (by decide),rfl,_,rfl,_,rfl,aU (fun h2=> ?_) (fun h2=> ?_)⟩
  ·rw [if_neg fun z=>ma h2 z.1] at k
   exact gY (k .non H3 rfl s)
  ·refine⟨_,rfl,y,_,dy,_,_,rfl,e3,T.aA.cl,T.aA.no _ (by decide),rfl,_,_,rfl,rfl,_,rfl,aU (fun h3=> ?_) (fun h3=> ?_)⟩
   ·have h3':(1000000000000000000:Int)<(((Vbdeab.mkQ n d.toNat).den:Nat):Int):=of_decide_eq_true h3
    rw [if_neg fun z=>z.2 h3'] at k
    exact k .non H3 rfl s
   ·have h3':¬(1000000000000000000:Int)<(((Vbdeab.mkQ n d.toNat).den:Nat):Int):=fun z=>h3 (decide_eq_true z)
    rw [if_pos ⟨md h2,h3'⟩] at k
    exact⟨_,rfl,k (.ref y) H3 ⟨y,rfl,⟨dy,e3⟩⟩ s⟩
def dO (l:List Int):Int:=l.foldl (fun a b=>a*b) 1
theorem gy (l:List Int) (x:Int):dO (l++ [x])=dO l*x:=by unfold dO;rw [List.foldl_append];rfl
theorem pY {m:Nat} {l:List Int} (h:∀x∈l,Sz m x):∀i,Sz (m*i+1) (dO (l.take i))
 | 0=>by show(1:Int).natAbs<_;rw [Nat.mul_zero];decide
 | i+1=>by
  have ih:=pY h i
  cases e:l[i]? with
  | none=>
   have hl:=List.getElem?_eq_none_iff.mp e
   rw [List.take_of_length_le hl] at ih
   rw [List.take_of_length_le (by omega)]
   exact ih.mono (by rw [Nat.mul_succ];omega)
  | some x=>
   rw [Ch.bj e,gy]
   exact ih.mul (h x (List.mem_of_getElem? e)) (by rw [Nat.mul_succ];omega)
theorem A5 {l:List Int} (h:∀x∈l,0<x):∀i,0<dO (l.take i)
 | 0=>by show(0:Int)<1;decide
 | i+1=>by
  have ih:=A5 h i
  cases e:l[i]? with
  | none=>
   have hl:=List.getElem?_eq_none_iff.mp e
   rw [List.take_of_length_le hl] at ih
   rw [List.take_of_length_le (by omega)]
   exact ih
  | some x=>
   rw [Ch.bj e,gy]
   exact Int.mul_pos ih (h x (List.mem_of_getElem? e))
theorem jS (l:List Int):dO (l.take l.length)=dO l:=by rw [List.take_length]
theorem vM (a b:List Int):dO (a++b)=dO a*dO b:=by
 unfold dO
 rw [List.foldl_append]
 generalize List.foldl (fun a b=>a*b) 1 a=x
 have:∀(l:List Int) (x y:Int),List.foldl (fun a b=>a*b) (x*y) l=x*List.foldl (fun a b=>a*b) y l:=fun l=>by
  induction l with
  | nil=>intro x y;rfl
  | cons c r ih=>
   intro x y
   rw [List.foldl_cons,List.foldl_cons,Int.mul_assoc,ih]
 have z:=this b x 1
 rw [Int.mul_one] at z
 exact z
theorem CQ {l:List Int} {i:Nat} {v:V} (h:(l.map V.int)[i]?=some v):∃x,l[i]?=some x∧v= .int x:=by
 rw [List.getElem?_map] at h
 cases e:l[i]? with
 | none=>rw [e] at h;cases h
 | some x=>rw [e] at h;cases h;exact⟨x,rfl,rfl⟩
def Ck (T:Tx K mg):Sp:=fun vs H Q _=>∃(a:Addr) (l:List Int),vs= [.ref a]∧aX K H a (l.map V.int)∧l.length≤1000∧(∀x∈l,Sz 400 x)∧Q (.int (dO l)) H
theorem uB (T:Tx K mg):cM P w base T.rm 1 (Ck T):=by
 refine T.rm.okA jO ?_
 rintro _ A _ s H _ Q E hr ⟨a,l,rfl,hs,hl,hz,k⟩
 refine⟨_,(ac (aW 1 jO.nd am)
   (ac (cZ PassesOwn.never rfl (bW (pv 0)) (i9 2 jO.nd) (ae (aW 1 jO.nd (aB aH (pv 1) (pv 2)))))
   (ae (aj (pv 1))))),?_⟩
 refine⟨_,rfl,a,rfl,⟨_,hs⟩,c9 (xs:=l.map V.int) (fun i σ H'=>∃v:Option V,σ= [some (.ref a),some (.int (dO (l.take i))),v]∧H'=H) ⟨none,rfl,rfl⟩ (fun i σ H' _ ⟨_,_,e⟩=>by rw [e];exact hs) ?_ ?_⟩
 ·rintro i v σ H' hv ⟨w',rfl,rfl⟩
  obtain⟨x,hx,rfl⟩:=CQ hv
  have hi:=(List.getElem?_eq_some_iff.mp hx).1
  refine⟨_,rfl,_,rfl,_,_,rfl,rfl,bo ((pY hz i).mono (n:=1000000) (by omega)) (hz x (List.mem_of_getElem? hx)),?_⟩
  exact⟨_,(by rw [Ch.bj hx,gy];rfl),rfl⟩
 ·rintro σ H' ⟨w',rfl,rfl⟩
  rw [List.length_map,jS]
  exact⟨_,rfl,k⟩
theorem HC {r b:Int} (hr:0<r) (hb:0<b):b∣r*(b /((Nat.gcd r.natAbs b.toNat:Nat):Int)):=by
 have hg:=cG (n:=r) hb
 have d1:((Nat.gcd r.natAbs b.toNat:Nat):Int)∣r:=Fr.c6 _ _
 have d2:((Nat.gcd r.natAbs b.toNat:Nat):Int)∣b:=by
  have:=Int.ofNat_dvd.mpr (Nat.gcd_dvd_right r.natAbs b.toNat)
  rwa [Int.toNat_of_nonneg (Int.le_of_lt hb)] at this
 generalize ((Nat.gcd r.natAbs b.toNat:Nat):Int)=g at*
 obtain⟨x,rfl⟩:=d1
 obtain⟨y,rfl⟩:=d2
 rw [Int.mul_ediv_cancel_left _ (by omega)]
 exact⟨x,by grind⟩
theorem Io {r b:Int} (hb:0<b):0<b /((Nat.gcd r.natAbs b.toNat:Nat):Int):=by
 have hg:=cG (n:=r) hb
 have d2:((Nat.gcd r.natAbs b.toNat:Nat):Int)∣b:=by
  have:=Int.ofNat_dvd.mpr (Nat.gcd_dvd_right r.natAbs b.toNat)
  rwa [Int.toNat_of_nonneg (Int.le_of_lt hb)] at this
 generalize ((Nat.gcd r.natAbs b.toNat:Nat):Int)=g at*
 obtain⟨y,rfl⟩:=d2
 rw [Int.mul_ediv_cancel_left _ (by omega)]
 exact Int.pos_of_mul_pos_right hb hg
structure rK (bs ps:List Int):Prop where
 len:ps.length=bs.length
 pos:∀p∈ps,0<p
 sz:∀p∈ps,Sz 250 p
 dvd:∀b∈bs,b∣dO ps
theorem rK.nil:rK [] []:=⟨rfl,fun _ h=>(nomatch h),fun _ h=>(nomatch h),fun _ h=>(nomatch h)⟩
theorem rK.pp {bs ps:List Int} (h:rK bs ps):0<dO ps:=by rw [←jS];exact A5 h.pos _
theorem rK.snoc {bs ps:List Int} {b:Int} (h:rK bs ps) (hb:0<b) (hz:Sz 250 b):rK (bs++ [b]) (ps++ [b /((Nat.gcd (dO ps).natAbs b.toNat:Nat):Int)]):=by
 have hp:=Io (r:=dO ps) hb
 refine⟨by rw [List.length_append,List.length_append,h.len];rfl,fun p hm=> ?_,fun p hm=> ?_,fun x hm=> ?_⟩
 ·rcases List.mem_append.mp hm with q | q
  ·exact h.pos p q
  ·rw [List.mem_singleton] at q
   rw [q];exact hp
 ·rcases List.mem_append.mp hm with q | q
  ·exact h.sz p q
  ·rw [List.mem_singleton] at q
   rw [q];exact hz.ediv (cG hb)
 ·rw [gy]
  rcases List.mem_append.mp hm with q | q
  ·exact Int.dvd_mul_of_dvd_left (h.dvd x q)
  ·rw [List.mem_singleton] at q
   rw [q];exact HC h.pp hb
theorem uo (l:List Int) (x:Int):l.map V.int++ [V.int x]=(l++ [x]).map V.int:=by rw [List.map_append];rfl
def vc (T:Tx K mg):Sp:=fun vs H Q _=>∃(a:Addr) (bs:List Int),vs= [.ref a]∧aX K H a (bs.map V.int)∧bs.length≤1000∧(∀x∈bs,0<x∧Sz 250 x)∧∀(H':Hp) (p:Addr) (ps:List Int),H' p=some (.lst (ps.map V.int))→rK bs ps→aC H H'→H p=none→Q (.ref p) H'
theorem ld (T:Tx K mg):cM P w base T.io 2 (vc T):=by
 refine T.io.okA cT ?_
 rintro _ A _ s H _ Q E hr ⟨a,bs,rfl,hs,hl,hb,k⟩
 refine⟨_,(ac (aW 1 cT.nd (aG ad))
   (ac (aW 2 cT.nd am)
   (ac (cZ PassesOwn.never rfl (bW (pv 0)) (i9 3 cT.nd) (ac (aW 4 cT.nd (aB bV (pv 3) (be T.cf (cu T) hr (ab (pv 2) (ab (pv 3) ad)))))
   (ac (eU (oS PySem.F.plainAttrs_list PySem.F.slot_list_append PySem.F.type_list_append gI (pv 1) (ab (pv 4) ad)))
   (ae (aW 2 cT.nd (aB aH (pv 2) (pv 4)))))))
   (ae (aj (pv 1)))))),?_⟩
 refine⟨Nat.zero_le _,fun D hD=> ?_⟩
 have sD:=aC.laid (o:= .lst []) hD
 refine⟨_,rfl,a,rfl,⟨_,sD.seq hs⟩,c9 (xs:=bs.map V.int) (fun i σ H'=>∃(v v2:Option V) (ps:List Int),σ= [some (.ref a),some (.ref D),some (.int (dO ps)),v,v2]∧rK (bs.take i) ps∧H' D=some (.lst (ps.map V.int))∧aC H H') ⟨none,none,[],rfl,rK.nil,af,sD⟩ (fun i σ H' _ ⟨_,_,_,_,_,_,s⟩=>s.seq hs) ?_ ?_⟩
 ·rintro i v σ H1 hv ⟨w1,w2,ps,rfl,hp,h1,s1⟩
  obtain⟨x,hx,rfl⟩:=CQ hv
  have hi:=(List.getElem?_eq_some_iff.mp hx).1
  obtain⟨x0,xz⟩:=hb x (List.mem_of_getElem? hx)
  have hlen:ps.length≤1000:=by rw [hp.len,List.length_take];omega
  refine⟨_,rfl,_,rfl,_,rfl,_,_,rfl,x0,_,_,rfl,rfl,mV (cG x0) (jg x0 (xz.mono (by decide))),?_⟩
  refine⟨_,rfl,.inl ⟨rfl,_,aX.of h1⟩,_,rfl,D,_,_,rfl,rfl,h1,(by rw [List.length_map];show ps.length<2 ^ 24;omega),?_⟩
  have z:=pY hp.sz ps.length
  rw [jS] at z
  refine⟨_,rfl,_,rfl,_,_,rfl,rfl,bo (z.mono (n:=1000000) (by omega)) (xz.ediv (cG x0)),?_⟩
  have hsn:=hp.snoc x0 xz
  rw [←Ch.bj hx] at hsn
  refine⟨_,_,_,(by rw [gy];rfl),hsn,?_,fun b o e=> ?_⟩
  ·rw [af,uo]
  ·rw [ak (aw e hD)]
   exact s1 b o e
 ·rintro σ H1 ⟨w1,w2,ps,rfl,hp,h1,s1⟩
  rw [List.length_map,List.take_length] at hp
  exact⟨_,rfl,k H1 D ps h1 hp s1 hD⟩
def wp (T:Tx K mg):Sp:=fun vs H Q _=>∃(a:Addr) (bA:Int) (fs:List Int),vs= [.int bA,.ref a]∧aX K H a (fs.map V.int)∧fs.length≤1000∧(∀x∈fs,0<x∧Sz 250 x)∧∀(x:Addr) (H':Hp),ir T H' x (Vbdeab.mkQ bA (dO fs).toNat)→aC H H'→Q (.ref x) H'
theorem iR (T:Tx K mg):cM P w base T.gg 3 (wp T):=by
 refine T.gg.okA cA ?_
 rintro _ A _ s H _ Q E hr ⟨a,bA,fs,rfl,hs,hl,hb,k⟩
 refine⟨_,(ac (aW 2 cA.nd (pv 0))
   (ac (aW 3 cA.nd am)
   (ac (cZ PassesOwn.never rfl (bW (pv 1)) (i9 4 cA.nd) (ac (aW 5 cA.nd (be T.cf (cu T) hr (ab (pv 2) (ab (pv 4) ad))))
   (ac (aW 2 cA.nd (aB bV (pv 2) (pv 5)))
   (ae (aW 3 cA.nd (aB aH (pv 3) (aB bV (pv 4) (pv 5))))))))
   (ae (aj (xq T.bf (a6 T) hr (ab (pv 2) (ab (pv 3) ad)))))))),?_⟩
 refine⟨_,rfl,_,rfl,a,rfl,⟨_,hs⟩,c9 (xs:=fs.map V.int) (fun i σ H'=>∃(v v2:Option V) (left bottom:Int),σ= [some (.int bA),some (.ref a),some (.int left),some (.int bottom),v,v2]∧Fr.Je bA (dO (fs.take i)) left bottom∧Sz (250*i+1) bottom∧H'=H) ⟨none,none,bA,1,rfl,Fr.Je.start bA,by show(1:Int).natAbs<_;decide,rfl⟩ (fun i σ H' _ ⟨_,_,_,_,_,_,_,e⟩=>by rw [e];exact hs) ?_ ?_⟩
 ·rintro i v σ H1 hv ⟨w1,w2,left,bottom,rfl,lw,hz,rfl⟩
  obtain⟨x,hx,rfl⟩:=CQ hv
  have hi:=(List.getElem?_eq_some_iff.mp hx).1
  obtain⟨x0,xz⟩:=hb x (List.mem_of_getElem? hx)
  have hg:=cG (n:=left) x0
  have hgz:=jg (n:=left) x0 (xz.mono (n:=9000) (by decide))
  refine⟨_,rfl,_,rfl,_,_,rfl,x0,?_⟩
  refine⟨_,rfl,_,rfl,_,_,rfl,rfl,mV hg hgz,?_⟩
  refine⟨_,rfl,_,rfl,_,rfl,_,_,rfl,rfl,mV hg hgz,_,_,rfl,rfl,bo (hz.mono (n:=1000000) (by omega)) (xz.ediv hg),?_⟩
  have st:=lw.step x0
  rw [←gy,←Ch.bj hx] at st
  exact⟨_,_,_,_,rfl,st,hz.mul (xz.ediv hg) (by omega),rfl⟩
 ·rintro σ H1 ⟨w1,w2,left,bottom,rfl,lw,hz,rfl⟩
  rw [List.length_map,jS] at lw
  refine⟨_,rfl,_,rfl,?_⟩
  intro x dx' nx nd _
  refine cn nx nd (fun H2 e2 s2=>k x H2 ?_ s2) ⟨left,bottom,rfl,rfl⟩
  rw [←lw.iz.eq]
  refine⟨dx',?_⟩
  rw [e2]
  have:=lw.bpos
  rw [Int.toNat_of_nonneg (by omega)]
def tL (T:Tx K mg):Sp:=fun vs H Q _=>∃(a:Addr) (n d:Int) (S:Nat),vs= [.ref a,.int S]∧dW T H a n d∧0<d∧Sz 9000 d∧0<S∧Nat.gcd n.natAbs S=Nat.gcd n.natAbs d.toNat∧∀(x:Addr) (H':Hp),ir T H' x (Vbdeab.mkQ n d.toNat)→aC H H'→Q (.ref x) H'
theorem sP (T:Tx K mg):cM P w base T.jF 3 (tL T):=by
 refine T.jF.okA kE ?_
 rintro _ A _ s H _ Q E hr ⟨a,n,d,S,rfl,⟨dx,h1⟩,hd,hz,hS,hg,k⟩
 refine⟨_,(ac (aW 2 kE.nd (be T.cf (cu T) hr (ab (ao (pv 0) rfl) (ab (pv 1) ad))))
   (ae (aj (xq T.bf (a6 T) hr (ab (aB bV (ao (pv 0) rfl) (pv 2)) (ab (aB bV (ao (pv 0) rfl) (pv 2)) ad)))))),?_⟩
 refine⟨_,rfl,a,_,dx,_,_,rfl,h1,T.aA.cl,T.aA.no _ (by decide),rfl,_,rfl,_,_,rfl,by omega,?_⟩
 have e:((Nat.gcd n.natAbs (S:Int).toNat:Nat):Int)=((Nat.gcd n.natAbs d.toNat:Nat):Int):=by rw [Int.toNat_natCast,hg]
 have hgp:=cG (n:=n) hd
 have hgz:=jg (n:=n) hd hz
 rw [←e] at hgp hgz
 refine⟨_,rfl,a,_,dx,_,_,rfl,h1,T.aA.cl,T.aA.no _ (by decide),rfl,_,rfl,_,_,rfl,rfl,mV hgp hgz,_,rfl,a,_,dx,_,_,rfl,h1,T.aA.cl,T.aA.no _ (by decide),rfl,_,rfl,_,_,rfl,rfl,mV hgp hgz,?_⟩
 intro x dx' nx nd _
 refine cn nx nd (fun H2 e2 s2=>k x H2 ⟨dx',?_⟩ s2) ⟨_,_,rfl,rfl⟩
 rw [e2,Kd.BK hd,Kd.BJ hd,e]
open Vbdeab (Q Class)
def EJ (C:Addr) (R:Hp→List V→List (Str×V)→Prop):Sp:=fun vs H Q _=>∃p dx args fs,vs= .ref p::args∧R H args fs∧H p=some (.ins C dx [])∧∀H':Hp,H' p=some (.ins C dx fs)→(∀b o,H b=some o→b≠p→H' b=some o)→Q .non H'
theorem Bi {H:Hp} {x dx C:Addr} (nx:H x=none) (nd:H dx=none):aC H (bC (bC H dx (.own x)) x (.ins C dx [])):=fun b o e=>by
 rw [ak (aw e nx),ak (aw e nd)]
 exact e
theorem Fx {C x dx:Addr} {R:Hp→List V→List (Str×V)→Prop} {args:List V} {fs:List (Str×V)} {H1:Hp} {G:Hp→Prop} {E:XK} (nx:H1 x=none) (nd:H1 dx=none) (k:∀H2,H2 x=some (.ins C dx fs)→aC H1 H2→G H2) (r:∀H',aC H1 H'→R H' args fs):
  EJ C R (.ref x::(args++ [])) (bC (bC H1 dx (.own x)) x (.ins C dx [])) (fun v H2=>v= .non∧G H2) E:=
 ⟨x,dx,args,fs,by rw [List.append_nil],r _ (Bi nx nd),af,fun H' h1 h2=>⟨rfl,k H' h1 (aC.made nx nd h2)⟩⟩
theorem Fk {C D x y:Addr} {fs gs:List (Str×V)} (h:¬fs.length=gs.length):HO.ins C x fs≠HO.ins D y gs:=fun z=>h (congrArg List.length (HO.ins.inj z).2.2)
theorem dW.put {T:Tx K mg} {H:Hp} {a p:Addr} {n d:Int} {o:HO} (h:dW T H a n d) (hne:a≠p):dW T (bC H p o) a n d:=let ⟨dx,e⟩:=h;⟨dx,by rw [ak hne];exact e⟩
def M5 (ax ay:Addr) (c:Class):List (Str×V):= [("x",.ref ax),("y",.ref ay),("bottom",.int (Fr.cB c)),("origin",.int (Fr.cO c)),("rise",.int (Fr.cR c))]
def M3 (ax ay:Addr) (n:Nat) (c:Class):List (Str×V):= [("x",.ref ax),("gap",.ref ay),("teeth",.int (n:Nat)),("bottom",.int (Fr.cB c)),("origin",.int (Fr.cO c)),("rise",.int (Fr.cR c))]
def gQ (T:Tx K mg) (H:Hp) (a:Addr) (c:Class):Prop:=match c with
 | .line x y=>∃dx ax ay,H a=some (.ins T.aM.C dx (M5 ax ay (.line x y)))∧ir T H ax x∧ir T H ay y
 | .comb x s n=>∃dx ax ay,H a=some (.ins T.aF.C dx (M3 ax ay n (.comb x s n)))∧ir T H ax x∧ir T H ay s
theorem gQ.si {T:Tx K mg} {H H':Hp} {a:Addr} {c:Class} (h:gQ T H a c) (s:fH H H'):gQ T H' a c:=by
 cases c with
 | line x y=>obtain⟨dx,ax,ay,e,h1,h2⟩:=h;exact⟨dx,ax,ay,s _ _ _ _ e,h1.si s,h2.si s⟩
 | comb x y n=>obtain⟨dx,ax,ay,e,h1,h2⟩:=h;exact⟨dx,ax,ay,s _ _ _ _ e,h1.si s,h2.si s⟩
theorem gQ.same {T:Tx K mg} {H H':Hp} {a:Addr} {c:Class} (h:gQ T H a c) (s:aC H H'):gQ T H' a c:=by
 cases c with
 | line x y=>obtain⟨dx,ax,ay,e,h1,h2⟩:=h;exact⟨dx,ax,ay,s _ _ e,h1.same s,h2.same s⟩
 | comb x y n=>obtain⟨dx,ax,ay,e,h1,h2⟩:=h;exact⟨dx,ax,ay,s _ _ e,h1.same s,h2.same s⟩
def gH (q:Q):Prop:=q.small=true∧Fr.lowQ q
def rJ (c:Class):Prop:=c.small=true∧Fr.iu c
def Br (T:Tx K mg) (H:Hp) (v:V) (o:Option Class):Prop:=match o with
 | none=>v= .non
 | some c=>∃x,v= .ref x∧gQ T H x c∧rJ c
theorem Br.si {T:Tx K mg} {H H':Hp} {v:V} {o:Option Class} (h:Br T H v o) (s:fH H H'):Br T H' v o:=by
 cases o with
 | none=>exact h
 | some q=>obtain⟨x,e,h,k⟩:=h;exact⟨x,e,h.si s,k⟩
theorem Br.same {T:Tx K mg} {H H':Hp} {v:V} {o:Option Class} (h:Br T H v o) (s:aC H H'):Br T H' v o:=by
 cases o with
 | none=>exact h
 | some q=>obtain⟨x,e,h,k⟩:=h;exact⟨x,e,h.same s,k⟩
theorem KN {n:Nat} (h:n≤1000000000000000000):n<2 ^ 60:=Nat.lt_of_le_of_lt h (by decide)
theorem bZ {q:Q} (h:q.small=true):Sz 60 q.num∧Sz 60 (q.den:Int):=by
 unfold Vbdeab.Q.small at h
 rw [Bool.and_eq_true,Bool.and_eq_true,decide_eq_true_eq,decide_eq_true_eq,decide_eq_true_eq] at h
 exact⟨KN h.1.1,by show((q.den:Int)).natAbs<_;rw [Int.natAbs_natCast];exact KN h.2⟩
theorem eR {q:Q} (h:Fr.lowQ q):(0:Int)<(q.den:Int):=by have:=h.1;omega
theorem yc {x y:Q} (hx:x.small=true) (hy:y.small=true):Sz 120 (Fr.pq x y):=by
 unfold Fr.pq
 refine(bZ hx).2.mul ?_ (n:=60)
 refine(bZ hy).2.le ?_
 rw [Int.natAbs_natCast,Int.natAbs_natCast]
 exact Nat.div_le_self y.den (Nat.gcd x.den y.den)
theorem uC {x:Q} {b:Int} (hx:x.small=true) (hl:Fr.lowQ x) (hb:Sz 120 b):Sz 180 (Fr.Ak x b):=(bZ hx).1.mul (hb.ediv (eR hl))
theorem BI {x y:Q} (h:rJ (.line x y)):gH x∧gH y:=by
 obtain⟨h1,h2⟩:=h
 have h1':(x.small && y.small)=true:=h1
 rw [Bool.and_eq_true] at h1'
 exact⟨⟨h1'.1,h2.1⟩,⟨h1'.2,h2.2⟩⟩
theorem eJ {x s:Q} {n:Nat} (h:rJ (.comb x s n)):gH x∧gH s∧1≤n∧n≤1000000000000000000:=by
 obtain⟨h1,h2⟩:=h
 have h1':(x.small && s.small && decide (1≤n) && decide (n≤Vbdeab.BIG))=true:=h1
 rw [Bool.and_eq_true,Bool.and_eq_true,Bool.and_eq_true,decide_eq_true_eq,decide_eq_true_eq] at h1'
 exact⟨⟨h1'.1.1.1,h2.1⟩,⟨h1'.1.1.2,h2.2.1⟩,h1'.1.2,h1'.2⟩
theorem rJ.line {x y:Q} (hx:gH x) (hy:gH y):rJ (.line x y):=⟨Kd.sH hx.1 hy.1,hx.2,hy.2⟩
theorem rJ.comb {x y:Q} {n:Nat} (hx:gH x) (hy:gH y) (h1:1≤n) (h2:n≤1000000000000000000):rJ (.comb x y n):=by
 refine⟨?_,hx.2,hy.2,h1⟩
 rw [Kd.yA hx.1 hy.1,decide_eq_true h1,decide_eq_true (show n≤Vbdeab.BIG from h2)]
 rfl
theorem gv {c:Class} (h:rJ c):0<Fr.cB c∧Sz 120 (Fr.cB c)∧Sz 180 (Fr.cO c)∧Sz 181 (Fr.cR c):=by
 refine⟨Fr.j6 h.2,?_⟩
 cases c with
 | line x y=>
  obtain⟨hx,hy⟩:=BI h
  have hb:=yc hx.1 hy.1
  exact⟨hb,uC hx.1 hx.2 hb,(uC hy.1 hy.2 hb).sub (uC hx.1 hx.2 hb)⟩
 | comb x s n=>
  obtain⟨hx,hy,_⟩:=eJ h
  have hb:=yc hx.1 hy.1
  exact⟨hb,uC hx.1 hx.2 hb,(uC hy.1 hy.2 hb).mono (by decide)⟩
theorem k7 {n d:Int} {q:Q} (h:Vbdeab.fraction n d=some q):gH q:=⟨(Kd.eW h).1,(Kd.eW h).2.1⟩
def tH (T:Tx K mg):Sp:=fun vs H Q _=>∃(a b:Addr) (x y:Vbdeab.Q),vs= [.ref a,.ref b]∧ir T H a x∧ir T H b y∧gH x∧gH y∧Q (.int (Fr.pq x y)) H
theorem kd (T:Tx K mg):cM P w base T.gr 2 (tH T):=by
 refine T.gr.okA tp ?_
 rintro _ A _ s H _ Q E hr ⟨a,b,x,y,rfl,⟨dx,h1⟩,⟨dy,h2⟩,hx,hy,k⟩
 refine⟨_,(ae (aj (aB aH (ao (pv 0) rfl) (aB bV (ao (pv 1) rfl) (be T.cf (cu T) hr (ab (ao (pv 0) rfl) (ab (ao (pv 1) rfl) ad))))))),?_⟩
 have y0:=eR hy.2
 have yz:=(bZ hy.1).2
 have hg:=cG (n:=(x.den:Int)) y0
 refine⟨_,rfl,a,_,dx,_,_,rfl,h1,T.aA.cl,T.aA.no _ (by decide),rfl,_,rfl,b,_,dy,_,_,rfl,h2,T.aA.cl,T.aA.no _ (by decide),rfl,_,rfl,a,_,dx,_,_,rfl,h1,T.aA.cl,T.aA.no _ (by decide),rfl,_,rfl,b,_,dy,_,_,rfl,h2,T.aA.cl,T.aA.no _ (by decide),rfl,_,_,rfl,y0,_,_,rfl,rfl,mV hg (jg y0 (yz.mono (by decide))),_,_,rfl,rfl,bo (bZ hx.1).2 (yz.ediv hg),?_⟩
 have e:(x.den:Int)*((y.den:Int) /((Nat.gcd (x.den:Int).natAbs (y.den:Int).toNat:Nat):Int))=Fr.pq x y:=by
  unfold Fr.pq
  rw [Int.natAbs_natCast,Int.toNat_natCast,Int.natCast_ediv]
 show Q (.int _) H
 rw [e]
 exact k
def xZ (T:Tx K mg):Sp:=fun vs H Q _=>∃(a:Addr) (x:Vbdeab.Q) (b:Int),vs= [.ref a,.int b]∧ir T H a x∧gH x∧Sz 120 b∧Q (.int (Fr.Ak x b)) H
theorem gn (T:Tx K mg):cM P w base T.fG 1 (xZ T):=by
 refine T.fG.okA xM ?_
 rintro _ A _ s H _ Q E hr ⟨a,x,b,rfl,⟨dx,h1⟩,hx,hb,k⟩
 refine⟨_,(ae (aj (aB aH (ao (pv 0) rfl) (aB bV (pv 1) (ao (pv 0) rfl))))),?_⟩
 exact⟨_,rfl,a,_,dx,_,_,rfl,h1,T.aA.cl,T.aA.no _ (by decide),rfl,_,rfl,_,rfl,a,_,dx,_,_,rfl,h1,T.aA.cl,T.aA.no _ (by decide),rfl,_,_,rfl,rfl,mV (eR hx.2) ((bZ hx.1).2.mono (by decide)),_,_,rfl,rfl,bo (bZ hx.1).1 (hb.ediv (eR hx.2)),k⟩
def xV (T:Tx K mg):Sp:=fun vs H Q _=>∃(a:Addr) (v:Vbdeab.Q) (t b:Int),vs= [.int t,.int b,.ref a]∧ir T H a v∧gH v∧Sz 400 t∧Sz 400 b∧Q (.int (v.num*b - t*(v.den:Int))) H
theorem jx (T:Tx K mg):cM P w base T.ip 1 (xV T):=by
 refine T.ip.okA xJ ?_
 rintro _ A _ s H _ Q E hr ⟨a,v,t,b,rfl,⟨dx,h1⟩,hv,ht,hb,k⟩
 refine⟨_,(ae (aj (aB bI (aB aH (ao (pv 2) rfl) (pv 1)) (aB aH (pv 0) (ao (pv 2) rfl))))),?_⟩
 exact⟨_,rfl,a,_,dx,_,_,rfl,h1,T.aA.cl,T.aA.no _ (by decide),rfl,_,rfl,_,_,rfl,rfl,bo (bZ hv.1).1 hb,_,rfl,_,rfl,a,_,dx,_,_,rfl,h1,T.aA.cl,T.aA.no _ (by decide),rfl,_,_,rfl,rfl,bo ht (bZ hv.1).2,_,_,rfl,rfl,k⟩
def Cd (T:Tx K mg):Sp:=fun vs H Q _=>∃(n m:Int),vs= [.int n,.int m]∧0≤m∧Q (.int (Fr.eI n m)) H
theorem uv (T:Tx K mg):cM P w base T.rh 1 (Cd T):=by
 refine T.rh.okA B1 ?_
 rintro _ A _ s H _ Q E hr ⟨n,m,rfl,hm,k⟩
 refine⟨_,(ae (aj (a5 (F6 rfl) (by rfl) T.L8 (by rfl) (ab am (ab (a5 (AL rfl) (by rfl) T.IZ (by rfl) (ab (pv 0) (ab (pv 1) ad))) ad))))),?_⟩
 refine⟨_,rfl,_,rfl,_,_,rfl,_,_,rfl,?_⟩
 have e:(if (if m<n then m else n)>0 then(if m<n then m else n) else 0)=Fr.eI n m:=by
  unfold Fr.eI
  repeat' split
  all_goals omega
 show Q (.int _) H
 rw [e]
 exact k
def zK (T:Tx K mg):Sp:=EJ T.aM.C (fun H args fs=>∃(ax ay:Addr) (x y:Vbdeab.Q),args= [.ref ax,.ref ay]∧fs=M5 ax ay (.line x y)∧ir T H ax x∧ir T H ay y∧gH x∧gH y)
theorem yT (T:Tx K mg):pk mg P w base T.qO 3 (zK T):=by
 refine T.qO.okA zw ?_ (by rintro _ _ _ _ ⟨p,dx,_,_,rfl,⟨ax,ay,x,y,rfl,rfl,hax,hay,hx,hy⟩,hp,k⟩;rfl)
 rintro _ A _ s H _ Q E hr ⟨p,dx,_,_,rfl,⟨ax,ay,x,y,rfl,rfl,hax,hay,hx,hy⟩,hp,k⟩
 refine⟨_,(ac (bS (pv 0) (pv 1) rfl)
   (ac (bS (pv 0) (pv 2) rfl)
   (ac (bS (pv 0) (be T.gr (kd T) hr (ab (pv 1) (ab (pv 2) ad))) rfl)
   (ac (bS (pv 0) (be T.fG (gn T) hr (ab (pv 1) (ab (ao (pv 0) rfl) ad))) rfl)
   (ae (bS (pv 0) (aB bI (be T.fG (gn T) hr (ab (pv 2) (ab (ao (pv 0) rfl) ad))) (ao (pv 0) rfl)) rfl)))))),?_⟩
 have nx:ax≠p:=let ⟨_,e⟩:=hax;bb e hp (Fk (by show ¬2=0;decide))
 have ny:ay≠p:=let ⟨_,e⟩:=hay;bb e hp (Fk (by show ¬2=0;decide))
 have hb:=yc hx.1 hy.1
 refine⟨_,rfl,_,rfl,p,_,dx,_,rfl,hp,T.aM.cl,T.aM.no _ (by decide),(by show 0<1000;decide),?_⟩
 refine⟨_,rfl,_,rfl,p,_,dx,_,rfl,af,T.aM.cl,T.aM.no _ (by decide),(by show 1<1000;decide),?_⟩
 refine⟨_,rfl,_,rfl,ax,ay,x,y,rfl,(hax.put nx).put nx,(hay.put ny).put ny,hx,hy,_,rfl,p,_,dx,_,rfl,af,T.aM.cl,T.aM.no _ (by decide),(by show 2<1000;decide),?_⟩
 refine⟨_,rfl,_,rfl,p,_,dx,_,_,rfl,af,T.aM.cl,T.aM.no _ (by decide),rfl,ax,x,_,rfl,((hax.put nx).put nx).put nx,hx,hb,_,rfl,p,_,dx,_,rfl,af,T.aM.cl,T.aM.no _ (by decide),(by show 3<1000;decide),?_⟩
 refine⟨_,rfl,_,rfl,p,_,dx,_,_,rfl,af,T.aM.cl,T.aM.no _ (by decide),rfl,ay,y,_,rfl,(((hay.put ny).put ny).put ny).put ny,hy,hb,_,rfl,p,_,dx,_,_,rfl,af,T.aM.cl,T.aM.no _ (by decide),rfl,_,_,rfl,rfl,_,rfl,p,_,dx,_,rfl,af,T.aM.cl,T.aM.no _ (by decide),(by show 4<1000;decide),?_⟩
 exact k _ af fun b o e hb=>by rw [ak hb,ak hb,ak hb,ak hb,ak hb];exact e
def zG (T:Tx K mg):Sp:=EJ T.aF.C (fun H args fs=>∃(ax ay:Addr) (x y:Vbdeab.Q) (n:Nat),args= [.ref ax,.ref ay,.int n]∧fs=M3 ax ay n (.comb x y n)∧ir T H ax x∧ir T H ay y∧gH x∧gH y)
theorem yR (T:Tx K mg):pk mg P w base T.qM 3 (zG T):=by
 refine T.qM.okA zq ?_ (by rintro _ _ _ _ ⟨p,dx,_,_,rfl,⟨ax,ay,x,y,n,rfl,rfl,hax,hay,hx,hy⟩,hp,k⟩;rfl)
 rintro _ A _ s H _ Q E hr ⟨p,dx,_,_,rfl,⟨ax,ay,x,y,n,rfl,rfl,hax,hay,hx,hy⟩,hp,k⟩
 refine⟨_,(ac (bS (pv 0) (pv 1) rfl)
   (ac (bS (pv 0) (pv 2) rfl)
   (ac (bS (pv 0) (pv 3) rfl)
   (ac (bS (pv 0) (be T.gr (kd T) hr (ab (pv 1) (ab (pv 2) ad))) rfl)
   (ac (bS (pv 0) (be T.fG (gn T) hr (ab (pv 1) (ab (ao (pv 0) rfl) ad))) rfl)
   (ae (bS (pv 0) (be T.fG (gn T) hr (ab (pv 2) (ab (ao (pv 0) rfl) ad))) rfl))))))),?_⟩
 have nx:ax≠p:=let ⟨_,e⟩:=hax;bb e hp (Fk (by show ¬2=0;decide))
 have ny:ay≠p:=let ⟨_,e⟩:=hay;bb e hp (Fk (by show ¬2=0;decide))
 have hb:=yc hx.1 hy.1
 refine⟨_,rfl,_,rfl,p,_,dx,_,rfl,hp,T.aF.cl,T.aF.no _ (by decide),(by show 0<1000;decide),?_⟩
 refine⟨_,rfl,_,rfl,p,_,dx,_,rfl,af,T.aF.cl,T.aF.no _ (by decide),(by show 1<1000;decide),?_⟩
 refine⟨_,rfl,_,rfl,p,_,dx,_,rfl,af,T.aF.cl,T.aF.no _ (by decide),(by show 2<1000;decide),?_⟩
 refine⟨_,rfl,_,rfl,ax,ay,x,y,rfl,((hax.put nx).put nx).put nx,((hay.put ny).put ny).put ny,hx,hy,_,rfl,p,_,dx,_,rfl,af,T.aF.cl,T.aF.no _ (by decide),(by show 3<1000;decide),?_⟩
 refine⟨_,rfl,_,rfl,p,_,dx,_,_,rfl,af,T.aF.cl,T.aF.no _ (by decide),rfl,ax,x,_,rfl,(((hax.put nx).put nx).put nx).put nx,hx,hb,_,rfl,p,_,dx,_,rfl,af,T.aF.cl,T.aF.no _ (by decide),(by show 4<1000;decide),?_⟩
 refine⟨_,rfl,_,rfl,p,_,dx,_,_,rfl,af,T.aF.cl,T.aF.no _ (by decide),rfl,ay,y,_,rfl,((((hay.put ny).put ny).put ny).put ny).put ny,hy,hb,_,rfl,p,_,dx,_,rfl,af,T.aF.cl,T.aF.no _ (by decide),(by show 5<1000;decide),?_⟩
 exact k _ af fun b o e hb=>by rw [ak hb,ak hb,ak hb,ak hb,ak hb,ak hb];exact e
def Ci (T:Tx K mg):Sp:=fun vs H Q _=>∃(u v:V) (x y:Option Vbdeab.Q),vs= [u,v]∧OQ T H u x∧OQ T H v y∧(∀q,x=some q→gH q)∧(∀q,y=some q→gH q)∧∀(r:V) (H':Hp),Br T H' r (Kd.iA x y)→aC H H'→Q r H'
theorem nv (T:Tx K mg):cM P w base T.mN 5 (Ci T):=by
 refine T.mN.okA B4 ?_
 rintro _ A _ s H _ Q E hr ⟨u,v,x,y,rfl,hu,hv,hx,hy,k⟩
 refine⟨_,(ac (aQ (jn (fI (aO iS (pv 0) ck (aV _)) (fN (aO iS (pv 1) ck (aV _))))) (ae (aj ck)) aE)
   (ae (aj (xq T.qO (yT T) hr (ab (pv 0) (ab (pv 1) ad)))))),?_⟩
 cases x with
 | none=>
  obtain rfl:u= .non:=hu
  exact⟨_,rfl,rfl,_,rfl,gY (k .non H rfl (aC.refl' H))⟩
 | some x=>
  obtain⟨ax,rfl,hax⟩:=hu
  cases y with
  | none=>
   obtain rfl:v= .non:=hv
   exact⟨_,rfl,rfl,_,rfl,_,rfl,rfl,_,rfl,k .non H rfl (aC.refl' H)⟩
  | some y=>
   obtain⟨ay,rfl,hay⟩:=hv
   refine⟨_,rfl,rfl,_,rfl,_,rfl,rfl,_,rfl,_,rfl,_,rfl,?_⟩
   intro z dz nz nd _
   refine Fx nz nd (fun H2 e2 s2=>k (.ref z) H2 ⟨z,rfl,⟨dz,ax,ay,e2,hax.same s2,hay.same s2⟩,rJ.line (hx _ rfl) (hy _ rfl)⟩ s2) fun H' s'=>⟨ax,ay,x,y,rfl,rfl,hax.same s',hay.same s',hx _ rfl,hy _ rfl⟩
def Ce (T:Tx K mg):Sp:=fun vs H Q _=>∃(u v:V) (x y:Option Vbdeab.Q) (n:Int),vs= [u,v,.int n]∧OQ T H u x∧OQ T H v y∧(∀q,x=some q→gH q)∧(∀q,y=some q→gH q)∧∀(r:V) (H':Hp),Br T H' r (Kd.k6 x y n)→aC H H'→Q r H'
theorem jM (T:Tx K mg):cM P w base T.jZ 5 (Ce T):=by
 refine T.jZ.okA B2 ?_
 rintro _ A _ s H _ Q E hr ⟨u,v,x,y,n,rfl,hu,hv,hx,hy,k⟩
 refine⟨_,(ac (aQ (jn (fI (aO iS (pv 0) ck (aV _)) (fI (aO iS (pv 1) ck (aV _)) (fN (aS (aP (be T.bE (a4 T) hr (ab (pv 2) (ab am (ab (dI T.Cr) ad)))))))))) (ae (aj ck)) aE)
   (ae (aj (xq T.qM (yR T) hr (ab (pv 0) (ab (pv 1) (ab (pv 2) ad))))))),?_⟩
 cases x with
 | none=>
  obtain rfl:u= .non:=hu
  exact⟨_,rfl,rfl,_,rfl,gY (k .non H rfl (aC.refl' H))⟩
 | some x=>
  obtain⟨ax,rfl,hax⟩:=hu
  cases y with
  | none=>
   obtain rfl:v= .non:=hv
   exact⟨_,rfl,rfl,_,rfl,_,rfl,rfl,_,rfl,gY (k .non H rfl (aC.refl' H))⟩
  | some y=>
   obtain⟨ay,rfl,hay⟩:=hv
   have ek:Kd.k6 (some x) (some y) n=if 1≤n∧n≤1000000000000000000 then some (.comb x y n.toNat) else none:=rfl
   rw [ek] at k
   refine⟨_,rfl,rfl,_,rfl,_,rfl,rfl,_,rfl,_,rfl,n,1,1000000000000000000,rfl,_,rfl,aU (fun h1=> ?_) (fun h1=> ?_)⟩
   ·rw [if_neg (ma h1)] at k
    exact k .non H rfl (aC.refl' H)
   ·have hn:=md h1
    rw [if_pos hn] at k
    refine⟨_,rfl,_,rfl,_,rfl,?_⟩
    intro z dz nz nd _
    have en:n=((n.toNat:Nat):Int):=by omega
    refine Fx nz nd (fun H2 e2 s2=>k (.ref z) H2 ⟨z,rfl,⟨dz,ax,ay,e2,hax.same s2,hay.same s2⟩,rJ.comb (hx _ rfl) (hy _ rfl) (by omega) (by omega)⟩ s2) fun H' s'=>⟨ax,ay,x,y,n.toNat,by rw [←en],rfl,hax.same s',hay.same s',hx _ rfl,hy _ rfl⟩
def vh (f x s:Vbdeab.Q):Option Vbdeab.Q:=if ((f.mul x).add s).small=true then some ((f.mul x).add s) else none
theorem D1 {f x s:Vbdeab.Q} (hx:gH x) (hf:gH f) (hs:gH s):Vbdeab.fraction (x.num*f.num*(s.den:Int)+s.num*((x.den:Int)*(f.den:Int))) ((x.den:Int)*(f.den:Int)*(s.den:Int))=vh f x s:=by
 have z:=(hf.2.iz.mul hx.2.iz).add hs.2.iz
 have p:(0:Int)<(x.den:Int)*(f.den:Int)*(s.den:Int):=Int.mul_pos (Int.mul_pos (eR hx.2) (eR hf.2)) (eR hs.2)
 have z2:=z.conv (m:=x.num*f.num*(s.den:Int)+s.num*((x.den:Int)*(f.den:Int))) p (by grind)
 unfold Vbdeab.fraction vh
 rw [←z2.eq]
 by_cases q:((f.mul x).add s).small=true
 ·rw [if_pos q,if_pos ⟨by omega,q⟩]
 ·rw [if_neg q,if_neg fun y=>q y.2]
theorem zV {f x s q:Vbdeab.Q} (hx:gH x) (hf:gH f) (hs:gH s) (h:vh f x s=some q):gH q:=by
 rw [←D1 hx hf hs] at h
 exact k7 h
def DJ (T:Tx K mg):Sp:=fun vs H Q _=>∃(a b c:Addr) (x f s:Vbdeab.Q),vs= [.ref a,.ref b,.ref c]∧ir T H a x∧ir T H b f∧ir T H c s∧gH x∧gH f∧gH s∧∀(v:V) (H':Hp),OQ T H' v (vh f x s)→aC H H'→Q v H'
theorem pU (T:Tx K mg):cM P w base T.qR 5 (DJ T):=by
 refine T.qR.okA xi ?_
 rintro _ A _ s H _ Q E hr ⟨a,b,c,x,f,s,rfl,⟨da,ha⟩,⟨db,hb⟩,⟨dc,hc⟩,hx,hf,hs,k⟩
 refine⟨_,(ac (aW 3 xi.nd (wB (wB (pv 0) T.ja (me T) hr (ab (pv 1) ad)) T.ou (xx T) hr (ab (pv 2) ad)))
   (ae (aj (be T.b7 (bQ T) hr (ab (ao (pv 3) rfl) (ab (ao (pv 3) rfl) ad)))))),?_⟩
 obtain⟨x1,x2⟩:=bZ hx.1
 obtain⟨f1,f2⟩:=bZ hf.1
 obtain⟨s1,s2⟩:=bZ hs.1
 refine⟨_,rfl,a,da,_,rfl,ha,rfl,_,rfl,a,b,_,_,_,_,rfl,⟨da,ha⟩,⟨db,hb⟩,bo x1 f1,bo x2 f2,fun y H1 ⟨dy,hy⟩ sa=> ?_⟩
 refine⟨y,dy,_,rfl,hy,rfl,_,rfl,y,c,_,_,_,_,rfl,⟨dy,hy⟩,⟨dc,sa _ _ hc⟩,bo (x1.mul f1 (k:=120)) s2,bo s1 (x2.mul f2 (k:=120)),bo (x2.mul f2 (k:=120)) s2,fun z H2 ⟨dz,hz⟩ sb=> ?_⟩
 refine⟨_,rfl,z,_,dz,_,_,rfl,hz,T.aA.cl,T.aA.no _ (by decide),rfl,_,rfl,z,_,dz,_,_,rfl,hz,T.aA.cl,T.aA.no _ (by decide),rfl,_,_,rfl,((x2.mul f2 (k:=120)).mul s2 (k:=180)).mono (by decide),fun v H3 ho sc=> ?_⟩
 rw [D1 hx hf hs] at ho
 exact k v H3 ho ((sa.trans sb).trans sc)
open Vbdeab (Class)
instance M7 (m:Nat) (x:Int):Decidable (Sz m x):=inferInstanceAs (Decidable (x.natAbs<2 ^ m))
theorem ig {n:Nat} (h:n≤1000000000000000000):Sz 60 (n:Int):=by show((n:Int)).natAbs<_;rw [Int.natAbs_natCast];exact KN h
theorem dh {k m:Nat} (h:k<2 ^ m):Sz m (k:Int):=by show((k:Int)).natAbs<_;rw [Int.natAbs_natCast];exact h
def Ca (T:Tx K mg):Sp:=fun vs H Q _=>∃(a:Addr) (x y:Vbdeab.Q) (t span:Int),vs= [.ref a,.int t,.int span]∧gQ T H a (.line x y)∧rJ (.line x y)∧Sz 400 t∧Sz 400 span∧∀(z:Addr) (H':Hp),dW T H' z (Fr.Hb (.line x y) t span) (Fr.Kq (.line x y) span)→aC H H'→Q (.ref z) H'
theorem BM (T:Tx K mg):pk mg P w base T.wD 3 (Ca T):=by
 refine T.wD.okA B0 ?_
 rintro _ A _ s H _ Q E hr ⟨a,x,y,t,span,rfl,⟨dx,ax,ay,h1,hax,hay⟩,ok,ht,hsp,k⟩
 refine⟨_,(ae (aj (xq T.bf (a6 T) hr (ab (aB bG (aB aH (ao (pv 0) rfl) (pv 2)) (aB aH (ao (pv 0) rfl) (pv 1))) (ab (aB aH (ao (pv 0) rfl) (pv 2)) ad))))),?_⟩
 obtain⟨b0,bz,oz,rz⟩:=gv ok
 refine⟨_,rfl,a,_,dx,_,_,rfl,h1,T.aM.cl,T.aM.no _ (by decide),rfl,_,rfl,_,_,rfl,rfl,bo oz hsp,_,rfl,a,_,dx,_,_,rfl,h1,T.aM.cl,T.aM.no _ (by decide),rfl,_,rfl,_,_,rfl,rfl,bo rz ht,_,_,rfl,rfl,_,rfl,a,_,dx,_,_,rfl,h1,T.aM.cl,T.aM.no _ (by decide),rfl,_,rfl,_,_,rfl,rfl,bo bz hsp,?_⟩
 intro z dz nz nd _
 exact cn nz nd (fun H2 e2 s2=>k z H2 ⟨dz,e2⟩ s2) ⟨_,_,rfl,rfl⟩
def B9 (T:Tx K mg):Sp:=fun vs H Q _=>∃(a:Addr) (x y:Vbdeab.Q) (n:Nat) (t span:Int),vs= [.ref a,.int t,.int span]∧gQ T H a (.comb x y n)∧rJ (.comb x y n)∧Sz 400 t∧Sz 400 span∧0<span∧∀(z:Addr) (H':Hp),dW T H' z (Fr.Hb (.comb x y n) t span) (Fr.Kq (.comb x y n) span)→aC H H'→Q (.ref z) H'
theorem BL (T:Tx K mg):pk mg P w base T.wC 3 (B9 T):=by
 refine T.wC.okA BZ ?_
 rintro _ A _ s H _ Q E hr ⟨a,x,y,n,t,span,rfl,⟨dx,ax,ay,h1,hax,hay⟩,ok,ht,hsp,sp0,k⟩
 refine⟨_,(ae (aj (xq T.bf (a6 T) hr (ab (aB bG (ao (pv 0) rfl) (aB aH (ao (pv 0) rfl) (aB bV (aB aH (pv 1) (ao (pv 0) rfl)) (pv 2)))) (ab (ao (pv 0) rfl) ad))))),?_⟩
 obtain⟨b0,bz,oz,rz⟩:=gv ok
 have nz':=ig (eJ ok).2.2.2
 refine⟨_,rfl,a,_,dx,_,_,rfl,h1,T.aF.cl,T.aF.no _ (by decide),rfl,_,rfl,a,_,dx,_,_,rfl,h1,T.aF.cl,T.aF.no _ (by decide),rfl,_,rfl,_,rfl,a,_,dx,_,_,rfl,h1,T.aF.cl,T.aF.no _ (by decide),rfl,_,_,rfl,rfl,bo ht nz',_,rfl,_,_,rfl,rfl,mV sp0 (hsp.mono (by decide)),_,_,rfl,rfl,bo rz ((ht.mul nz' (k:=460)).ediv sp0),_,_,rfl,rfl,_,rfl,a,_,dx,_,_,rfl,h1,T.aF.cl,T.aF.no _ (by decide),rfl,?_⟩
 intro z dz nz nd _
 exact cn nz nd (fun H2 e2 s2=>k z H2 ⟨dz,e2⟩ s2) ⟨_,_,rfl,rfl⟩
def oa (T:Tx K mg):Sp:=fun vs H Q _=>∃(a:Addr) (x y:Vbdeab.Q),vs= [.ref a]∧gQ T H a (.line x y)∧∀(p:Addr),H p=none→Q (.ref p) (bC H p (.lst ((shownClass (.line x y)).map V.int)))
theorem nq (T:Tx K mg):pk mg P w base T.fU 1 (oa T):=by
 refine T.fU.okA nV ?_
 rintro _ A _ s H _ Q E hr ⟨a,x,y,rfl,⟨dx,ax,ay,h1,⟨d1,hax⟩,⟨d2,hay⟩⟩,k⟩
 refine⟨_,(ae (aj (aG (ab am (ab (ao (ao (pv 0) rfl) rfl) (ab (ao (ao (pv 0) rfl) rfl) (ab (ao (ao (pv 0) rfl) rfl) (ab (ao (ao (pv 0) rfl) rfl) (ab am ad))))))))),?_⟩
 exact⟨_,rfl,a,_,dx,_,_,rfl,h1,T.aM.cl,T.aM.no _ (by decide),rfl,ax,_,d1,_,_,rfl,hax,T.aA.cl,T.aA.no _ (by decide),rfl,_,rfl,a,_,dx,_,_,rfl,h1,T.aM.cl,T.aM.no _ (by decide),rfl,ax,_,d1,_,_,rfl,hax,T.aA.cl,T.aA.no _ (by decide),rfl,_,rfl,a,_,dx,_,_,rfl,h1,T.aM.cl,T.aM.no _ (by decide),rfl,ay,_,d2,_,_,rfl,hay,T.aA.cl,T.aA.no _ (by decide),rfl,_,rfl,a,_,dx,_,_,rfl,h1,T.aM.cl,T.aM.no _ (by decide),rfl,ay,_,d2,_,_,rfl,hay,T.aA.cl,T.aA.no _ (by decide),rfl,(by show 6≤sizeLine;decide),k⟩
def n6 (T:Tx K mg):Sp:=fun vs H Q _=>∃(a:Addr) (x y:Vbdeab.Q) (n:Nat),vs= [.ref a]∧gQ T H a (.comb x y n)∧∀(p:Addr),H p=none→Q (.ref p) (bC H p (.lst ((shownClass (.comb x y n)).map V.int)))
theorem nj (T:Tx K mg):pk mg P w base T.fR 1 (n6 T):=by
 refine T.fR.okA nQ ?_
 rintro _ A _ s H _ Q E hr ⟨a,x,y,n,rfl,⟨dx,ax,ay,h1,⟨d1,hax⟩,⟨d2,hay⟩⟩,k⟩
 refine⟨_,(ae (aj (aG (ab am (ab (ao (ao (pv 0) rfl) rfl) (ab (ao (ao (pv 0) rfl) rfl) (ab (ao (ao (pv 0) rfl) rfl) (ab (ao (ao (pv 0) rfl) rfl) (ab (ao (pv 0) rfl) ad))))))))),?_⟩
 exact⟨_,rfl,a,_,dx,_,_,rfl,h1,T.aF.cl,T.aF.no _ (by decide),rfl,ax,_,d1,_,_,rfl,hax,T.aA.cl,T.aA.no _ (by decide),rfl,_,rfl,a,_,dx,_,_,rfl,h1,T.aF.cl,T.aF.no _ (by decide),rfl,ax,_,d1,_,_,rfl,hax,T.aA.cl,T.aA.no _ (by decide),rfl,_,rfl,a,_,dx,_,_,rfl,h1,T.aF.cl,T.aF.no _ (by decide),rfl,ay,_,d2,_,_,rfl,hay,T.aA.cl,T.aA.no _ (by decide),rfl,_,rfl,a,_,dx,_,_,rfl,h1,T.aF.cl,T.aF.no _ (by decide),rfl,ay,_,d2,_,_,rfl,hay,T.aA.cl,T.aA.no _ (by decide),rfl,_,rfl,a,_,dx,_,_,rfl,h1,T.aF.cl,T.aF.no _ (by decide),rfl,(by show 6≤sizeLine;decide),k⟩
def u6 (T:Tx K mg):Sp:=fun vs H Q _=>∃(a:Addr) (x y:Vbdeab.Q),vs= [.ref a]∧gQ T H a (.line x y)∧rJ (.line x y)∧∀(z:Addr) (H':Hp) (n d:Int),dW T H' z n d→Fr.Iz (Fr.xt (.line x y)) n d→Sz 400 n→Sz 400 d→aC H H'→Q (.ref z) H'
theorem ut (T:Tx K mg):pk mg P w base T.kK 1 (u6 T):=by
 refine T.kK.okA uV ?_
 rintro _ A _ s H _ Q E hr ⟨a,x,y,rfl,⟨dx,ax,ay,h1,hax,hay⟩,ok,k⟩
 refine⟨_,(ae (aj (ao (pv 0) rfl))),?_⟩
 obtain⟨hx,hy⟩:=BI ok
 obtain⟨y1,y2⟩:=bZ hy.1
 exact⟨_,rfl,a,_,dx,_,_,rfl,h1,T.aM.cl,T.aM.no _ (by decide),rfl,k ay H _ _ hay hy.2.iz (y1.mono (by decide)) (y2.mono (by decide)) (aC.refl' H)⟩
def uZ (T:Tx K mg):Sp:=fun vs H Q _=>∃(a:Addr) (x y:Vbdeab.Q) (n:Nat),vs= [.ref a]∧gQ T H a (.comb x y n)∧rJ (.comb x y n)∧∀(z:Addr) (H':Hp) (m d:Int),dW T H' z m d→Fr.Iz (Fr.xt (.comb x y n)) m d→Sz 400 m→Sz 400 d→aC H H'→Q (.ref z) H'
theorem ur (T:Tx K mg):pk mg P w base T.kJ 3 (uZ T):=by
 refine T.kJ.okA uT ?_
 rintro _ A _ s H _ Q E hr ⟨a,x,y,n,rfl,⟨dx,ax,ay,h1,hax,hay⟩,ok,k⟩
 refine⟨_,(ae (aj (xq T.bf (a6 T) hr (ab (aB bG (ao (pv 0) rfl) (aB aH (ao (pv 0) rfl) (aB bI (ao (pv 0) rfl) am))) (ab (ao (pv 0) rfl) ad))))),?_⟩
 obtain⟨b0,bz,oz,rz⟩:=gv ok
 have nz':=ig (eJ ok).2.2.2
 have n1:=(eJ ok).2.2.1
 have nz1:Sz 60 ((n:Int) - 1):=nz'.le (by omega)
 refine⟨_,rfl,a,_,dx,_,_,rfl,h1,T.aF.cl,T.aF.no _ (by decide),rfl,_,rfl,a,_,dx,_,_,rfl,h1,T.aF.cl,T.aF.no _ (by decide),rfl,_,rfl,a,_,dx,_,_,rfl,h1,T.aF.cl,T.aF.no _ (by decide),rfl,_,_,rfl,rfl,_,_,rfl,rfl,bo rz nz1,_,_,rfl,rfl,_,rfl,a,_,dx,_,_,rfl,h1,T.aF.cl,T.aF.no _ (by decide),rfl,?_⟩
 intro z dz nz nd _
 have iz:=Fr.vg ok.2 (n - 1)
 rw [show((n - 1:Nat):Int)=(n:Int) - 1 by omega] at iz
 exact cn nz nd (fun H2 e2 s2=>k z H2 _ _ ⟨dz,e2⟩ iz ((oz.add (rz.mul nz1 (k:=241)) (k:=400))) (bz.mono (by decide)) s2) ⟨_,_,rfl,rfl⟩
def n9 (T:Tx K mg):Sp:=fun vs H Q _=>∃(a:Addr) (x y:Vbdeab.Q),vs= [.ref a]∧gQ T H a (.line x y)∧rJ (.line x y)∧Q (.int (Fr.Ct (.line x y))) H
theorem nl (T:Tx K mg):pk mg P w base T.fT 1 (n9 T):=by
 refine T.fT.okA nU ?_
 rintro _ A _ s H _ Q E hr ⟨a,x,y,rfl,⟨dx,ax,ay,h1,hax,hay⟩,ok,k⟩
 refine⟨_,(ae (aj (aB bG (aB aH am (ao (pv 0) rfl)) (ao (pv 0) rfl)))),?_⟩
 obtain⟨b0,bz,oz,rz⟩:=gv ok
 exact⟨_,rfl,a,_,dx,_,_,rfl,h1,T.aM.cl,T.aM.no _ (by decide),rfl,_,_,rfl,rfl,bo (show Sz 2 2 by decide) oz,_,rfl,a,_,dx,_,_,rfl,h1,T.aM.cl,T.aM.no _ (by decide),rfl,_,_,rfl,rfl,k⟩
def n4 (T:Tx K mg):Sp:=fun vs H Q _=>∃(a:Addr) (x y:Vbdeab.Q) (n:Nat),vs= [.ref a]∧gQ T H a (.comb x y n)∧rJ (.comb x y n)∧Q (.int (Fr.Ct (.comb x y n))) H
theorem ni (T:Tx K mg):pk mg P w base T.fQ 1 (n4 T):=by
 refine T.fQ.okA nO ?_
 rintro _ A _ s H _ Q E hr ⟨a,x,y,n,rfl,⟨dx,ax,ay,h1,hax,hay⟩,ok,k⟩
 refine⟨_,(ae (aj (aB bG (aB aH am (ao (pv 0) rfl)) (aB aH (ao (pv 0) rfl) (aB bI (ao (pv 0) rfl) am))))),?_⟩
 obtain⟨b0,bz,oz,rz⟩:=gv ok
 have nz':=ig (eJ ok).2.2.2
 have n1:=(eJ ok).2.2.1
 have nz1:Sz 60 ((n:Int) - 1):=nz'.le (by omega)
 exact⟨_,rfl,a,_,dx,_,_,rfl,h1,T.aF.cl,T.aF.no _ (by decide),rfl,_,_,rfl,rfl,bo (show Sz 2 2 by decide) oz,_,rfl,a,_,dx,_,_,rfl,h1,T.aF.cl,T.aF.no _ (by decide),rfl,_,rfl,a,_,dx,_,_,rfl,h1,T.aF.cl,T.aF.no _ (by decide),rfl,_,_,rfl,rfl,_,_,rfl,rfl,bo rz nz1,_,_,rfl,rfl,k⟩
def lT (T:Tx K mg):Sp:=fun vs H Q _=>∃(a:Addr) (x y:Vbdeab.Q),vs= [.ref a]∧gQ T H a (.line x y)∧rJ (.line x y)∧Q (.int (Fr.qu (.line x y))) H
theorem lL (T:Tx K mg):pk mg P w base T.eO 1 (lT T):=by
 refine T.eO.okA lR ?_
 rintro _ A _ s H _ Q E hr ⟨a,x,y,rfl,⟨dx,ax,ay,h1,hax,hay⟩,ok,k⟩
 refine⟨_,(ae (aj (aB bG (aB aH (aB aH am (ao (pv 0) rfl)) (aB bG (ao (pv 0) rfl) (ao (pv 0) rfl))) (aB aH (aB aH am (ao (pv 0) rfl)) (ao (pv 0) rfl))))),?_⟩
 obtain⟨b0,bz,oz,rz⟩:=gv ok
 have o6:=(show Sz 3 6 by decide).mul oz (k:=183)
 have r2:=(show Sz 2 2 by decide).mul rz (k:=183)
 exact⟨_,rfl,a,_,dx,_,_,rfl,h1,T.aM.cl,T.aM.no _ (by decide),rfl,_,_,rfl,rfl,bo (show Sz 3 6 by decide) oz,_,rfl,a,_,dx,_,_,rfl,h1,T.aM.cl,T.aM.no _ (by decide),rfl,_,rfl,a,_,dx,_,_,rfl,h1,T.aM.cl,T.aM.no _ (by decide),rfl,_,_,rfl,rfl,_,_,rfl,rfl,bo o6 (oz.add rz (k:=182)),_,rfl,a,_,dx,_,_,rfl,h1,T.aM.cl,T.aM.no _ (by decide),rfl,_,_,rfl,rfl,bo (show Sz 2 2 by decide) rz,_,rfl,a,_,dx,_,_,rfl,h1,T.aM.cl,T.aM.no _ (by decide),rfl,_,_,rfl,rfl,bo r2 rz,_,_,rfl,rfl,k⟩
def lS (T:Tx K mg):Sp:=fun vs H Q _=>∃(a:Addr) (x y:Vbdeab.Q) (n:Nat),vs= [.ref a]∧gQ T H a (.comb x y n)∧rJ (.comb x y n)∧Q (.int (Fr.qu (.comb x y n))) H
theorem lK (T:Tx K mg):pk mg P w base T.eM 1 (lS T):=by
 refine T.eM.okA f9 ?_
 rintro _ A _ s H _ Q E hr ⟨a,x,y,n,rfl,⟨dx,ax,ay,h1,hax,hay⟩,ok,k⟩
 refine⟨_,(ac (aW 1 f9.nd (aB aH (ao (pv 0) rfl) (aB bI (ao (pv 0) rfl) am)))
   (ae (aj (aB bG (aB aH (aB aH am (ao (pv 0) rfl)) (aB bG (ao (pv 0) rfl) (pv 1))) (aB aH (aB aH (ao (pv 0) rfl) (pv 1)) (aB bI (aB aH am (ao (pv 0) rfl)) am)))))),?_⟩
 obtain⟨b0,bz,oz,rz⟩:=gv ok
 have nz':=ig (eJ ok).2.2.2
 have n1:=(eJ ok).2.2.1
 have nz1:Sz 60 ((n:Int) - 1):=nz'.le (by omega)
 have n2:Sz 62 (2*(n:Int)):=(show Sz 2 2 by decide).mul nz' (k:=62)
 have o6:=(show Sz 3 6 by decide).mul oz (k:=183)
 have wz:=rz.mul nz1 (k:=241)
 refine⟨_,rfl,a,_,dx,_,_,rfl,h1,T.aF.cl,T.aF.no _ (by decide),rfl,_,rfl,a,_,dx,_,_,rfl,h1,T.aF.cl,T.aF.no _ (by decide),rfl,_,_,rfl,rfl,_,_,rfl,rfl,bo rz nz1,?_⟩
 exact⟨_,rfl,a,_,dx,_,_,rfl,h1,T.aF.cl,T.aF.no _ (by decide),rfl,_,_,rfl,rfl,bo (show Sz 3 6 by decide) oz,_,rfl,a,_,dx,_,_,rfl,h1,T.aF.cl,T.aF.no _ (by decide),rfl,_,rfl,_,_,rfl,rfl,_,_,rfl,rfl,bo o6 (oz.add wz (k:=242)),_,rfl,a,_,dx,_,_,rfl,h1,T.aF.cl,T.aF.no _ (by decide),rfl,_,rfl,_,_,rfl,rfl,bo rz wz,_,rfl,a,_,dx,_,_,rfl,h1,T.aF.cl,T.aF.no _ (by decide),rfl,_,_,rfl,rfl,bo (show Sz 2 2 by decide) nz',_,_,rfl,rfl,_,_,rfl,rfl,bo (rz.mul wz (k:=422)) (n2.sub (show Sz 1 1 by decide) (k:=63)),_,_,rfl,rfl,k⟩
theorem x9 {m:Nat} {r:Int} (h:Sz m r):Sz m (Fr.sv r):=by
 refine h.le ?_
 unfold Fr.sv
 split<;>omega
theorem E8 (r:Int):0≤Fr.sv r:=by unfold Fr.sv;split<;>omega
def qw (T:Tx K mg):Sp:=fun vs H Q _=>∃(a b:Addr) (x y v:Vbdeab.Q) (st:Int),vs= [.ref a,.ref b,.int st]∧gQ T H a (.line x y)∧rJ (.line x y)∧ir T H b v∧gH v∧∀(z:Addr) (H':Hp),dW T H' z (Fr.uD (.line x y) v.num (v.den:Int) st) (Fr.rQ (.line x y) (v.den:Int))→aC H H'→Q (.ref z) H'
theorem pR (T:Tx K mg):pk mg P w base T.il 3 (qw T):=by
 refine T.il.okA fi ?_
 rintro _ A _ s H _ Q E hr ⟨a,b,x,y,v,st,rfl,⟨dx,ax,ay,h1,hax,hay⟩,ok,⟨dv,hv⟩,okv,k⟩
 refine⟨_,(ac (aQ (aO oR (ao (pv 0) rfl) am (aV _)) (ae (aj (xq T.bf (a6 T) hr (ab (uF (aO Fz (be T.ip (jx T) hr (ab (ao (pv 0) rfl) (ab (ao (pv 0) rfl) (ab (pv 1) ad)))) (pv 2) (aV _)) am am) (ab am ad))))) aE)
   (ac (aW 3 fi.nd (aB aH (a5 CC (by rfl) T.Kg (by rfl) (ab (ao (pv 0) rfl) ad)) (ao (pv 1) rfl)))
   (ac (aW 4 fi.nd (be T.ip (jx T) hr (ab (a5 (AL rfl) (by rfl) T.IZ (by rfl) (ab (ao (pv 0) rfl) (ab (aB bG (ao (pv 0) rfl) (ao (pv 0) rfl)) ad))) (ab (ao (pv 0) rfl) (ab (pv 1) ad)))))
   (ae (aj (xq T.bf (a6 T) hr (ab (be T.rh (uv T) hr (ab (pv 4) (ab (pv 3) ad))) (ab (pv 3) ad)))))))),?_⟩
 obtain⟨b0,bz,oz,rz⟩:=gv ok
 obtain⟨v1,v2⟩:=bZ okv.1
 have v0:=eR okv.2
 unfold Fr.uD Fr.rQ at k
 simp only at k
 refine⟨_,rfl,a,_,dx,_,_,rfl,h1,T.aM.cl,T.aM.no _ (by decide),rfl,rfl,_,rfl,aU (fun hr=> ?_) (fun hr=> ?_)⟩
 ·have hr':Fr.cR (.line x y)=0:=V.int.inj (of_decide_eq_true hr)
  rw [if_pos hr',if_pos hr'] at k
  refine⟨_,rfl,a,_,dx,_,_,rfl,h1,T.aM.cl,T.aM.no _ (by decide),rfl,_,rfl,a,_,dx,_,_,rfl,h1,T.aM.cl,T.aM.no _ (by decide),rfl,_,rfl,b,v,_,_,rfl,⟨dv,hv⟩,okv,oz.mono (by decide),bz.mono (by decide),_,rfl,_,_,rfl,rfl,_,rfl,aU (fun h2=> ?_) (fun h2=> ?_)⟩
  ·have h2':=of_decide_eq_true h2
   rw [if_pos h2'] at k
   intro z dz nz nd _
   exact cn nz nd (fun H2 e2 s2=>k z H2 ⟨dz,e2⟩ s2) ⟨_,_,rfl,rfl⟩
  ·rw [if_neg fun q=>h2 (decide_eq_true q)] at k
   intro z dz nz nd _
   exact cn nz nd (fun H2 e2 s2=>k z H2 ⟨dz,e2⟩ s2) ⟨_,_,rfl,rfl⟩
 ·have hr':¬Fr.cR (.line x y)=0:=fun q=>hr (decide_eq_true (congrArg V.int q))
  rw [if_neg hr',if_neg hr'] at k
  have az:=x9 rz
  refine⟨_,rfl,a,_,dx,_,_,rfl,h1,T.aM.cl,T.aM.no _ (by decide),rfl,_,rfl,_,rfl,b,_,dv,_,_,rfl,hv,T.aA.cl,T.aA.no _ (by decide),rfl,_,_,rfl,rfl,bo az v2,?_⟩
  refine⟨_,rfl,a,_,dx,_,_,rfl,h1,T.aM.cl,T.aM.no _ (by decide),rfl,_,rfl,a,_,dx,_,_,rfl,h1,T.aM.cl,T.aM.no _ (by decide),rfl,_,rfl,a,_,dx,_,_,rfl,h1,T.aM.cl,T.aM.no _ (by decide),rfl,_,_,rfl,rfl,_,_,rfl,_,rfl,a,_,dx,_,_,rfl,h1,T.aM.cl,T.aM.no _ (by decide),rfl,_,rfl,b,v,_,_,rfl,⟨dv,hv⟩,okv,?_,bz.mono (by decide),?_⟩
  ·show Sz 400 (Fr.HZ (Fr.cO (.line x y)) (Fr.cO (.line x y)+Fr.cR (.line x y)))
   unfold Fr.HZ
   split
   ·exact oz.add rz (k:=400)
   ·exact oz.mono (by decide)
  ·refine⟨_,rfl,_,rfl,_,_,rfl,Int.mul_nonneg (E8 _) (Int.le_of_lt v0),_,rfl,?_⟩
   intro z dz nz nd _
   exact cn nz nd (fun H2 e2 s2=>k z H2 ⟨dz,e2⟩ s2) ⟨_,_,rfl,rfl⟩
def qv (T:Tx K mg):Sp:=fun vs H Q _=>∃(a b:Addr) (x y v:Vbdeab.Q) (n:Nat) (st:Int),vs= [.ref a,.ref b,.int st]∧gQ T H a (.comb x y n)∧rJ (.comb x y n)∧ir T H b v∧gH v∧∀(z:Addr) (H':Hp),dW T H' z (Fr.uD (.comb x y n) v.num (v.den:Int) st) (Fr.rQ (.comb x y n) (v.den:Int))→aC H H'→Q (.ref z) H'
theorem pQ (T:Tx K mg):pk mg P w base T.ik 3 (qv T):=by
 refine T.ik.okA cb ?_
 rintro _ A _ s H _ Q E hr ⟨a,b,x,y,v,n,st,rfl,⟨dx,ax,ay,h1,hax,hay⟩,ok,⟨dv,hv⟩,okv,k⟩
 refine⟨_,(ac (aW 3 cb.nd (aB bI (be T.ip (jx T) hr (ab (ao (pv 0) rfl) (ab (ao (pv 0) rfl) (ab (pv 1) ad)))) (pv 2)))
   (ac (aW 4 cb.nd (aB aH (a5 CC (by rfl) T.Kg (by rfl) (ab (ao (pv 0) rfl) ad)) (ao (pv 1) rfl)))
   (ac (aQ (aO oR (ao (pv 0) rfl) am (aV _)) (ae (aW 5 cb.nd (uF (aO Fz (pv 3) am (aV _)) (ao (pv 0) rfl) am))) (ae (aQ (aO rP (ao (pv 0) rfl) am (aV _)) (ae (aW 5 cb.nd (aB bG (aB bV (pv 3) (pv 4)) am))) (ae (aW 5 cb.nd (aB bG (ao (pv 0) rfl) (aB bV (pv 3) (pv 4))))))))
   (ae (aj (xq T.bf (a6 T) hr (ab (be T.rh (uv T) hr (ab (pv 5) (ab (ao (pv 0) rfl) ad))) (ab (ao (pv 0) rfl) ad)))))))),?_⟩
 obtain⟨b0,bz,oz,rz⟩:=gv ok
 obtain⟨v1,v2⟩:=bZ okv.1
 have v0:=eR okv.2
 have az:=x9 rz
 have aq:=az.mul v2 (k:=241)
 refine⟨_,rfl,a,_,dx,_,_,rfl,h1,T.aF.cl,T.aF.no _ (by decide),rfl,_,rfl,a,_,dx,_,_,rfl,h1,T.aF.cl,T.aF.no _ (by decide),rfl,_,rfl,b,v,_,_,rfl,⟨dv,hv⟩,okv,oz.mono (by decide),bz.mono (by decide),_,rfl,_,_,rfl,rfl,?_⟩
 refine⟨_,rfl,a,_,dx,_,_,rfl,h1,T.aF.cl,T.aF.no _ (by decide),rfl,_,rfl,_,rfl,b,_,dv,_,_,rfl,hv,T.aA.cl,T.aA.no _ (by decide),rfl,_,_,rfl,rfl,bo az v2,?_⟩
 have fin:∀r:Int,r=Fr.mo (Fr.cR (.comb x y n)) (v.num*Fr.cB (.comb x y n) - Fr.cO (.comb x y n)*(v.den:Int) - st) (Fr.sv (Fr.cR (.comb x y n))*(v.den:Int)) n→∀z:Addr,∀H':Hp,dW T H' z (Fr.eI r n) (n:Int)→aC H H'→Q (.ref z) H':=fun r e z H' h s=>k z H' (by rw [e] at h;exact h) s
 refine⟨_,rfl,a,_,dx,_,_,rfl,h1,T.aF.cl,T.aF.no _ (by decide),rfl,rfl,_,rfl,aU (fun hr=> ?_) (fun hr=> ?_)⟩
 ·have hr':Fr.cR (.comb x y n)=0:=V.int.inj (of_decide_eq_true hr)
  refine⟨_,rfl,_,_,rfl,rfl,_,rfl,aU (fun h2=> ?_) (fun h2=> ?_)⟩
  ·have h2':=of_decide_eq_true h2
   refine⟨_,rfl,a,_,dx,_,_,rfl,h1,T.aF.cl,T.aF.no _ (by decide),rfl,?_⟩
   refine⟨_,rfl,_,rfl,a,_,dx,_,_,rfl,h1,T.aF.cl,T.aF.no _ (by decide),rfl,_,_,rfl,by omega,_,rfl,a,_,dx,_,_,rfl,h1,T.aF.cl,T.aF.no _ (by decide),rfl,?_⟩
   intro z dz nz nd _
   exact cn nz nd (fun H2 e2 s2=>fin n (by unfold Fr.mo;rw [if_pos hr',if_pos h2']) z H2 ⟨dz,e2⟩ s2) ⟨_,_,rfl,rfl⟩
  ·have h2':=fun q=>h2 (decide_eq_true q)
   refine⟨_,rfl,_,rfl,a,_,dx,_,_,rfl,h1,T.aF.cl,T.aF.no _ (by decide),rfl,_,_,rfl,by omega,_,rfl,a,_,dx,_,_,rfl,h1,T.aF.cl,T.aF.no _ (by decide),rfl,?_⟩
   intro z dz nz nd _
   exact cn nz nd (fun H2 e2 s2=>fin 0 (by unfold Fr.mo;rw [if_pos hr',if_neg h2']) z H2 ⟨dz,e2⟩ s2) ⟨_,_,rfl,rfl⟩
 ·have hr':¬Fr.cR (.comb x y n)=0:=fun q=>hr (decide_eq_true (congrArg V.int q))
  have st0:0<Fr.sv (Fr.cR (.comb x y n))*(v.den:Int):=Int.mul_pos (Fr.Cz hr') v0
  refine⟨_,rfl,a,_,dx,_,_,rfl,h1,T.aF.cl,T.aF.no _ (by decide),rfl,_,_,rfl,rfl,_,rfl,aU (fun h2=> ?_) (fun h2=> ?_)⟩
  ·have h2':0<Fr.cR (.comb x y n):=of_decide_eq_true h2
   refine⟨_,rfl,_,rfl,_,_,rfl,rfl,mV st0 (aq.mono (by decide)),_,_,rfl,rfl,?_⟩
   refine⟨_,rfl,_,rfl,a,_,dx,_,_,rfl,h1,T.aF.cl,T.aF.no _ (by decide),rfl,_,_,rfl,by omega,_,rfl,a,_,dx,_,_,rfl,h1,T.aF.cl,T.aF.no _ (by decide),rfl,?_⟩
   intro z dz nz nd _
   exact cn nz nd (fun H2 e2 s2=>fin _ (by unfold Fr.mo;rw [if_neg hr',if_pos h2'];rfl) z H2 ⟨dz,e2⟩ s2) ⟨_,_,rfl,rfl⟩
  ·have h2':¬0<Fr.cR (.comb x y n):=fun q=>h2 (decide_eq_true q)
   refine⟨_,rfl,a,_,dx,_,_,rfl,h1,T.aF.cl,T.aF.no _ (by decide),rfl,_,rfl,_,rfl,_,_,rfl,rfl,mV st0 (aq.mono (by decide)),_,_,rfl,rfl,?_⟩
   refine⟨_,rfl,_,rfl,a,_,dx,_,_,rfl,h1,T.aF.cl,T.aF.no _ (by decide),rfl,_,_,rfl,by omega,_,rfl,a,_,dx,_,_,rfl,h1,T.aF.cl,T.aF.no _ (by decide),rfl,?_⟩
   intro z dz nz nd _
   exact cn nz nd (fun H2 e2 s2=>fin _ (by unfold Fr.mo;rw [if_neg hr',if_neg h2'];rfl) z H2 ⟨dz,e2⟩ s2) ⟨_,_,rfl,rfl⟩
def pH (f s:Vbdeab.Q) (c:Class):Option Class:=Kd.sm (some (c.bent f s))
theorem FY (f s x y:Vbdeab.Q):Kd.iA (vh f x s) (vh f y s)=pH f s (.line x y):=by
 show _=(if ((Class.line ((f.mul x).add s) ((f.mul y).add s)).small)=true then some (Class.line ((f.mul x).add s) ((f.mul y).add s)) else none)
 have e:(Class.line ((f.mul x).add s) ((f.mul y).add s)).small=(((f.mul x).add s).small && ((f.mul y).add s).small):=rfl
 rw [e]
 unfold vh
 cases ((f.mul x).add s).small<;>cases ((f.mul y).add s).small<;>rfl
def Ib (f x:Vbdeab.Q):Option Vbdeab.Q:=if (f.mul x).small=true then some (f.mul x) else none
theorem Fw {f x:Vbdeab.Q} (hx:gH x) (hf:gH f):Vbdeab.fraction (x.num*f.num) ((x.den:Int)*(f.den:Int))=Ib f x:=by
 have z:=hf.2.iz.mul hx.2.iz
 have p:(0:Int)<(x.den:Int)*(f.den:Int):=Int.mul_pos (eR hx.2) (eR hf.2)
 have z2:=z.conv (m:=x.num*f.num) p (by grind)
 unfold Vbdeab.fraction Ib
 rw [←z2.eq]
 by_cases q:(f.mul x).small=true
 ·rw [if_pos q,if_pos ⟨by omega,q⟩]
 ·rw [if_neg q,if_neg fun y=>q y.2]
theorem Jz {f x q:Vbdeab.Q} (hx:gH x) (hf:gH f) (h:Ib f x=some q):gH q:=by
 rw [←Fw hx hf] at h
 exact k7 h
theorem FX (f s x y:Vbdeab.Q) {n:Nat} (h1:1≤n) (h2:n≤1000000000000000000):Kd.k6 (vh f x s) (Ib f y) n=pH f s (.comb x y n):=by
 show _=(if ((Class.comb ((f.mul x).add s) (f.mul y) n).small)=true then some (Class.comb ((f.mul x).add s) (f.mul y) n) else none)
 have e:(Class.comb ((f.mul x).add s) (f.mul y) n).small=(((f.mul x).add s).small && (f.mul y).small && decide (1≤n) && decide (n≤Vbdeab.BIG)):=rfl
 rw [e,decide_eq_true h1,decide_eq_true (show n≤Vbdeab.BIG from h2)]
 have c:(1≤(n:Int)∧(n:Int)≤1000000000000000000):=by omega
 unfold vh Ib
 cases ((f.mul x).add s).small<;>cases (f.mul y).small<;>first | rfl | skip
 show(if 1≤(n:Int)∧(n:Int)≤1000000000000000000 then some (Class.comb ((f.mul x).add s) (f.mul y) (n:Int).toNat) else none)=_
 rw [if_pos c]
 rfl
def zJ (T:Tx K mg):Sp:=fun vs H Q _=>∃(a b c:Addr) (x y f s:Vbdeab.Q),vs= [.ref a,.ref b,.ref c]∧gQ T H a (.line x y)∧rJ (.line x y)∧ir T H b f∧ir T H c s∧gH f∧gH s∧∀(v:V) (H':Hp),Br T H' v (pH f s (.line x y))→aC H H'→Q v H'
theorem yS (T:Tx K mg):pk mg P w base T.qN 6 (zJ T):=by
 refine T.qN.okA zu ?_
 rintro _ A _ s H _ Q E hr ⟨a,b,c,x,y,f,s,rfl,⟨dx,ax,ay,h1,hax,hay⟩,ok,hb,hc,okf,oks,k⟩
 refine⟨_,(ae (aj (be T.mN (nv T) hr (ab (be T.qR (pU T) hr (ab (ao (pv 0) rfl) (ab (pv 1) (ab (pv 2) ad)))) (ab (be T.qR (pU T) hr (ab (ao (pv 0) rfl) (ab (pv 1) (ab (pv 2) ad)))) ad))))),?_⟩
 obtain⟨hx,hy⟩:=BI ok
 refine⟨_,rfl,a,_,dx,_,_,rfl,h1,T.aM.cl,T.aM.no _ (by decide),rfl,_,rfl,_,rfl,ax,b,c,x,f,s,rfl,hax,hb,hc,hx,okf,oks,fun v1 H1 o1 s1=> ?_⟩
 refine⟨_,rfl,a,_,dx,_,_,rfl,(s1 _ _ h1),T.aM.cl,T.aM.no _ (by decide),rfl,_,rfl,_,rfl,ay,b,c,y,f,s,rfl,hay.same s1,hb.same s1,hc.same s1,hy,okf,oks,fun v2 H2 o2 s2=> ?_⟩
 refine⟨v1,v2,_,_,rfl,o1.same s2,o2,fun q hq=>zV hx okf oks hq,fun q hq=>zV hy okf oks hq,fun r H3 o3 s3=> ?_⟩
 rw [FY] at o3
 exact k r H3 o3 ((s1.trans s2).trans s3)
def zF (T:Tx K mg):Sp:=fun vs H Q _=>∃(a b c:Addr) (x y f s:Vbdeab.Q) (n:Nat),vs= [.ref a,.ref b,.ref c]∧gQ T H a (.comb x y n)∧rJ (.comb x y n)∧ir T H b f∧ir T H c s∧gH f∧gH s∧∀(v:V) (H':Hp),Br T H' v (pH f s (.comb x y n))→aC H H'→Q v H'
theorem yQ (T:Tx K mg):pk mg P w base T.qL 6 (zF T):=by
 refine T.qL.okA qo ?_
 rintro _ A _ s H _ Q E hr ⟨a,b,c,x,y,f,s,n,rfl,⟨dx,ax,ay,h1,hax,hay⟩,ok,hb,hc,okf,oks,k⟩
 refine⟨_,(ac (aW 3 qo.nd (wB (ao (pv 0) rfl) T.ja (me T) hr (ab (pv 1) ad)))
   (ae (aj (be T.jZ (jM T) hr (ab (be T.qR (pU T) hr (ab (ao (pv 0) rfl) (ab (pv 1) (ab (pv 2) ad)))) (ab (be T.b7 (bQ T) hr (ab (ao (pv 3) rfl) (ab (ao (pv 3) rfl) ad))) (ab (ao (pv 0) rfl) ad))))))),?_⟩
 obtain⟨hx,hy,n1,n2⟩:=eJ ok
 obtain⟨y1,y2⟩:=bZ hy.1
 obtain⟨f1,f2⟩:=bZ okf.1
 obtain⟨dy,hay'⟩:=id hay
 refine⟨_,rfl,a,_,dx,_,_,rfl,h1,T.aF.cl,T.aF.no _ (by decide),rfl,ay,dy,_,rfl,hay',rfl,_,rfl,ay,b,_,_,_,_,rfl,hay,hb,bo y1 f1,bo y2 f2,fun g H1 ⟨dg,hg⟩ s1=> ?_⟩
 refine⟨_,rfl,a,_,dx,_,_,rfl,(s1 _ _ h1),T.aF.cl,T.aF.no _ (by decide),rfl,_,rfl,_,rfl,ax,b,c,x,f,s,rfl,hax.same s1,hb.same s1,hc.same s1,hx,okf,oks,fun v1 H2 o1 s2=> ?_⟩
 refine⟨_,rfl,g,_,dg,_,_,rfl,(s2 _ _ hg),T.aA.cl,T.aA.no _ (by decide),rfl,_,rfl,g,_,dg,_,_,rfl,(s2 _ _ hg),T.aA.cl,T.aA.no _ (by decide),rfl,_,_,rfl,(y2.mul f2 (k:=120)).mono (by decide),fun v2 H3 o2 s3=> ?_⟩
 rw [Fw hy okf] at o2
 refine⟨_,rfl,a,_,dx,_,_,rfl,(s3 _ _ (s2 _ _ (s1 _ _ h1))),T.aF.cl,T.aF.no _ (by decide),rfl,v1,v2,_,_,n,rfl,o1.same s3,o2,fun q hq=>zV hx okf oks hq,fun q hq=>Jz hy okf hq,fun r H4 o4 s4=> ?_⟩
 rw [FX f s x y n1 n2] at o4
 exact k r H4 o4 (((s1.trans s2).trans s3).trans s4)
open Vbdeab (Class Dist)
def cH (l:List Nat):List V:=(nats l).map V.int
theorem a9 (l:List Nat):(cH l).length=l.length:=by unfold cH nats;rw [List.length_map,List.length_map]
theorem BF {l:List Nat} {i n:Nat} (h:l[i]?=some n):(cH l)[i]?=some (.int (n:Nat)):=by unfold cH nats;rw [List.getElem?_map,List.getElem?_map,h];rfl
theorem m5 {l:List Nat} {i:Nat} {v:V} (h:(cH l)[i]?=some v):∃n,l[i]?=some n∧v= .int (n:Nat):=by
 unfold cH nats at h
 rw [List.getElem?_map,List.getElem?_map] at h
 cases e:l[i]? with
 | none=>rw [e] at h;cases h
 | some n=>rw [e] at h;cases h;exact⟨n,rfl,rfl⟩
theorem eX (l:List Nat) (n:Nat):cH l++ [V.int (n:Nat)]=cH (l++ [n]):=by unfold cH nats;rw [List.map_append,List.map_append];rfl
theorem gz {α:Type} (f:Nat→α) (n:Nat):(List.range (n+1)).map f=(List.range n).map f++ [f n]:=by rw [List.range_succ,List.map_append];rfl
theorem C3 (l:List Nat):(nats l).sum=((Vbdeab.sum l:Nat):Int):=by
 induction l with
 | nil=>rfl
 | cons a r ih=>show((a:Int)+(nats r).sum)=_;rw [ih,Ch.sum_cons,Int.natCast_add]
theorem xo (l:List Nat) (i:Nat):Vbdeab.sum (l.take i)≤Vbdeab.sum l:=by
 have:=Ch.sum_append (l.take i) (l.drop i)
 rw [List.take_append_drop] at this
 omega
theorem oO {n:Nat} (h:n≤10 ^ 40):n<2 ^ 133:=Nat.lt_of_le_of_lt h (by decide)
def Hr (ws:List Nat):List Nat:=(List.range ws.length).map fun i=>Vbdeab.sum (ws.take i)
def uh (ws:List Nat):List Nat:=(List.range ws.length).map fun i=>ceilDiv (Vbdeab.M*Vbdeab.sum (ws.take (i+1))) (Vbdeab.sum ws)
def M4 (wl sl:Addr) (W:Nat) (bl el:Addr):List (Str×V):= [("weights",.ref wl),("shapes",.ref sl),("total",.int (W:Nat)),("before",.ref bl),("ends",.ref el)]
structure Kh (d:Dist):Prop where
 len1:1≤d.length
 len2:d.length≤64
 tot1:1≤total d
 tot2:total d≤10 ^ 40
 cls:∀c∈d,rJ c.2
theorem Kh.low {d:Dist} (h:Kh d):∀c∈d,Fr.iu c.2:=fun c hc=>(h.cls c hc).2
structure DV (T:Tx K mg) (av:List Addr) (H:Hp) (a:Addr) (d:Dist) (dx wl sl bl el:Addr) (as:List Addr):Prop where
 inst:H a=some (.ins T.ai.C dx (M4 wl sl (total d) bl el))
 w:H wl=some (.lst (cH (d.map fun c=>c.1)))
 s:H sl=some (.lst (as.map V.ref))
 b:H bl=some (.lst (cH (Hr (d.map fun c=>c.1))))
 e:H el=some (.lst (cH (uh (d.map fun c=>c.1))))
 len:as.length=d.length
 sh:∀(i:Nat) x c,as[i]?=some x→d[i]?=some c→gQ T H x c.2
 nw:wl ∉ av
 ns:sl ∉ av
 nb:bl ∉ av
 ne:el ∉ av
 ok:Kh d
def dD (T:Tx K mg) (av:List Addr) (H:Hp) (a:Addr) (d:Dist):Prop:=∃dx wl sl bl el as,DV T av H a d dx wl sl bl el as
def Mt (fs:List (Str×V)):Bool:=match fs with
 | (n,_)::_=>n=="top" || n=="x" || n=="weights"
 | []=>false
structure KP (av:List Addr) (H H':Hp):Prop where
 i:∀b C dx fs,H b=some (.ins C dx fs)→Mt fs=true→H' b=some (.ins C dx fs)
 l:∀b xs,H b=some (.lst xs)→b ∉ av→H' b=some (.lst xs)
theorem KP.same {av:List Addr} {H H':Hp} (s:aC H H'):KP av H H':=⟨fun b C dx fs e _=>s _ _ e,fun b xs e _=>s _ _ e⟩
theorem KP.rt {av:List Addr} {T:Tx K mg} {H H':Hp} {a:Addr} {n d:Int} (s:KP av H H') (h:dW T H a n d):dW T H' a n d:=let ⟨dx,e⟩:=h;⟨dx,s.i _ _ _ _ e rfl⟩
theorem KP.sh {av:List Addr} {T:Tx K mg} {H H':Hp} {a:Addr} {c:Class} (s:KP av H H') (h:gQ T H a c):gQ T H' a c:=by
 cases c with
 | line x y=>obtain⟨dx,ax,ay,e,h1,h2⟩:=h;exact⟨dx,ax,ay,s.i _ _ _ _ e rfl,s.rt h1,s.rt h2⟩
 | comb x y n=>obtain⟨dx,ax,ay,e,h1,h2⟩:=h;exact⟨dx,ax,ay,s.i _ _ _ _ e rfl,s.rt h1,s.rt h2⟩
theorem DV.kp {T:Tx K mg} {av:List Addr} {H H':Hp} {a:Addr} {d:Dist} {dx wl sl bl el:Addr} {as:List Addr} (h:DV T av H a d dx wl sl bl el as) (s:KP av H H'):DV T av H' a d dx wl sl bl el as:=
 ⟨s.i _ _ _ _ h.inst rfl,s.l _ _ h.w h.nw,s.l _ _ h.s h.ns,s.l _ _ h.b h.nb,s.l _ _ h.e h.ne,h.len,fun i x c h1 h2=>s.sh (h.sh i x c h1 h2),h.nw,h.ns,h.nb,h.ne,h.ok⟩
theorem dD.kp {T:Tx K mg} {av:List Addr} {H H':Hp} {a:Addr} {d:Dist} (h:dD T av H a d) (s:KP av H H'):dD T av H' a d:=let ⟨dx,wl,sl,bl,el,as,v⟩:=h;⟨dx,wl,sl,bl,el,as,v.kp s⟩
theorem dD.same {T:Tx K mg} {av:List Addr} {H H':Hp} {a:Addr} {d:Dist} (h:dD T av H a d) (s:aC H H'):dD T av H' a d:=h.kp (.same s)
def gG (T:Tx K mg) (av:List Addr) (H:Hp) (v:V) (o:Option Dist):Prop:=match o with
 | none=>v= .non
 | some d=>∃x,v= .ref x∧dD T av H x d
theorem gG.kp {T:Tx K mg} {av:List Addr} {H H':Hp} {v:V} {o:Option Dist} (h:gG T av H v o) (s:KP av H H'):gG T av H' v o:=by
 cases o with
 | none=>exact h
 | some d=>obtain⟨x,e,h⟩:=h;exact⟨x,e,h.kp s⟩
theorem de {av:List Addr} {H:Hp} (h:∀b∈av,H b≠none) {p:Addr} (hp:H p=none):p ∉ av:=fun m=>h p m hp
def xW (T:Tx K mg):Sp:=fun vs H Q _=>∃(a W:Nat),vs= [.int a,.int W]∧0<W∧W<2 ^ 9000∧Q (.int (ceilDiv a W:Nat)) H
theorem xE (T:Tx K mg):cM P w base T.oF 1 (xW T):=by
 refine T.oF.okA xK ?_
 rintro _ A _ s H _ Q E hr ⟨a,W,rfl,hW,hz,k⟩
 refine⟨_,(ae (aj (FC Cn (aB bV (FC Cn (pv 0)) (pv 1))))),?_⟩
 refine⟨_,rfl,_,rfl,_,rfl,_,_,rfl,rfl,mV (by omega) (dh hz),_,rfl,?_⟩
 rw [←Fr.Hw hW] at k
 exact k
def ww (T:Tx K mg):Sp:=fun vs H Q _=>∃(a:Addr) (ws:List Nat),vs= [.ref a]∧aX K H a (cH ws)∧ws.length≤2000∧∀(H':Hp) (p:Addr),H' p=some (.lst (cH (Hr ws)))→aC H H'→H p=none→Q (.ref p) H'
theorem vF (T:Tx K mg):cM P w base T.lX 1 (ww T):=by
 refine T.lX.okA dQ ?_
 rintro _ A _ s H _ Q E hr ⟨a,ws,rfl,hs,hl,k⟩
 refine⟨_,(ac (aW 1 dQ.nd (aG ad))
   (ac (aW 2 dQ.nd am)
   (ac (cZ PassesOwn.never rfl (bW (pv 0)) (i9 3 dQ.nd) (ac (eU (oS PySem.F.plainAttrs_list PySem.F.slot_list_append PySem.F.type_list_append gI (pv 1) (ab (pv 2) ad)))
   (ae (lN (i:=2) dQ.nd rfl (Or.inl rfl) (pv 3) j8))))
   (ae (aj (pv 1)))))),?_⟩
 refine⟨Nat.zero_le _,fun D hD=> ?_⟩
 have sD:=aC.laid (o:= .lst []) hD
 refine⟨_,rfl,a,rfl,⟨_,sD.seq hs⟩,c9 (xs:=cH ws) (fun i σ H'=>i≤ws.length∧∃(v:Option V),σ= [some (.ref a),some (.ref D),some (.int (Vbdeab.sum (ws.take i):Nat)),v]∧H' D=some (.lst (cH ((List.range i).map fun j=>Vbdeab.sum (ws.take j))))∧aC H H') ⟨Nat.zero_le _,none,rfl,af,sD⟩ (fun i σ H' _ ⟨_,_,_,_,s⟩=>s.seq hs) ?_ ?_⟩
 ·rintro i v σ H1 hv ⟨hi,w1,rfl,h1,s1⟩
  obtain⟨x,hx,rfl⟩:=m5 hv
  have hi':=(List.getElem?_eq_some_iff.mp hx).1
  refine⟨_,rfl,.inl ⟨rfl,_,aX.of h1⟩,_,rfl,D,_,_,rfl,rfl,h1,(by rw [a9,List.length_map,List.length_range];show i<2 ^ 24;omega),?_⟩
  refine⟨_,rfl,_,rfl,_,_,rfl,rfl,hi',_,(by rw [Ch.c7 hx,Int.natCast_add];rfl),?_,fun b o e=> ?_⟩
  ·rw [af,eX,gz]
  ·rw [ak (aw e hD)]
   exact s1 b o e
 ·rintro σ H1 ⟨hi,w1,rfl,h1,s1⟩
  rw [a9] at h1
  exact⟨_,rfl,k H1 D h1 s1 hD⟩
def Ax (T:Tx K mg):Sp:=fun vs H Q _=>∃(a:Addr) (ws:List Nat),vs= [.ref a]∧aX K H a (cH ws)∧ws.length≤2000∧0<Vbdeab.sum ws∧Vbdeab.sum ws≤10 ^ 40∧∀(H':Hp) (p:Addr),H' p=some (.lst (cH (uh ws)))→aC H H'→H p=none→Q (.ref p) H'
theorem Aj (T:Tx K mg):cM P w base T.tZ 2 (Ax T):=by
 refine T.tZ.okA eC ?_
 rintro _ A _ s H _ Q E hr ⟨a,ws,rfl,hs,hl,hs1,hs2,k⟩
 refine⟨_,(ac (aW 1 eC.nd (aG ad))
   (ac (aW 2 eC.nd (a5 (Bx rfl) (by rfl) T.FU (by rfl) (ab (pv 0) ad)))
   (ac (aW 3 eC.nd am)
   (ac (cZ PassesOwn.never rfl (bW (pv 0)) (i9 4 eC.nd) (ac (lN (i:=3) eC.nd rfl (Or.inl rfl) (pv 4) j8)
   (ae (eU (oS PySem.F.plainAttrs_list PySem.F.slot_list_append PySem.F.type_list_append gI (pv 1) (ab (be T.oF (xE T) hr (ab (aB aH (dI T.cK) (pv 3)) (ab (pv 2) ad))) ad))))))
   (ae (aj (pv 1))))))),?_⟩
 refine⟨Nat.zero_le _,fun D hD=> ?_⟩
 have sD:=aC.laid (o:= .lst []) hD
 refine⟨_,rfl,a,nats ws,rfl,sD.seq hs,?_⟩
 rw [C3]
 refine⟨_,rfl,a,rfl,⟨_,sD.seq hs⟩,c9 (xs:=cH ws) (fun i σ H'=>i≤ws.length∧∃(v:Option V),σ= [some (.ref a),some (.ref D),some (.int (Vbdeab.sum ws:Nat)),some (.int (Vbdeab.sum (ws.take i):Nat)),v]∧H' D=some (.lst (cH ((List.range i).map fun j=>ceilDiv (Vbdeab.M*Vbdeab.sum (ws.take (j+1))) (Vbdeab.sum ws))))∧aC H H') ⟨Nat.zero_le _,none,rfl,af,sD⟩ (fun i σ H' _ ⟨_,_,_,_,s⟩=>s.seq hs) ?_ ?_⟩
 ·rintro i v σ H1 hv ⟨hi,w1,rfl,h1,s1⟩
  obtain⟨x,hx,rfl⟩:=m5 hv
  have hi':=(List.getElem?_eq_some_iff.mp hx).1
  refine⟨_,rfl,_,rfl,_,_,rfl,rfl,?_⟩
  have esum:((Vbdeab.sum (ws.take i):Nat):Int)+(x:Int)=((Vbdeab.sum (ws.take (i+1)):Nat):Int):=by rw [Ch.c7 hx,Int.natCast_add]
  have hle:=xo ws (i+1)
  refine⟨_,rfl,.inl ⟨rfl,_,aX.of h1⟩,_,rfl,_,_,rfl,rfl,bo (show Sz 34 4294967296 by decide) (?_:Sz 133 _),_,rfl,Vbdeab.M*Vbdeab.sum (ws.take (i+1)),Vbdeab.sum ws,?_,hs1,Nat.lt_trans (oO hs2) (by decide+kernel),D,_,_,rfl,rfl,h1,(by rw [a9,List.length_map,List.length_range];show i<2 ^ 24;omega),?_⟩
  ·show Sz 133 (((Vbdeab.sum (ws.take i):Nat):Int)+(x:Int))
   rw [esum]
   exact dh (oO (by omega))
  ·show [V.int (4294967296*(((Vbdeab.sum (ws.take i):Nat):Int)+(x:Int))),V.int (Vbdeab.sum ws:Nat)]++ []=_
   rw [esum,Int.natCast_mul]
   rfl
  ·refine⟨hi',_,(by rw [←esum];rfl),?_,fun b o e=> ?_⟩
   ·rw [af,eX,gz]
   ·rw [ak (aw e hD)]
    exact s1 b o e
 ·rintro σ H1 ⟨hi,w1,rfl,h1,s1⟩
  rw [a9] at h1
  exact⟨_,rfl,k H1 D h1 s1 hD⟩
def n8 (T:Tx K mg):Sp:=fun vs H Q _=>∃(p dx wl sl:Addr) (ws:List Nat),vs= [.ref p,.ref wl,.ref sl]∧H p=some (.ins T.ai.C dx [])∧H wl=some (.lst (cH ws))∧ws.length≤64∧0<Vbdeab.sum ws∧Vbdeab.sum ws≤10 ^ 40∧
 ∀(H':Hp) (bl el:Addr),H' p=some (.ins T.ai.C dx (M4 wl sl (Vbdeab.sum ws) bl el))→H' bl=some (.lst (cH (Hr ws)))→H' el=some (.lst (cH (uh ws)))→H bl=none→H el=none→(∀b o,H b=some o→b≠p→H' b=some o)→Q .non H'
theorem nk (T:Tx K mg):pk mg P w base T.fS 3 (n8 T):=by
 refine T.fS.okA nS ?_
 rintro _ A _ s H _ Q E hr ⟨p,dx,wl,sl,ws,rfl,hp,hw,hl,hs1,hs2,k⟩
 refine⟨_,(ac (bS (pv 0) (pv 1) rfl)
   (ac (bS (pv 0) (pv 2) rfl)
   (ac (bS (pv 0) (a5 (Bx rfl) (by rfl) T.FU (by rfl) (ab (pv 1) ad)) rfl)
   (ac (bS (pv 0) (be T.lX (vF T) hr (ab (pv 1) ad)) rfl)
   (ae (bS (pv 0) (be T.tZ (Aj T) hr (ab (pv 1) ad)) rfl)))))),?_⟩
 have nwp:wl≠p:=bb hw hp (by intro z;cases z)
 refine⟨_,rfl,_,rfl,p,_,dx,_,rfl,hp,T.ai.cl,T.ai.no _ (by decide),(by show 0<1000;decide),?_⟩
 refine⟨_,rfl,_,rfl,p,_,dx,_,rfl,af,T.ai.cl,T.ai.no _ (by decide),(by show 1<1000;decide),?_⟩
 refine⟨_,rfl,wl,nats ws,rfl,aX.of (by rw [ak nwp,ak nwp];exact hw),?_⟩
 rw [C3]
 refine⟨_,rfl,p,_,dx,_,rfl,af,T.ai.cl,T.ai.no _ (by decide),(by show 2<1000;decide),?_⟩
 refine⟨_,rfl,wl,ws,rfl,aX.of (by rw [ak nwp,ak nwp,ak nwp];exact hw),by omega,fun H1 bl hb s1 nb=> ?_⟩
 have hp1:=s1 _ _ (af (a:=p))
 have npb:bl≠p:=bb hb hp1 (by intro z;cases z)
 refine⟨_,rfl,p,_,dx,_,rfl,hp1,T.ai.cl,T.ai.no _ (by decide),(by show 3<1000;decide),?_⟩
 have hw2:∀o,bC H1 p o wl=some (.lst (cH ws)):=fun o=>by rw [ak nwp];exact s1 _ _ (by rw [ak nwp,ak nwp,ak nwp];exact hw)
 refine⟨_,rfl,wl,ws,rfl,aX.of (hw2 _),by omega,hs1,hs2,fun H2 el he s2 ne=> ?_⟩
 have hp2:=s2 _ _ (af (a:=p))
 have npe:el≠p:=bb he hp2 (by intro z;cases z)
 refine⟨_,rfl,p,_,dx,_,rfl,hp2,T.ai.cl,T.ai.no _ (by decide),(by show 4<1000;decide),?_⟩
 have nb':H bl=none:=by rw [ak npb,ak npb,ak npb] at nb;exact nb
 have ne':H el=none:=by
  cases q:H el with
  | none=>rfl
  | some o=>
   rw [ak npe] at ne
   rw [s1 _ _ (by rw [ak npe,ak npe,ak npe];exact q)] at ne
   cases ne
 refine k _ bl el af ?_ ?_ nb' ne' fun b o e hne=> ?_
 ·rw [ak npb]
  exact s2 _ _ (by rw [ak npb];exact hb)
 ·rw [ak npe]
  exact he
 ·rw [ak hne]
  exact s2 _ _ (by rw [ak hne];exact s1 _ _ (by rw [ak hne,ak hne,ak hne];exact e))
theorem HA {a:List Int} {os:List (Option Class)} {d:Dist} (h:Kd.ub a os=some d) (hl:os.length=a.length):∃ws l,weights a=some ws∧os=l.map some∧d=ws.zip l∧d.map (fun c=>c.1)=ws∧a=nats ws∧ws.length=l.length:=by
 unfold Kd.ub at h
 cases hw:weights a with
 | none=>rw [hw] at h;cases h
 | some ws=>
  cases ho:Kd.aZ os with
  | none=>rw [hw,ho] at h;cases h
  | some l=>
   rw [hw,ho] at h
   cases h
   obtain⟨e1,_,nn⟩:=Kd.tT hw
   have l1:=Kd.nE ho
   have e2:ws.length=l.length:=by rw [e1,List.length_map];omega
   refine⟨ws,l,rfl,Kd.sV ho,rfl,Kd.yl e2,?_,e2⟩
   rw [e1]
   unfold nats
   rw [List.map_map]
   conv=>lhs;rw [←List.map_id a]
   refine List.map_congr_left fun x hx=> ?_
   show x=((x.toNat:Nat):Int)
   have:=nn x hx
   omega
def gP (T:Tx K mg) (H:Hp) (vs:List V) (os:List (Option Class)):Prop:=vs.length=os.length∧∀(i:Nat) v o,vs[i]?=some v→os[i]?=some o→Br T H v o
theorem gP.si {T:Tx K mg} {H H':Hp} {vs:List V} {os:List (Option Class)} (h:gP T H vs os) (s:fH H H'):gP T H' vs os:=⟨h.1,fun i v o a b=>(h.2 i v o a b).si s⟩
theorem gP.snoc {T:Tx K mg} {H:Hp} {vs:List V} {os:List (Option Class)} {v:V} {o:Option Class} (h:gP T H vs os) (k:Br T H v o):gP T H (vs++ [v]) (os++ [o]):=by
 refine⟨by rw [List.length_append,List.length_append,h.1];rfl,fun i v' o' a b=> ?_⟩
 rcases Nat.lt_trichotomy i vs.length with q | q | q
 ·rw [List.getElem?_append_left q] at a
  rw [List.getElem?_append_left (by rw [←h.1];exact q)] at b
  exact h.2 i v' o' a b
 ·rw [q,List.getElem?_append_right (Nat.le_refl _),Nat.sub_self] at a
  rw [q,h.1,List.getElem?_append_right (Nat.le_refl _),Nat.sub_self] at b
  cases a
  cases b
  exact k
 ·rw [List.getElem?_eq_none (by rw [List.length_append];exact q)] at a
  cases a
theorem wO:∀{os:List (Option Class)},(∀o∈os,∃c,o=some c)→∃l:List Class,os=l.map some
 | [],_=>⟨[],rfl⟩
 | o::r,h=>by
  obtain⟨c,rfl⟩:=h o List.mem_cons_self
  obtain⟨l,rfl⟩:=wO (os:=r) fun o ho=>h o (List.mem_cons_of_mem _ ho)
  exact⟨c::l,rfl⟩
theorem GQ {T:Tx K mg} {H:Hp} {v:V} {o:Option Class} (h:Br T H v o):decide (v= .non)=o.isNone:=by
 cases o with
 | none=>rw [show v= .non from h];rfl
 | some c=>obtain⟨x,rfl,_⟩:=h;rfl
theorem FG {T:Tx K mg} {H:Hp}:∀{vs:List V} {l:List Class},gP T H vs (l.map some)→∃as:List Addr,vs=as.map V.ref∧as.length=l.length∧(∀(i:Nat) x c,as[i]?=some x→l[i]?=some c→gQ T H x c)∧∀c∈l,rJ c
 | [],[],_=>⟨[],rfl,rfl,fun i x c a _=>(by cases i<;>cases a),fun c hc=>(nomatch hc)⟩
 | v::vs,c::l,h=>by
  obtain⟨as,e,hl,hs,hk⟩:=FG (vs:=vs) (l:=l) ⟨by have:=h.1;simpa using this,fun i v o a b=>h.2 (i+1) v o (by simpa using a) (by simpa using b)⟩
  obtain⟨x,rfl,sh,ok⟩:=h.2 0 v (some c) rfl rfl
  refine⟨x::as,by rw [e];rfl,by rw [List.length_cons,hl];rfl,fun i y c' a b=> ?_,fun c' hc=> ?_⟩
  ·cases i with
   | zero=>cases a;cases b;exact sh
   | succ i=>exact hs i y c' (by simpa using a) (by simpa using b)
  ·rcases List.mem_cons.mp hc with q | q
   ·rw [q];exact ok
   ·exact hk c' q
 | [],_::_,h=>by have:=h.1;simp at this
 | _::_,[],h=>by have:=h.1;simp at this
def jt (T:Tx K mg):Sp:=fun vs H Q _=>∃(av:List Addr) (wl sl:Addr) (a:List Int) (ss:List V) (os:List (Option Class)),vs= [.ref wl,.ref sl]∧H wl=some (.lst (a.map V.int))∧H sl=some (.lst ss)∧gP T H ss os∧os.length=a.length∧a.length≤8000∧wl ∉ av∧sl ∉ av∧(∀b∈av,H b≠none)∧∀(v:V) (H':Hp),gG T av H' v (Kd.ub a os)→aC H H'→Q v H'
theorem ca (T:Tx K mg):cM P w base T.bY 5 (jt T):=by
 refine T.bY.okA fm ?_
 rintro _ A _ s H _ Q E hr ⟨av,wl,sl,a,ss,os,rfl,hw,hs,hsh,hlen,ha,nw,nsl,hav,k⟩
 refine⟨_,(ac (aQ (aS (aP (be T.gf (iQ T) hr (ab (pv 0) ad)))) (ae (aj ck)) aE)
   (ac (aQ (aP (a5 (Kv rfl) (by rfl) T.L7 (by rfl) (ab (iB (own:= [("shape",2)]) rfl fm.nd (bW (pv 1)) (bK (N:= ["weights","shapes","shape"]) (sc:=ag fO) (by decide+kernel)) (fun _ _ _ _ _=>(i9 2 fm.nd)) (fun _ _ _ _ _=>cQ) (fun _ _ _ _ _=>(BS iS (pv 2) ck (aV _)))) ad))) (ae (aj ck)) aE)
   (ae (aj (xq T.fS (nk T) hr (ab (pv 0) (ab (pv 1) ad))))))),?_⟩
 refine⟨_,rfl,wl,a,rfl,aX.of hw,_,rfl,aU (fun h1=> ?_) (fun h1=> ?_)⟩
 ·have e:Kd.ub a os=none:=by
   unfold Kd.ub
   cases e:weights a with
   | none=>rfl
   | some z=>rw [e] at h1;cases h1
  rw [e] at k
  exact k .non H rfl (aC.refl' H)
 ·have hws:(weights a).isSome=true:=by
   cases e:(weights a).isSome with
   | true=>rfl
   | false=>rw [e] at h1;exact absurd rfl h1
  obtain⟨nn,ew,l1,l2,s1,s2⟩:=ij hws
  refine⟨_,rfl,sl,rfl,⟨_,aX.of hs⟩,fun D hD=>gZ (xs:=ss) (fun i H'=>i≤ss.length∧H' D=some (.lst (((os.take i).map Option.isNone).map V.bl))∧aC H H') ⟨Nat.zero_le _,af,aC.laid hD⟩ (fun i H' _ h=>aX.of (h.2.2 _ _ hs)) ?_ ?_⟩
  ·rintro i v H1 hv ⟨hi,hD1,sm1⟩
   have hi':=(List.getElem?_eq_some_iff.mp hv).1
   obtain⟨o,ho⟩:∃o,os[i]?=some o:=⟨_,List.getElem?_eq_getElem (by rw [←hsh.1];exact hi')⟩
   have e:=GQ (hsh.2 i v o hv ho)
   refine⟨rfl,_,rfl,rfl,_,hD1,(by rw [List.length_map,List.length_map,List.length_take];show _<2 ^ 24;omega),hi',?_,fun b u q=> ?_⟩
   ·rw [af,Ch.bj ho,List.map_append,List.map_append,e]
    rfl
   ·rw [ak (aw q hD)]
    exact sm1 b u q
  ·rintro H1 ⟨hi,hD1,sm1⟩
   rw [hsh.1,List.take_length] at hD1
   refine⟨D,_,rfl,aX.of hD1,_,rfl,aU (fun h2=> ?_) (fun h2=> ?_)⟩
   ·have e:Kd.ub a os=none:=by
     unfold Kd.ub
     obtain⟨b,hb,eb⟩:=List.any_eq_true.mp h2
     obtain⟨o,ho,rfl⟩:=List.mem_map.mp hb
     have:o=none:=by cases o with
      | none=>rfl
      | some z=>cases eb
     subst this
     rw [Kd.De ho]
     cases weights a<;>rfl
    rw [e] at k
    exact k .non H1 rfl sm1
   ·obtain⟨l,hl⟩:=wO (os:=os) fun o ho=>by
     cases o with
     | some c=>exact⟨c,rfl⟩
     | none=>exact absurd (List.any_eq_true.mpr ⟨true,List.mem_map.mpr ⟨none,ho,rfl⟩,rfl⟩) h2
    have hl2:l.length=a.length:=by rw [←hlen,hl,List.length_map]
    have ed:Kd.ub a os=some ((a.map Int.toNat).zip l):=by
     unfold Kd.ub
     rw [ew,hl,Kd.lg]
    obtain⟨ws,l',ew',el',ed',em,ea,ewl⟩:=HA ed hlen
    rw [ed] at k
    rw [hl] at hsh
    obtain⟨as,ess,hasl,hassh,hok⟩:=FG hsh
    have hwm:(a.map Int.toNat)=ws:=by rw [ew] at ew';exact Option.some.inj ew'
    rw [hwm] at k s1 s2
    have hfst:(ws.zip l).map (fun c=>c.1)=ws:=Kd.yl (by rw [←hwm,List.length_map];omega)
    have htot:total (ws.zip l)=Vbdeab.sum ws:=by unfold total;rw [hfst]
    have hwl:ws.length=a.length:=by rw [←hwm,List.length_map]
    refine⟨_,rfl,_,rfl,?_⟩
    intro x dx nx nd _
    have hs2:=Bi (C:=T.ai.C) nx nd
    refine⟨x,dx,wl,sl,ws,rfl,af,hs2 _ _ (sm1 _ _ (by rw [hw,ea];rfl)),by omega,by omega,s2,fun H3 bl el hp3 hb3 he3 nb ne kp3=>⟨rfl,?_⟩⟩
    have s13:aC H1 H3:=aC.made nx nd kp3
    have s3:aC H H3:=sm1.trans s13
    refine k (.ref x) H3 ⟨x,rfl,dx,wl,sl,bl,el,as,?_⟩ s3
    have fr:∀p,(bC (bC H1 dx (.own x)) x (.ins T.ai.C dx [])) p=none→H p=none:=fun p hp=>by
     cases q:H p with
     | none=>rfl
     | some o=>rw [hs2 _ _ (sm1 _ _ q)] at hp;cases hp
    refine⟨by rw [htot];exact hp3,?_,s3 _ _ (by rw [hs,ess]),?_,?_,?_,fun i y c h1 h2=> ?_,nw,nsl,de hav (fr _ nb),de hav (fr _ ne),?_⟩
    ·rw [hfst]
     exact s3 _ _ (by rw [hw,ea];rfl)
    ·rw [hfst];exact hb3
    ·rw [hfst];exact he3
    ·rw [hasl,List.length_zip];omega
    ·rw [List.getElem?_zip_eq_some] at h2
     exact(hassh i y c.2 h1 h2.2).same s3
    ·refine⟨by rw [List.length_zip];omega,by rw [List.length_zip];omega,by rw [htot];omega,by rw [htot];exact s2,fun c hc=> ?_⟩
     exact hok c.2 (List.of_mem_zip hc).2
open Vbdeab (Class Dist)
structure Hl (d:Dist) (u i:Nat) (c:Nat×Class):Prop where
 at_:d[i]?=some c
 lt:u*total d<Vbdeab.M*Fr.cD d (i+1)
 ge:∀j,j<i→Vbdeab.M*Fr.cD d (j+1)≤u*total d
theorem ui {d:Dist} {i:Nat} (h:i<d.length):(uh (d.map fun c=>c.1))[i]?=some (ceilDiv (Vbdeab.M*Fr.cD d (i+1)) (total d)):=by
 unfold uh
 rw [List.getElem?_map,List.getElem?_range (by rw [List.length_map];exact h)]
 rfl
theorem Hs {d:Dist} {i:Nat} (h:i<d.length):(Hr (d.map fun c=>c.1))[i]?=some (Fr.cD d i):=by
 unfold Hr
 rw [List.getElem?_map,List.getElem?_range (by rw [List.length_map];exact h)]
 rfl
theorem uj (ws:List Nat):(uh ws).length=ws.length:=by unfold uh;rw [List.length_map,List.length_range]
theorem FR {d:Dist} {i:Nat} {c:Nat×Class} (h:d[i]?=some c):(d.map fun c=>c.1)[i]?=some c.1:=by rw [List.getElem?_map,h];rfl
theorem m6 {l:List Nat} {i n:Nat} {k:Int} (e:k=(i:Int)) (h:l[i]?=some n):He (cH l) k=some (.int (n:Nat)):=rL e (BF h)
theorem iN (d:Dist) (i:Nat):Fr.cD d i≤total d:=by
 have:=xo (d.map fun c=>c.1) i
 exact this
theorem Js (a b:List Nat):cH a++cH b=cH (a++b):=by unfold cH nats;rw [List.map_append,List.map_append]
def jr (T:Tx K mg):Sp:=fun vs H Q _=>∃(av:List Addr) (a:Addr) (d:Dist) (u:Nat),vs= [.ref a,.int u]∧dD T av H a d∧u<4294967296∧∀i c,Hl d u i c→Q (.int (i:Nat)) H
theorem jh (T:Tx K mg):pk mg P w base T.dj 1 (jr T):=by
 refine T.dj.okA bi ?_
 rintro _ A _ s H _ Q E hr ⟨av,a,d,u,rfl,⟨dx,wl,sl,bl,el,as,D⟩,hu,k⟩
 refine⟨_,(ac (aW 2 bi.nd am)
   (ac (aW 3 bi.nd (aB bI (a5 aT (by rfl) T.eV PySem.boot_len (ab (ao (pv 0) rfl) ad)) am))
   (ac (jk PassesOwn.never (aO jj (pv 2) (pv 3) (aV _)) (ac (aW 4 bi.nd (aB bV (aB bG (pv 2) (pv 3)) am))
   (ae (aQ (aO jj (pv 1) (fP (ao (pv 0) rfl) (pv 4)) (aV _)) (ae (aW 3 bi.nd (pv 4))) (ae (aW 2 bi.nd (aB bG (pv 4) am)))))))
   (ae (aj (pv 2)))))),?_⟩
 have hI:=D.inst
 have hlen:(cH (uh (d.map fun c=>c.1))).length=d.length:=by rw [a9,uj,List.length_map]
 have hW:0<total d:=D.ok.tot1
 refine⟨_,rfl,a,_,dx,_,_,rfl,hI,T.ai.cl,T.ai.no _ (by decide),rfl,el,_,rfl,.inl (aX.of D.e),_,_,rfl,rfl,?_⟩
 refine⟨fun m σ H'=>∃(lo hi:Nat) (v:Option V),m=hi - lo∧σ= [some (.ref a),some (.int u),some (.int lo),some (.int hi),v]∧lo≤hi∧hi<d.length∧(∀j,j<lo→Vbdeab.M*Fr.cD d (j+1)≤u*total d)∧u*total d<Vbdeab.M*Fr.cD d (hi+1)∧H'=H,⟨d.length - 1,0,d.length - 1,none,rfl,?_,Nat.zero_le _,by have:=D.ok.len1;omega,fun j hj=>by omega,?_,rfl⟩,?_⟩
 ·have e:((cH (uh (d.map fun c=>c.1))).length:Int) - 1=((d.length - 1:Nat):Int):=by rw [hlen];have:=D.ok.len1;omega
  show [some (V.ref a),some (V.int u),some (V.int 0),some (V.int (((cH (uh (d.map fun c=>c.1))).length:Int) - 1)),none]=_
  rw [e]
  rfl
 ·have e:d.length - 1+1=d.length:=by have:=D.ok.len1;omega
  rw [e,Fr.Jj]
  exact Nat.mul_lt_mul_of_pos_right hu hW
 ·rintro m σ H' ⟨lo,hi,v,rfl,rfl,h1,h2,h3,h4,rfl⟩
  refine⟨_,rfl,_,rfl,_,_,rfl,rfl,_,rfl,aU (fun hl=>⟨_,fun _ _ z=>z,?_⟩) (fun hl=> ?_)⟩
  ·have hl':lo<hi:=by have:=of_decide_eq_true hl;omega
   have em:((lo:Int)+(hi:Int)) /2=(((lo+hi) /2:Nat):Int):=by omega
   refine⟨_,rfl,_,rfl,_,_,rfl,rfl,_,_,rfl,rfl,⟨by decide,by decide+kernel⟩,?_⟩
   refine⟨_,rfl,_,rfl,a,_,dx,_,_,rfl,hI,T.ai.cl,T.ai.no _ (by decide),rfl,_,rfl,el,_,_,_,rfl,rfl,aX.of D.e,m6 em (ui (show(lo+hi) /2<d.length by omega)),_,_,rfl,rfl,_,rfl,aU (fun ht=> ?_) (fun ht=> ?_)⟩
   ·have ht':=of_decide_eq_true ht
    have ht2:=(Fr.Ft (u:=u) (a:=Vbdeab.M*Fr.cD d ((lo+hi) /2+1)) hW).mp (by omega)
    exact⟨_,rfl,(lo+hi) /2 - lo,by omega,lo,(lo+hi) /2,_,rfl,(by rw [←em];rfl),by omega,by omega,h3,ht2,rfl⟩
   ·have ht':¬((u:Int)<((ceilDiv (Vbdeab.M*Fr.cD d ((lo+hi) /2+1)) (total d):Nat):Int)):=fun q=>ht (decide_eq_true q)
    have ht2:=(Fr.jK (u:=u) hW).mp (show ceilDiv (Vbdeab.M*Fr.cD d ((lo+hi) /2+1)) (total d)≤u by omega)
    refine⟨_,rfl,_,_,rfl,rfl,hi - ((lo+hi) /2+1),by omega,(lo+hi) /2+1,hi,_,rfl,(by rw [em];rfl),by omega,h2,fun j hj=> ?_,h4,rfl⟩
    ·exact Nat.le_trans (Nat.mul_le_mul_left _ (Fr.Ee (by omega))) ht2
  ·have hl':¬((lo:Int)<(hi:Int)):=fun q=>hl (decide_eq_true q)
   have e:lo=hi:=by omega
   subst e
   exact⟨_,rfl,k lo _ ⟨List.getElem?_eq_getElem h2,h4,h3⟩⟩
theorem Kr {c:Class} (ok:rJ c) {t sp:Int} (ht:Sz 170 t) (hsp:Sz 170 sp) (h0:0<sp):Sz 500 (Fr.Hb c t sp)∧Sz 500 (Fr.Kq c sp):=by
 obtain⟨b0,bz,oz,rz⟩:=gv ok
 cases c with
 | line x y=>exact⟨(oz.mul hsp (k:=350)).add (rz.mul ht (k:=351)) (k:=500),bz.mul hsp (k:=500)⟩
 | comb x s n=>
  have nz:=ig (eJ ok).2.2.2
  exact⟨oz.add (rz.mul ((ht.mul nz (k:=230)).ediv h0) (k:=411)) (k:=500),bz.mono (by decide)⟩
theorem Ls {T:Tx K mg} {av:List Addr} {H:Hp} {a:Addr} {d:Dist} {dx wl sl bl el:Addr} {as:List Addr} (D:DV T av H a d dx wl sl bl el as) {i:Nat} {c:Nat×Class} (h:d[i]?=some c):∃x,as[i]?=some x∧gQ T H x c.2:=by
 have hi:=(List.getElem?_eq_some_iff.mp h).1
 have e:=List.getElem?_eq_getElem (show i<as.length by rw [D.len];exact hi)
 exact⟨_,e,D.sh i _ c e h⟩
theorem lh {as:List Addr} {i:Nat} {x:Addr} {k:Int} (e:k=(i:Int)) (h:as[i]?=some x):He (as.map V.ref) k=some (.ref x):=rL e (by rw [List.getElem?_map,h];rfl)
def j4 (T:Tx K mg) (H:Hp) (z:Addr) (q:Vbdeab.Q):Prop:=∃n m,dW T H z n m∧Fr.Iz q n m∧Sz 500 n∧Sz 500 m
theorem j4.si {T:Tx K mg} {H H':Hp} {z:Addr} {q:Vbdeab.Q} (h:j4 T H z q) (s:fH H H'):j4 T H' z q:=let ⟨n,m,a,b,c,d⟩:=h;⟨n,m,a.si s,b,c,d⟩
def kH (T:Tx K mg):Sp:=fun vs H Q _=>∃(av:List Addr) (a:Addr) (d:Dist) (i u:Nat) (c:Nat×Class),vs= [.ref a,.int i,.int u]∧dD T av H a d∧u<4294967296∧d[i]?=some c∧0<c.1∧Vbdeab.M*Fr.cD d i≤u*total d∧∀(z:Addr) (H':Hp),j4 T H' z (along c.1 c.2 (u*total d - Vbdeab.M*Fr.cD d i))→aC H H'→Q (.ref z) H'
theorem e8 (T:Tx K mg):pk mg P w base T.cV 4 (kH T):=by
 refine T.cV.okA fh ?_
 rintro _ A _ s H _ Q E hr ⟨av,a,d,i,u,c,rfl,⟨dx,wl,sl,bl,el,as,D⟩,hu,hc,hw0,hge,k⟩
 refine⟨_,(ac (aW 3 fh.nd (aB bI (aB aH (pv 2) (ao (pv 0) rfl)) (aB aH (dI T.cK) (fP (ao (pv 0) rfl) (pv 1)))))
   (ae (aj (sX (wB (fP (ao (pv 0) rfl) (pv 1)) T.wD (BM T) hr (ab (pv 3) (ab (aB aH (dI T.cK) (fP (ao (pv 0) rfl) (pv 1))) ad))) (wB (fP (ao (pv 0) rfl) (pv 1)) T.wC (BL T) hr (ab (pv 3) (ab (aB aH (dI T.cK) (fP (ao (pv 0) rfl) (pv 1))) ad))))))),?_⟩
 have hI:=D.inst
 have hi:=(List.getElem?_eq_some_iff.mp hc).1
 obtain⟨x,hx,hsh⟩:=Ls D hc
 have okc:=D.ok.cls c (List.mem_of_getElem? hc)
 have tz:Sz 133 ((total d:Nat):Int):=dh (oO D.ok.tot2)
 have uz:Sz 33 (u:Int):=dh (Nat.lt_trans hu (by decide))
 have bz:Sz 133 ((Fr.cD d i:Nat):Int):=dh (oO (Nat.le_trans (iN d i) D.ok.tot2))
 have wle:c.1≤total d:=by have h1:=Fr.gU hc;have h2:=iN d (i+1);omega
 have wz:Sz 133 ((c.1:Nat):Int):=dh (oO (Nat.le_trans wle D.ok.tot2))
 have Mz:Sz 34 (4294967296:Int):=by decide
 have M0:(4294967296:Int)=((Vbdeab.M:Nat):Int):=rfl
 have et:(u:Int)*((total d:Nat):Int) - 4294967296*((Fr.cD d i:Nat):Int)=((u*total d - Vbdeab.M*Fr.cD d i:Nat):Int):=by
  rw [Int.natCast_sub hge,Int.natCast_mul,Int.natCast_mul,←M0]
 have tz2:Sz 170 ((u*total d - Vbdeab.M*Fr.cD d i:Nat):Int):=by
  rw [←et]
  exact(uz.mul tz (k:=166)).sub (Mz.mul bz (k:=167)) (k:=170)
 have tz3:Sz 400 ((u:Int)*((total d:Nat):Int) - 4294967296*((Fr.cD d i:Nat):Int)):=by rw [et];exact tz2.mono (by decide)
 have spz:Sz 170 (4294967296*((c.1:Nat):Int)):=Mz.mul wz (k:=170)
 have sp0:0<4294967296*((c.1:Nat):Int):=by omega
 refine⟨_,rfl,_,rfl,a,_,dx,_,_,rfl,hI,T.ai.cl,T.ai.no _ (by decide),rfl,_,_,rfl,rfl,bo uz tz,_,rfl,a,_,dx,_,_,rfl,hI,T.ai.cl,T.ai.no _ (by decide),rfl,_,rfl,bl,_,_,_,rfl,rfl,aX.of D.b,m6 rfl (Hs hi),_,_,rfl,rfl,bo Mz bz,_,_,rfl,rfl,?_⟩
 have fin:∀(z:Addr) (H':Hp),dW T H' z (Fr.Hb c.2 ((u:Int)*((total d:Nat):Int) - 4294967296*((Fr.cD d i:Nat):Int)) (4294967296*((c.1:Nat):Int))) (Fr.Kq c.2 (4294967296*((c.1:Nat):Int)))→aC H H'→Q (.ref z) H':=fun z H' h s=>by
  rw [et] at h
  obtain⟨z1,z2⟩:=Kr okc tz2 spz sp0
  refine k z H' ⟨_,_,h,?_,z1,z2⟩ s
  exact Fr.pF okc.2 hw0 _
 obtain⟨cw,cc⟩:=c
 cases cc with
 | line p q=>
  obtain⟨dz,ax,ay,h1,h2,h3⟩:=id hsh
  exact .inl ⟨_,rfl,a,_,dx,_,_,rfl,hI,T.ai.cl,T.ai.no _ (by decide),rfl,_,rfl,sl,_,_,_,rfl,rfl,aX.of D.s,lh rfl hx,x,dz,_,rfl,h1,rfl,_,rfl,_,rfl,a,_,dx,_,_,rfl,hI,T.ai.cl,T.ai.no _ (by decide),rfl,_,rfl,wl,_,_,_,rfl,rfl,aX.of D.w,m6 rfl (FR hc),_,_,rfl,rfl,bo Mz wz,x,p,q,_,_,rfl,hsh,okc,tz3,spz.mono (by decide),fin⟩
 | comb p q n=>
  obtain⟨dz,ax,ay,h1,h2,h3⟩:=id hsh
  exact .inr ⟨_,rfl,a,_,dx,_,_,rfl,hI,T.ai.cl,T.ai.no _ (by decide),rfl,_,rfl,sl,_,_,_,rfl,rfl,aX.of D.s,lh rfl hx,x,dz,_,rfl,h1,rfl,_,rfl,_,rfl,a,_,dx,_,_,rfl,hI,T.ai.cl,T.ai.no _ (by decide),rfl,_,rfl,wl,_,_,_,rfl,rfl,aX.of D.w,m6 rfl (FR hc),_,_,rfl,rfl,bo Mz wz,x,p,q,n,_,_,rfl,hsh,okc,tz3,spz.mono (by decide),sp0,fin⟩
theorem Hl.pos {d:Dist} {u i:Nat} {c:Nat×Class} (t:Hl d u i c):Vbdeab.M*Fr.cD d i≤u*total d∧0<c.1:=by
 have h1:Vbdeab.M*Fr.cD d i≤u*total d:=by
  cases i with
  | zero=>rw [Fr.pG,Nat.mul_zero];exact Nat.zero_le _
  | succ i=>exact t.ge i (Nat.lt_succ_self _)
 refine⟨h1,?_⟩
 have h2:=t.lt
 rw [Fr.gU t.at_,Nat.mul_add] at h2
 rcases Nat.eq_zero_or_pos c.1 with q | q
 ·rw [q,Nat.mul_zero,Nat.add_zero] at h2
  omega
 ·exact q
def kG (T:Tx K mg):Sp:=fun vs H Q _=>∃(av:List Addr) (a:Addr) (d:Dist) (u:Nat),vs= [.ref a,.int u]∧dD T av H a d∧u<4294967296∧∀(z:Addr) (H':Hp),j4 T H' z (Vbdeab.value d u)→aC H H'→Q (.ref z) H'
theorem eZ (T:Tx K mg):pk mg P w base T.cU 5 (kG T):=by
 refine T.cU.okA ku ?_
 rintro _ A _ s H _ Q E hr ⟨av,a,d,u,rfl,hD,hu,k⟩
 refine⟨_,(ae (aj (wB (pv 0) T.cV (e8 T) hr (ab (wB (pv 0) T.dj (jh T) hr (ab (pv 1) ad)) (ab (pv 1) ad))))),?_⟩
 obtain⟨dx,wl,sl,bl,el,as,D⟩:=id hD
 have hI:=D.inst
 refine⟨_,rfl,a,dx,_,rfl,hI,rfl,_,rfl,a,dx,_,rfl,hI,rfl,_,rfl,av,a,d,u,rfl,hD,hu,fun i c t=> ?_⟩
 obtain⟨p1,p2⟩:=t.pos
 refine⟨_,rfl,av,a,d,i,u,c,rfl,hD,hu,t.at_,p2,p1,?_⟩
 rw [←Fr.IT (w:=c.1) (c:=c.2) t.at_ t.lt t.ge]
 exact k
theorem MZ (d:Dist):checked (some d)=Kd.ub (nats (d.map fun c=>c.1)) (d.map fun c=>Kd.sm (some c.2)):=by
 have e1:(d.map fun c=>Kd.sm (some c.2))=((d.map fun c=>c.2).map some).map Kd.sm:=by rw [List.map_map,List.map_map];rfl
 have e2:(d.map fun c=>c.1).zip (d.map fun c=>c.2)=d:=by
  induction d with
  | nil=>rfl
  | cons a r ih=>rw [List.map_cons,List.map_cons,List.zip_cons_cons,ih (by rw [List.map_map,List.map_map];rfl)]
 unfold Kd.ub
 rw [e1,Kd.vJ,Kd.lg,Kd.ii]
 by_cases hw:weightsOk (d.map fun c=>c.1)=true
 ·have z:=Kd.kY (a:=nats (d.map fun c=>c.1)) (ws:=d.map fun c=>c.1) (l:=d.map fun c=>c.2) (by rw [Kd.ii,if_pos hw]) (by simp)
  rw [e2] at z
  rw [z,if_pos hw]
  show(Kd.Cu _).map _=match some (d.map fun c=>c.1),Kd.Cu (d.map fun c=>c.2) with | some ws,some l=>some (ws.zip l) | _,_=>none
  cases Kd.Cu (d.map fun c=>c.2)<;>rfl
 ·rw [if_neg hw]
  unfold checked Vbdeab.ok
  simp only
  rw [if_neg (by simp [hw])]
theorem Kc {c:Class} (h:rJ c):Kd.sm (some c)=some c:=by
 show(if c.small=true then some c else none)=_
 rw [if_pos h.1]
theorem Fg {T:Tx K mg} {av:List Addr} {H:Hp} {a:Addr} {d:Dist} {dx wl sl bl el:Addr} {as:List Addr} (D:DV T av H a d dx wl sl bl el as):gP T H (as.map V.ref) (d.map fun c=>some c.2):=by
 refine⟨by rw [List.length_map,List.length_map,D.len],fun i v o h1 h2=> ?_⟩
 rw [List.getElem?_map] at h1 h2
 cases e1:as[i]? with
 | none=>rw [e1] at h1;cases h1
 | some x=>
  cases e2:d[i]? with
  | none=>rw [e2] at h2;cases h2
  | some c=>
   rw [e1] at h1
   rw [e2] at h2
   cases h1
   cases h2
   exact⟨x,rfl,D.sh i x c e1 e2,D.ok.cls c (List.mem_of_getElem? e2)⟩
theorem gP.app {T:Tx K mg} {H:Hp} {vs us:List V} {os ps:List (Option Class)} (h:gP T H vs os) (k:gP T H us ps):gP T H (vs++us) (os++ps):=by
 refine⟨by rw [List.length_append,List.length_append,h.1,k.1],fun i v o a b=> ?_⟩
 rcases Nat.lt_or_ge i vs.length with q | q
 ·rw [List.getElem?_append_left q] at a
  rw [List.getElem?_append_left (by rw [←h.1];exact q)] at b
  exact h.2 i v o a b
 ·rw [List.getElem?_append_right q] at a
  rw [List.getElem?_append_right (by rw [←h.1];exact q),←h.1] at b
  exact k.2 _ v o a b
theorem FZ {d e:Dist} (hd:Kh d) (he:Kh e) (v w:Nat):checked (some (Vbdeab.blend d e v w))=Kd.ub (nats ((d.map fun c=>c.1*v*total e)++(e.map fun c=>c.1*w*total d))) ((d.map fun c=>some c.2)++(e.map fun c=>some c.2)):=by
 rw [MZ]
 unfold Vbdeab.blend
 rw [List.map_append,List.map_append,List.map_map,List.map_map,List.map_map,List.map_map]
 congr 1
 ·congr 2
  ·exact List.map_congr_left fun c _=>(Nat.mul_assoc _ _ _).symm
  ·exact List.map_congr_left fun c _=>(Nat.mul_assoc _ _ _).symm
 ·congr 1
  ·exact List.map_congr_left fun c hc=>Kc (hd.cls c hc)
  ·exact List.map_congr_left fun c hc=>Kc (he.cls c hc)
def Cc (T:Tx K mg):Sp:=fun vs H Q _=>∃(av:List Addr) (a b:Addr) (d e:Dist) (v w:Nat),vs= [.ref a,.int v,.ref b,.int w]∧dD T av H a d∧dD T av H b e∧v≤1000000000∧w≤1000000000∧(∀b∈av,H b≠none)∧∀(r:V) (H':Hp),gG T av H' r (checked (some (Vbdeab.blend d e v w)))→aC H H'→Q r H'
theorem BO (T:Tx K mg):cM P w base T.wE 6 (Cc T):=by
 refine T.wE.okA fD ?_
 rintro _ A _ s H _ Q E hr ⟨av,a,b,d,e,v,w',rfl,⟨dx,wl,sl,bl,el,as,D⟩,⟨dy,wl2,sl2,bl2,el2,as2,E⟩,hv,hw,hav,k⟩
 refine⟨_,(ac (pZ (i:=5) (own:= [("weight",4)]) rfl fD.nd rfl rfl (ve rfl rfl rfl rfl) (bW (ao (pv 0) rfl)) (bK (N:= ["one","v","other","w","weight","weights"]) (sc:=ag ll) (by decide+kernel)) (fun _ _ _ _ _=>(i9 4 fD.nd)) (fun _ _ _ _ _=>cQ) (fun _ _ _ _ _=>(aB aH (aB aH (pv 4) (pv 1)) (uE (K':=K) (pv 2) (by rfl) rfl))))
   (ac (aW 5 fD.nd (aB dF (pv 5) (iB (own:= [("weight",4)]) rfl fD.nd (bW (ao (pv 2) rfl)) (bK (N:= ["one","v","other","w","weight","weights"]) (sc:=ag ll) (by decide+kernel)) (fun _ _ _ _ _=>(i9 4 fD.nd)) (fun _ _ _ _ _=>cQ) (fun _ _ _ _ _=>(aB aH (aB aH (pv 4) (pv 3)) (uE (K':=K) (pv 0) (by rfl) rfl))))))
   (ae (aj (be T.bY (ca T) hr (ab (pv 5) (ab (aB dF (ao (pv 0) rfl) (ao (pv 2) rfl)) ad))))))),?_⟩
 rw [FZ D.ok E.ok] at k
 have vz:Sz 31 (v:Int):=dh (Nat.lt_of_le_of_lt hv (by decide))
 have wz:Sz 31 (w':Int):=dh (Nat.lt_of_le_of_lt hw (by decide))
 have tz:Sz 133 ((total d:Nat):Int):=dh (oO D.ok.tot2)
 have tz2:Sz 133 ((total e:Nat):Int):=dh (oO E.ok.tot2)
 have dl:=D.ok.len2
 have el':=E.ok.len2
 refine⟨_,rfl,a,_,dx,_,_,rfl,D.inst,T.ai.cl,T.ai.no _ (by decide),rfl,wl,rfl,⟨_,aX.of D.w⟩,fun L1 hL1=>gZ (xs:=cH (d.map fun c=>c.1)) (fun i H'=>i≤d.length∧H' L1=some (.lst (cH (((d.map fun c=>c.1).take i).map fun n=>n*v*total e)))∧aC H H') ⟨Nat.zero_le _,af,aC.laid hL1⟩ (fun i H' _ h=>aX.of (h.2.2 _ _ D.w)) ?_ ?_⟩
 ·rintro i x H1 hx ⟨hi,hL,sm⟩
  obtain⟨n,hn,rfl⟩:=m5 hx
  have hi':=(List.getElem?_eq_some_iff.mp hn).1
  rw [List.length_map] at hi'
  have nz:Sz 133 (n:Int):=by
   rw [List.getElem?_map] at hn
   obtain⟨c,hc,rfl⟩:=Option.map_eq_some_iff.mp hn
   have h1:=Fr.gU hc
   have h2:=iN d (i+1)
   exact dh (oO (by have:=D.ok.tot2;omega))
  refine⟨rfl,_,rfl,_,rfl,_,_,rfl,rfl,bo nz vz,_,rfl,b,_,dy,_,_,rfl,(sm _ _ E.inst),T.ai.cl,T.ai.no _ (by decide),rfl,_,_,rfl,rfl,bo (nz.mul vz (k:=170)) tz2,_,hL,(by rw [a9,List.length_map,List.length_take];show _<2 ^ 24;omega),hi',?_,fun q o z=> ?_⟩
  ·rw [af,Ch.bj hn,List.map_append]
   show some (HO.lst (cH _++ [V.int ((n:Int)*(v:Int)*((total e:Nat):Int))]))=some (HO.lst (cH (_++ [n*v*total e])))
   rw [←eX,Int.natCast_mul,Int.natCast_mul]
  ·rw [ak (aw z hL1)]
   exact sm q o z
 rintro H1 ⟨hi,hL,sm⟩
 rw [a9,List.length_map] at hL
 rw [show(d.map fun c=>c.1).take d.length=d.map fun c=>c.1 by rw [List.take_of_length_le (by rw [List.length_map];exact Nat.le_refl _)]] at hL
 refine⟨_,rfl,_,rfl,b,_,dy,_,_,rfl,(sm _ _ E.inst),T.ai.cl,T.ai.no _ (by decide),rfl,wl2,rfl,⟨_,aX.of (sm _ _ E.w)⟩,fun L2 hL2=>gZ (xs:=cH (e.map fun c=>c.1)) (fun i H'=>i≤e.length∧H' L2=some (.lst (cH (((e.map fun c=>c.1).take i).map fun n=>n*w'*total d)))∧aC H1 H') ⟨Nat.zero_le _,af,aC.laid hL2⟩ (fun i H' _ h=>aX.of (h.2.2 _ _ (sm _ _ E.w))) ?_ ?_⟩
 ·rintro i x H2 hx ⟨hi2,hLL,sm2⟩
  obtain⟨n,hn,rfl⟩:=m5 hx
  have hi':=(List.getElem?_eq_some_iff.mp hn).1
  rw [List.length_map] at hi'
  have nz:Sz 133 (n:Int):=by
   rw [List.getElem?_map] at hn
   obtain⟨c,hc,rfl⟩:=Option.map_eq_some_iff.mp hn
   have h1:=Fr.gU hc
   have h2:=iN e (i+1)
   exact dh (oO (by have:=E.ok.tot2;omega))
  refine⟨rfl,_,rfl,_,rfl,_,_,rfl,rfl,bo nz wz,_,rfl,a,_,dx,_,_,rfl,(sm2 _ _ (sm _ _ D.inst)),T.ai.cl,T.ai.no _ (by decide),rfl,_,_,rfl,rfl,bo (nz.mul wz (k:=170)) tz,_,hLL,(by rw [a9,List.length_map,List.length_take];show _<2 ^ 24;omega),hi',?_,fun q o z=> ?_⟩
  ·rw [af,Ch.bj hn,List.map_append]
   show some (HO.lst (cH _++ [V.int ((n:Int)*(w':Int)*((total d:Nat):Int))]))=some (HO.lst (cH (_++ [n*w'*total d])))
   rw [←eX,Int.natCast_mul,Int.natCast_mul]
  ·rw [ak (aw z hL2)]
   exact sm2 q o z
 rintro H2 ⟨hi2,hLL,sm2⟩
 rw [a9,List.length_map] at hLL
 rw [show(e.map fun c=>c.1).take e.length=e.map fun c=>c.1 by rw [List.take_of_length_le (by rw [List.length_map];exact Nat.le_refl _)]] at hLL
 refine⟨L1,L2,_,_,rfl,rfl,sm2 _ _ hL,hLL,(by rw [a9,a9,List.length_map,List.length_map,List.length_map,List.length_map];show _≤2 ^ 24;omega),fun L3 hL3=> ?_⟩
 have s3:=aC.laid (o:= .lst (cH ((d.map fun c=>c.1).map fun n=>n*v*total e)++cH ((e.map fun c=>c.1).map fun n=>n*w'*total d))) hL3
 have S3:=(sm.trans sm2).trans s3
 refine⟨_,rfl,_,rfl,a,_,dx,_,_,rfl,(S3 _ _ D.inst),T.ai.cl,T.ai.no _ (by decide),rfl,_,rfl,b,_,dy,_,_,rfl,(S3 _ _ E.inst),T.ai.cl,T.ai.no _ (by decide),rfl,sl,sl2,_,_,rfl,rfl,S3 _ _ D.s,S3 _ _ E.s,(by rw [List.length_map,List.length_map,D.len,E.len];show _≤2 ^ 24;omega),fun L4 hL4=> ?_⟩
 have s4:=aC.laid (o:= .lst (as.map V.ref++as2.map V.ref)) hL4
 have S4:=S3.trans s4
 have fr3:H L3=none:=(sm.trans sm2).free hL3
 have fr4:H L4=none:=S3.free hL4
 refine⟨av,L3,L4,_,_,_,rfl,?_,af,((Fg D).app (Fg E)).si (aC.i S4),?_,?_,de hav fr3,de hav fr4,fun q hq z=> ?_,fun r H5 o5 s5=>k r H5 o5 (S4.trans s5)⟩
 ·rw [s4 _ _ (af (a:=L3))]
  rw [Js,List.map_map,List.map_map]
  rfl
 ·unfold nats
  rw [List.length_append,List.length_map,List.length_map,List.length_map,List.length_append,List.length_map,List.length_map]
 ·unfold nats
  rw [List.length_map,List.length_append,List.length_map,List.length_map]
  omega
 ·cases z2:H q with
  | none=>exact hav q hq z2
  | some o=>rw [S4 _ _ z2] at z;cases z
theorem Ht (d:Dist) (f s:Vbdeab.Q):checked (some (Vbdeab.bend d f s))=Kd.ub (nats (d.map fun c=>c.1)) (d.map fun c=>pH f s c.2):=by
 rw [MZ]
 unfold Vbdeab.bend
 rw [List.map_map,List.map_map]
 rfl
theorem Bs {d:Dist} {f s:Vbdeab.Q} {i:Nat} {c:Nat×Class} (h:d[i]?=some c):(d.map fun c=>pH f s c.2).take (i+1)=(d.map fun c=>pH f s c.2).take i++ [pH f s c.2]:=Ch.bj (by rw [List.getElem?_map,h];rfl)
def GT (T:Tx K mg):Sp:=fun vs H Q _=>∃(av:List Addr) (a b c:Addr) (d:Dist) (f s:Vbdeab.Q),vs= [.ref a,.ref b,.ref c]∧dD T av H a d∧ir T H b f∧ir T H c s∧gH f∧gH s∧(∀b∈av,H b≠none)∧∀(r:V) (H':Hp),gG T av H' r (checked (some (Vbdeab.bend d f s)))→aC H H'→Q r H'
theorem GA (T:Tx K mg):cM P w base T.E5 7 (GT T):=by
 refine T.E5.okA vU ?_
 rintro _ A _ s H _ Q E hr ⟨av,a,b,c,d,f,s,rfl,⟨dx,wl,sl,bl,el,as,D⟩,hf,hs,okf,oks,hav,k⟩
 refine⟨_,(ac (pZ (i:=4) (own:= [("shape",3)]) rfl vU.nd rfl rfl (ve rfl rfl rfl rfl) (bW (ao (pv 0) rfl)) (bK (N:= ["distribution","factor","summand","shape","shapes"]) (sc:=ag ze) (by decide+kernel)) (fun _ _ _ _ _=>(i9 3 vU.nd)) (fun _ _ _ _ _=>cQ) (fun _ _ _ _ _=>(sX (wB (pv 3) T.qN (yS T) hr (ab (pv 1) (ab (pv 2) ad))) (wB (pv 3) T.qL (yQ T) hr (ab (pv 1) (ab (pv 2) ad))))))
   (ae (aj (be T.bY (ca T) hr (ab (ao (pv 0) rfl) (ab (pv 4) ad)))))),?_⟩
 rw [Ht] at k
 have dl:=D.ok.len2
 refine⟨_,rfl,a,_,dx,_,_,rfl,D.inst,T.ai.cl,T.ai.no _ (by decide),rfl,sl,rfl,⟨_,aX.of D.s⟩,fun L hL=>gZ (xs:=as.map V.ref) (fun i H'=>i≤d.length∧∃acc,H' L=some (.lst acc)∧gP T H' acc ((d.map fun c=>pH f s c.2).take i)∧aC H H') ⟨Nat.zero_le _,[],af,⟨rfl,fun i v o h _=>by cases i<;>cases h⟩,aC.laid hL⟩ (fun i H' _ ⟨_,_,_,_,sm⟩=>aX.of (sm _ _ D.s)) ?_ ?_⟩
 ·rintro i v H1 hv ⟨hi,acc,hA,hO,sm⟩
  rw [List.getElem?_map] at hv
  obtain⟨x,hx,rfl⟩:=Option.map_eq_some_iff.mp hv
  have hi':i<d.length:=by rw [←D.len];exact(List.getElem?_eq_some_iff.mp hx).1
  have hc:=List.getElem?_eq_getElem hi'
  generalize d[i]=cc at hc
  have hsh:=(D.sh i x cc hx hc).same sm
  have okc:=D.ok.cls cc (List.mem_of_getElem? hc)
  have fin:∀(r:V) (H4:Hp),Br T H4 r (pH f s cc.2)→aC H1 H4→∃acc,H4 L=some (.lst acc)∧acc.length<sizeLine∧(i+1≤d.length∧∃acc',(bC H4 L (.lst (acc++ [r]))) L=some (.lst acc')∧gP T (bC H4 L (.lst (acc++ [r]))) acc' ((d.map fun c=>pH f s c.2).take (i+1))∧aC H (bC H4 L (.lst (acc++ [r])))):=fun r H4 ho s4=>by
   have hA4:=s4 _ _ hA
   refine⟨acc,hA4,?_,hi',_,af,?_,fun q o z=> ?_⟩
   ·rw [hO.1,List.length_take,List.length_map]
    show _<2 ^ 24
    omega
   ·rw [Bs hc]
    exact((hO.si (aC.i s4)).snoc ho).si (fH.lst hA4)
   ·rw [ak (aw z hL)]
    exact s4 _ _ (sm _ _ z)
  obtain⟨cw,cc⟩:=cc
  cases cc with
  | line p q=>
   obtain⟨dz,ax,ay,h1,h2,h3⟩:=id hsh
   exact⟨rfl,.inl ⟨_,rfl,x,dz,_,rfl,h1,rfl,_,rfl,_,rfl,x,b,c,p,q,f,s,rfl,hsh,okc,hf.same sm,hs.same sm,okf,oks,fin⟩⟩
  | comb p q n=>
   obtain⟨dz,ax,ay,h1,h2,h3⟩:=id hsh
   exact⟨rfl,.inr ⟨_,rfl,x,dz,_,rfl,h1,rfl,_,rfl,_,rfl,x,b,c,p,q,f,s,n,rfl,hsh,okc,hf.same sm,hs.same sm,okf,oks,fin⟩⟩
 ·rintro H1 ⟨hi,acc,hA,hO,sm⟩
  rw [List.length_map,D.len,List.take_of_length_le (by rw [List.length_map];exact Nat.le_refl _)] at hO
  refine⟨_,rfl,a,_,dx,_,_,rfl,(sm _ _ D.inst),T.ai.cl,T.ai.no _ (by decide),rfl,_,rfl,av,wl,L,_,_,_,rfl,sm _ _ D.w,hA,hO,?_,?_,D.nw,de hav hL,fun q hq z=> ?_,fun r H5 o5 s5=>k r H5 o5 (sm.trans s5)⟩
  ·unfold nats
   rw [List.length_map,List.length_map,List.length_map]
  ·unfold nats
   rw [List.length_map,List.length_map]
   omega
  ·cases z2:H q with
   | none=>exact hav q hq z2
   | some o=>rw [sm _ _ z2] at z;cases z
open Vbdeab (Class Dist)
theorem vZ {T:Tx K mg} {H:Hp} {x:Addr} {c:Class} (h:gQ T H x c):∃C dx fs,H x=some (.ins C dx fs)∧D8 K C∧iM K C "bottom"∧iM K C "x"∧fs.lookup ("bottom":Str)=some (V.int (Fr.cB c))∧∃ax,fs.lookup ("x":Str)=some (V.ref ax)∧ir T H ax (Fr.oP c):=by
 cases c with
 | line p q=>obtain⟨dx,ax,ay,h1,h2,h3⟩:=h;exact⟨_,dx,_,h1,T.aM.cl,T.aM.no _ (by decide),T.aM.no _ (by decide),rfl,ax,rfl,h2⟩
 | comb p q n=>obtain⟨dx,ax,ay,h1,h2,h3⟩:=h;exact⟨_,dx,_,h1,T.aF.cl,T.aF.no _ (by decide),T.aF.no _ (by decide),rfl,ax,rfl,h2⟩
def cY (R:Hp→Addr→Class→Prop) (H:Hp) (ts:List Addr) (l:Dist):Prop:=ts.length=l.length∧∀(j:Nat) t c,ts[j]?=some t→l[j]?=some c→∃x,H t=some (.tup [.int (c.1:Nat),.ref x])∧R H x c.2
def Si (R:Hp→Addr→Class→Prop):Prop:=∀H H' x c,fH H H'→R H x c→R H' x c
theorem DE (T:Tx K mg):Si (fun H x c=>gQ T H x c):=fun H H' x c s h=>h.si s
theorem cY.same {R:Hp→Addr→Class→Prop} (hR:Si R) {H H':Hp} {ts:List Addr} {l:Dist} (h:cY R H ts l) (s:aC H H'):cY R H' ts l:=⟨h.1,fun j t c a b=>let ⟨x,e,r⟩:=h.2 j t c a b;⟨x,s _ _ e,hR _ _ _ _ (aC.i s) r⟩⟩
theorem cY.lst {R:Hp→Addr→Class→Prop} (hR:Si R) {H:Hp} {D:Addr} {xs:List V} {o:HO} {ts:List Addr} {l:Dist} (h:cY R H ts l) (hD:H D=some (.lst xs)):cY R (bC H D o) ts l:=⟨h.1,fun j t c a b=>let ⟨x,e,r⟩:=h.2 j t c a b;⟨x,by rw [ak (bb e hD (by intro z;cases z))];exact e,hR _ _ _ _ (fH.lst hD) r⟩⟩
theorem cY.nil (R:Hp→Addr→Class→Prop) (H:Hp):cY R H [] []:=⟨rfl,fun j t c a _=>by cases j<;>cases a⟩
theorem cY.snoc {R:Hp→Addr→Class→Prop} {H:Hp} {ts:List Addr} {l:Dist} {t:Addr} {c:Nat×Class} {x:Addr} (h:cY R H ts l) (e:H t=some (.tup [.int (c.1:Nat),.ref x])) (r:R H x c.2):cY R H (ts++ [t]) (l++ [c]):=by
 refine⟨by rw [List.length_append,List.length_append,h.1];rfl,fun j t' c' a b=> ?_⟩
 rcases Nat.lt_trichotomy j ts.length with q | q | q
 ·rw [List.getElem?_append_left q] at a
  rw [List.getElem?_append_left (by rw [←h.1];exact q)] at b
  exact h.2 j t' c' a b
 ·rw [q,List.getElem?_append_right (Nat.le_refl _),Nat.sub_self] at a
  rw [q,h.1,List.getElem?_append_right (Nat.le_refl _),Nat.sub_self] at b
  cases a
  cases b
  exact⟨x,e,r⟩
 ·rw [List.getElem?_eq_none (by rw [List.length_append];exact q)] at a
  cases a
theorem fg {ts:List Addr} {i:Nat} {v:V} (h:(ts.map V.ref)[i]?=some v):∃t,ts[i]?=some t∧v= .ref t:=by
 rw [List.getElem?_map] at h
 obtain⟨t,a,b⟩:=Option.map_eq_some_iff.mp h
 exact⟨t,a,b.symm⟩
theorem zU {d:Dist} {i:Nat} {c:Nat×Class} (h:d[i]?=some c):taken (d.take (i+1))=taken (d.take i)++if 0<c.1 then [c] else []:=by
 unfold taken
 rw [Ch.bj h,List.filter_append]
 congr 1
 by_cases q:0<c.1
 ·rw [if_pos q,List.filter_cons,if_pos (decide_eq_true q)]
  rfl
 ·rw [if_neg q,List.filter_cons,if_neg (by simp;omega)]
  rfl
theorem iY {d:Dist} {c:Nat×Class} (h:c∈taken d):c∈d∧0<c.1:=by
 unfold taken at h
 obtain⟨a,b⟩:=List.mem_filter.mp h
 exact⟨a,of_decide_eq_true b⟩
theorem rb (d:Dist):(taken d).length≤d.length:=List.length_filter_le _ _
theorem uX (ts:List Addr) (t:Addr):ts.map V.ref++ [V.ref t]=(ts++ [t]).map V.ref:=by rw [List.map_append];rfl
def zR (T:Tx K mg):Sp:=fun vs H Q _=>∃(av:List Addr) (a:Addr) (d:Dist),vs= [.ref a]∧dD T av H a d∧∀(H':Hp) (p:Addr),H' p=some (.lst (cH (Vbdeab.shares d)))→aC H H'→H p=none→Q (.ref p) H'
theorem yX (T:Tx K mg):cM P w base T.qQ 1 (zR T):=by
 refine T.qQ.okA fo ?_
 rintro _ A _ s H _ Q E hr ⟨av,a,d,rfl,⟨dx,wl,sl,bl,el,as,D⟩,k⟩
 refine⟨_,(ac (aW 1 fo.nd (aG ad))
   (ac (aW 2 fo.nd am)
   (ac (cZ PassesOwn.never rfl (bW (ao (pv 0) rfl)) (i9 3 fo.nd) (ac (eU (oS PySem.F.plainAttrs_list PySem.F.slot_list_append PySem.F.type_list_append gI (pv 1) (ab (aB bI (pv 3) (pv 2)) ad)))
   (ae (aW 2 fo.nd (pv 3)))))
   (ae (aj (pv 1)))))),?_⟩
 have hW:0<total d:=D.ok.tot1
 have hlen:(cH (uh (d.map fun c=>c.1))).length=d.length:=by rw [a9,uj,List.length_map]
 have dl:=D.ok.len2
 refine⟨Nat.zero_le _,fun L hL=> ?_⟩
 have sL:=aC.laid (o:= .lst []) hL
 refine⟨_,rfl,a,_,dx,_,_,rfl,(sL _ _ D.inst),T.ai.cl,T.ai.no _ (by decide),rfl,el,rfl,⟨_,aX.of (sL _ _ D.e)⟩,c9 (xs:=cH (uh (d.map fun c=>c.1))) (fun i σ H'=>i≤d.length∧∃(v:Option V) (acc:List Nat),σ= [some (.ref a),some (.ref L),some (.int ((ceilDiv (Vbdeab.M*Fr.cD d i) (total d):Nat):Int)),v]∧acc.length=i∧Vbdeab.shares d=acc++Fr.n0 d i∧H' L=some (.lst (cH acc))∧aC H H') ⟨Nat.zero_le _,none,[],?_,rfl,Fr.B6 d,af,sL⟩ (fun i σ H' _ ⟨_,_,_,_,_,_,_,s⟩=>aX.of (s _ _ D.e)) ?_ ?_⟩
 ·rw [Fr.pG,Nat.mul_zero,Fr.AM _ hW]
  rfl
 ·rintro i v σ H1 hv ⟨hi,w1,acc,rfl,hacc,hsh,hL1,sm⟩
  obtain⟨n,hn,rfl⟩:=m5 hv
  have hi':i<d.length:=by have:=(List.getElem?_eq_some_iff.mp hn).1;rw [uj,List.length_map] at this;exact this
  rw [ui hi'] at hn
  cases hn
  have hc:=List.getElem?_eq_getElem hi'
  have hm:=Fr.vp (W:=total d) hW (Nat.mul_le_mul_left Vbdeab.M (Fr.Ee (d:=d) (Nat.le_succ i)))
  refine⟨_,rfl,.inl ⟨rfl,_,aX.of hL1⟩,_,rfl,_,rfl,_,_,rfl,rfl,L,_,_,rfl,rfl,hL1,(by rw [a9,hacc];show i<2 ^ 24;omega),?_⟩
  refine⟨_,rfl,hi',_,acc++ [ceilDiv (Vbdeab.M*Fr.cD d (i+1)) (total d) - ceilDiv (Vbdeab.M*Fr.cD d i) (total d)],rfl,by rw [List.length_append,hacc];rfl,?_,?_,fun b o e=> ?_⟩
  ·rw [hsh,Fr.DC hc,List.append_assoc]
   rfl
  ·rw [af,←eX,Int.natCast_sub hm]
  ·rw [ak (aw e hL)]
   exact sm b o e
 ·rintro σ H1 ⟨hi,w1,acc,rfl,hacc,hsh,hL1,sm⟩
  rw [hlen,Fr.EI,List.append_nil] at hsh
  rw [←hsh] at hL1
  exact⟨_,rfl,k H1 L hL1 sm hL⟩
def tO (T:Tx K mg):Sp:=fun vs H Q _=>∃(av:List Addr) (a:Addr) (d:Dist),vs= [.ref a]∧dD T av H a d∧∀(H':Hp) (p:Addr) (ts:List Addr),H' p=some (.lst (ts.map V.ref))→cY (fun H x c=>gQ T H x c) H' ts (taken d)→aC H H'→Q (.ref p) H'
theorem gu (T:Tx K mg):cM P w base T.d9 1 (tO T):=by
 refine T.d9.okA dY ?_
 rintro _ A _ s H _ Q E hr ⟨av,a,d,rfl,⟨dx,wl,sl,bl,el,as,D⟩,k⟩
 refine⟨_,(ae (aj (iB (own:= [("weight",1),("shape",2)]) rfl dY.nd (KW rfl T.L9 (ab (ao (pv 0) rfl) (ab (ao (pv 0) rfl) ad))) (bK (N:= ["distribution","weight","shape"]) (sc:=ag hX) (by decide+kernel)) (fun _ _ _ _ _=>(yh (K':=K) (n:=2) rfl (dC (i9 1 dY.nd) (dC (i9 2 dY.nd) nH)) rfl rfl rfl)) (fun _ _ _ _ _=>(BW (aO rP (pv 1) am (aV _)))) (fun _ _ _ _ _=>(Iw (ab (pv 1) (ab (pv 2) ad))))))),?_⟩
 have dl:=D.ok.len2
 refine⟨_,rfl,a,_,dx,_,_,rfl,D.inst,T.ai.cl,T.ai.no _ (by decide),rfl,_,rfl,a,_,dx,_,_,rfl,D.inst,T.ai.cl,T.ai.no _ (by decide),rfl,wl,sl,_,_,rfl,aX.of D.w,aX.of D.s,fun L hL=>KL (xs:=cH (d.map fun c=>c.1)) (ys:=as.map V.ref) (fun i H'=>i≤d.length∧∃ts,H' L=some (.lst (ts.map V.ref))∧cY (fun H x c=>gQ T H x c) H' ts (taken (d.take i))∧aC H H') ⟨Nat.zero_le _,[],af,cY.nil _ _,aC.laid hL⟩ (by rw [a9,List.length_map,List.length_map,D.len]) (fun i H' _ ⟨_,_,_,_,s⟩=>⟨aX.of (s _ _ D.w),aX.of (s _ _ D.s)⟩) ?_ ?_⟩
 ·rintro i x y H1 t hx hy ⟨hi,ts,hL1,pa,sm⟩ ht
  obtain⟨n,hn,rfl⟩:=m5 hx
  obtain⟨z,hz,rfl⟩:=fg hy
  rw [List.getElem?_map] at hn
  obtain⟨c,hc,rfl⟩:=Option.map_eq_some_iff.mp hn
  have hi':=(List.getElem?_eq_some_iff.mp hc).1
  have st:=aC.laid (o:= .tup [.int (c.1:Nat),.ref z]) ht
  have ntl:L≠t:=aw hL1 ht
  refine⟨t,_,rfl,Ea.of af,rfl,_,_,rfl,_,_,rfl,rfl,rfl,_,rfl,_,_,rfl,rfl,_,rfl,aU (fun h1=> ?_) (fun h1=> ?_)⟩
  ·have h1':0<c.1:=by have:=of_decide_eq_true h1;omega
   refine⟨_,rfl,_,rfl,(by show 2≤sizeLine;decide),fun q hq=> ?_⟩
   have sq:=aC.laid (o:= .tup [.int (c.1:Nat),.ref z]) hq
   have hL2:=sq _ _ (st _ _ hL1)
   have S2:=(sm.trans st).trans sq
   refine⟨_,hL2,?_,hi',ts++ [q],?_,?_,fun b o e=> ?_⟩
   ·rw [List.length_map,pa.1]
    have:=rb (d.take i)
    rw [List.length_take] at this
    show _<2 ^ 24
    omega
   ·rw [af,uX]
   ·rw [zU hc,if_pos h1']
    refine cY.lst (DE T) (((pa.same (DE T) st).same (DE T) sq).snoc (x:=z) af ((D.sh i z c hz hc).same S2)) hL2
   ·rw [ak (aw e hL)]
    exact S2 b o e
  ·have h1':¬0<c.1:=fun q=>h1 (decide_eq_true (by omega))
   refine⟨hi',ts,st _ _ hL1,?_,sm.trans st⟩
   rw [zU hc,if_neg h1',List.append_nil]
   exact pa.same (DE T) st
 ·rintro H1 ⟨hi,ts,hL1,pa,sm⟩
  rw [a9,List.length_map,List.take_length] at pa
  exact k H1 L ts hL1 pa sm
open Vbdeab (Class Dist)
theorem C6 (num den:Class→Int) (b:Int):∀(l r:Dist),Fr.fM num den b (l++r)=Fr.fM num den b l+Fr.fM num den b r
 | [],r=>by rw [List.nil_append];show _=0+_;rw [Int.zero_add]
 | c::l,r=>by rw [List.cons_append,Fr.jR,Fr.jR,C6 num den b l r,Int.add_assoc]
theorem iP (num den:Class→Int) (b:Int):∀d:Dist,Fr.fM num den b (taken d)=Fr.fM num den b d
 | []=>rfl
 | c::r=>by
  have ih:=iP num den b r
  unfold taken at ih⊢
  rw [List.filter_cons]
  by_cases q:0<c.1
  ·rw [if_pos (decide_eq_true q),Fr.jR,Fr.jR,ih]
  ·rw [if_neg (by simp;omega),Fr.jR,ih,if_neg q,Int.zero_add]
theorem vA {num den:Class→Int} {b:Int} {l:Dist} {i:Nat} {c:Nat×Class} (h:l[i]?=some c) (hc:0<c.1):Fr.fM num den b (l.take (i+1))=Fr.fM num den b (l.take i)+(c.1:Int)*num c.2*(b /den c.2):=by
 rw [Ch.bj h,C6]
 show _+((if 0<c.1 then _ else 0)+0)=_
 rw [if_pos hc,Int.add_zero]
theorem Eh {c:Class} (ok:rJ c):Sz 300 (Fr.Ct c):=by
 obtain⟨b0,bz,oz,rz⟩:=gv ok
 cases c with
 | line x y=>exact((show Sz 2 2 by decide).mul oz (k:=182)).add rz (k:=300)
 | comb x s n=>
  have nz:=ig (eJ ok).2.2.2
  have n1:=(eJ ok).2.2.1
  exact((show Sz 2 2 by decide).mul oz (k:=182)).add (rz.mul (nz.le (by omega)) (k:=241)) (k:=300)
theorem B7 {c:Class} (ok:rJ c):Sz 600 (Fr.qu c):=by
 obtain⟨b0,bz,oz,rz⟩:=gv ok
 have o6:=(show Sz 3 6 by decide).mul oz (k:=183)
 cases c with
 | line x y=>exact(o6.mul (oz.add rz (k:=182)) (k:=365)).add (((show Sz 2 2 by decide).mul rz (k:=183)).mul rz (k:=364)) (k:=600)
 | comb x s n=>
  have nz:=ig (eJ ok).2.2.2
  have n1:=(eJ ok).2.2.1
  have nz1:Sz 60 ((n:Int) - 1):=nz.le (by omega)
  have wz:=rz.mul nz1 (k:=241)
  exact(o6.mul (oz.add wz (k:=242)) (k:=425)).add ((rz.mul wz (k:=422)).mul (((show Sz 2 2 by decide).mul nz (k:=62)).sub (show Sz 1 1 by decide) (k:=63)) (k:=485)) (k:=600)
theorem DY {d:Dist} (ok:Kh d) {c:Nat×Class} (h:c∈d):Sz 133 ((c.1:Nat):Int):=by
 obtain⟨i,hi,e⟩:=List.getElem_of_mem h
 have hc:d[i]?=some c:=by rw [List.getElem?_eq_getElem hi,e]
 have h1:=Fr.gU hc
 have h2:=iN d (i+1)
 exact dh (oO (by have:=ok.tot2;omega))
def oi (T:Tx K mg):Sp:=fun vs H Q _=>∃(av:List Addr) (a:Addr) (d:Dist),vs= [.ref a]∧dD T av H a d∧∀(H':Hp) (p x y:Addr),H' p=some (.lst [.ref x,.ref y])→ir T H' x (Vbdeab.mean d)→ir T H' y (variance d)→aC H H'→Q (.ref p) H'
theorem nA (T:Tx K mg):cM P w base T.fX 4 (oi T):=by
 refine T.fX.okA aJ ?_
 rintro _ A _ s H _ Q E hr ⟨av,a,d,rfl,hD,k⟩
 refine⟨_,(ac (aW 1 aJ.nd (be T.d9 (gu T) hr (ab (pv 0) ad)))
   (ac (aW 4 aJ.nd (be T.io (ld T) hr (ab (iB (own:= [("weight",2),("shape",3)]) rfl aJ.nd (bW (pv 1)) (bK (N:= ["distribution","classes","weight","shape","parts","bottom","squared","means","squares","total","mean","variance"]) (sc:=ag eK) (by decide+kernel)) (fun _ _ _ _ _=>(yh (K':=K) (n:=2) rfl (dC (i9 2 aJ.nd) (dC (i9 3 aJ.nd) nH)) rfl rfl rfl)) (fun _ _ _ _ _=>cQ) (fun _ _ _ _ _=>(uE (K':=K) (pv 3) (by rfl) rfl))) ad)))
   (ac (aW 5 aJ.nd (be T.rm (uB T) hr (ab (pv 4) ad)))
   (ac (aW 6 aJ.nd (aB aH (pv 5) (pv 5)))
   (ac (aW 7 aJ.nd am)
   (ac (aW 8 aJ.nd am)
   (ac (cZ PassesOwn.never rfl (bW (pv 1)) (BU rfl (dC (i9 2 aJ.nd) (dC (i9 3 aJ.nd) nH))) (ac (lN (i:=7) aJ.nd rfl (Or.inl rfl) (aB aH (aB aH (pv 2) (sX (dm (pv 3) T.fT (nl T) hr) (dm (pv 3) T.fQ (ni T) hr))) (aB bV (pv 5) (ao (pv 3) rfl))) j8)
   (ae (lN (i:=8) aJ.nd rfl (Or.inl rfl) (aB aH (aB aH (pv 2) (sX (dm (pv 3) T.eO (lL T) hr) (dm (pv 3) T.eM (lK T) hr))) (aB bV (pv 6) (aB aH (ao (pv 3) rfl) (ao (pv 3) rfl)))) j8))))
   (ac (aW 9 aJ.nd (ao (pv 0) rfl))
   (ac (aW 10 aJ.nd (be T.gg (iR T) hr (ab (pv 7) (ab (aB dF (aG (ab am (ab (pv 9) ad))) (pv 4)) ad))))
   (ac (aW 11 aJ.nd (be T.gg (iR T) hr (ab (aB bI (aB aH (aB aH am (pv 9)) (pv 8)) (aB aH (aB aH am (pv 7)) (pv 7))) (ab (aB dF (aB dF (aG (ab am (ab (pv 9) (ab (pv 9) ad)))) (pv 4)) (pv 4)) ad))))
   (ae (aj (aG (ab (pv 10) (ab (pv 11) ad))))))))))))))),?_⟩
 obtain⟨dx,wl,sl,bl,el,as,D⟩:=id hD
 have dl:=D.ok.len2
 have hW:0<total d:=D.ok.tot1
 have tz:Sz 133 ((total d:Nat):Int):=dh (oO D.ok.tot2)
 refine⟨_,rfl,av,a,d,rfl,hD,fun H1 L ts hL pa s1=> ?_⟩
 have tl:=rb d
 have okt:∀c∈taken d,rJ c.2:=fun c hc=>D.ok.cls c (iY hc).1
 refine⟨_,rfl,L,rfl,⟨_,aX.of hL⟩,fun B hB=>gZ (xs:=ts.map V.ref) (fun i H'=>i≤ts.length∧H' B=some (.lst ((((taken d).take i).map fun c=>Fr.cB c.2).map V.int))∧aC H1 H') ⟨Nat.zero_le _,af,aC.laid hB⟩ (fun i H' _ h=>aX.of (h.2.2 _ _ hL)) ?_ ?_⟩
 ·rintro i v H2 hv ⟨hi,hB2,s2⟩
  obtain⟨t,ht,rfl⟩:=fg hv
  have hi':=(List.getElem?_eq_some_iff.mp ht).1
  obtain⟨c,hc⟩:∃c,(taken d)[i]?=some c:=⟨_,List.getElem?_eq_getElem (by rw [←pa.1];exact hi')⟩
  obtain⟨x,et,hsh⟩:=pa.2 i t _ ht hc
  obtain⟨C,dc,fs,f1,f2,f3,f4,f5,_⟩:=vZ (hsh.same s2)
  refine⟨t,_,rfl,Ea.of (s2 _ _ et),rfl,_,_,rfl,_,_,rfl,rfl,rfl,_,rfl,x,C,dc,fs,_,rfl,f1,f2,f3,f5,_,hB2,(by rw [List.length_map,List.length_map,List.length_take];show _<2 ^ 24;omega),hi',?_,fun b o e=> ?_⟩
  ·rw [af,Ch.bj hc,List.map_append,uo]
   rfl
  ·rw [ak (aw e hB)]
   exact s2 b o e
 rintro H2 ⟨hi,hB2,s2⟩
 rw [List.length_map,pa.1,List.take_length] at hB2
 refine⟨B,_,rfl,aX.of hB2,by rw [List.length_map];omega,fun z hz=> ?_,fun H3 pl ps hp3 PP s3 _=> ?_⟩
 ·obtain⟨c,hc,rfl⟩:=List.mem_map.mp hz
  obtain⟨b0,bz,_⟩:=gv (okt c hc)
  exact⟨b0,bz.mono (by decide)⟩
 have S3:=s2.trans s3
 have pl1:ps.length≤64:=by rw [PP.len,List.length_map];omega
 have bz0:=pY PP.sz ps.length
 rw [jS] at bz0
 have bz:Sz 16100 (dO ps):=bz0.mono (by omega)
 have b0:=PP.pp
 refine⟨_,rfl,pl,ps,rfl,aX.of hp3,by omega,fun z hz=>(PP.sz z hz).mono (by decide),?_⟩
 generalize hbt:dO ps=bt at*
 refine⟨_,rfl,_,rfl,_,_,rfl,rfl,bo bz bz,?_⟩
 have b2z:Sz 32200 (bt*bt):=bz.mul bz (k:=32200)
 have pa3:=pa.same (DE T) S3
 have hL3:=S3 _ _ hL
 have dvd:∀c∈taken d,Fr.cB c.2∣bt:=fun c hc=>by rw [←hbt];exact PP.dvd _ (List.mem_map.mpr ⟨c,hc,rfl⟩)
 refine⟨_,rfl,L,rfl,⟨_,aX.of hL3⟩,c9 (xs:=ts.map V.ref) (fun i σ H'=>H'=H3∧i≤ts.length∧∃v1 v2 v3 v4 v5:Option V,σ= [some (.ref a),some (.ref L),v1,v2,some (.ref pl),some (.int bt),some (.int (bt*bt)),some (.int (Fr.fM Fr.Ct Fr.cB bt ((taken d).take i))),some (.int (Fr.fM Fr.qu Fr.Hu (bt*bt) ((taken d).take i))),v3,v4,v5]∧Sz (40000+i) (Fr.fM Fr.Ct Fr.cB bt ((taken d).take i))∧Sz (40000+i) (Fr.fM Fr.qu Fr.Hu (bt*bt) ((taken d).take i))) ⟨rfl,Nat.zero_le _,none,none,none,none,none,rfl,Nat.two_pow_pos _,Nat.two_pow_pos _⟩ (fun i σ H' _ h=>by rw [h.1];exact aX.of hL3) ?_ ?_⟩
 ·rintro i v σ H4 hv ⟨rfl,hi,v1,v2,v3,v4,v5,rfl,mz,sz⟩
  obtain⟨t,ht,rfl⟩:=fg hv
  have hi':=(List.getElem?_eq_some_iff.mp ht).1
  obtain⟨c,hc⟩:∃c,(taken d)[i]?=some c:=⟨_,List.getElem?_eq_getElem (by rw [←pa.1];exact hi')⟩
  obtain⟨x,et,hsh⟩:=pa3.2 i t _ ht hc
  have hcm:=List.mem_of_getElem? hc
  have okc:=okt c hcm
  have cpos:=(iY hcm).2
  have wz:=DY D.ok (iY hcm).1
  obtain⟨cb0,cbz,_⟩:=gv okc
  obtain⟨C,dc,fs,f1,f2,f3,f4,f5,_⟩:=vZ hsh
  have q1:=bz.ediv (y:=Fr.cB c.2) cb0
  have cb20:=Int.mul_pos cb0 cb0
  have cb2z:=cbz.mul cbz (k:=240)
  have q2:=b2z.ediv (y:=Fr.cB c.2*Fr.cB c.2) cb20
  have m1:=wz.mul (Eh okc) (k:=433)
  have m2:=wz.mul (B7 okc) (k:=733)
  have n1:=vA (num:=Fr.Ct) (den:=Fr.cB) (b:=bt) hc cpos
  have n2:=vA (num:=Fr.qu) (den:=Fr.Hu) (b:=bt*bt) hc cpos
  have end1:Sz (40000+(i+1)) (Fr.fM Fr.Ct Fr.cB bt ((taken d).take (i+1))):=by
   rw [n1]
   exact mz.add (m1.mul q1 (k:=39000)) (by omega) (by omega)
  have end2:Sz (40000+(i+1)) (Fr.fM Fr.qu Fr.Hu (bt*bt) ((taken d).take (i+1))):=by
   rw [n2]
   exact sz.add (m2.mul q2 (k:=39000)) (by omega) (by omega)
  have fin:∀v1 v2 v3 v4 v5:Option V,∃u1 u2 u3 u4 u5:Option V,[some (.ref a),some (.ref L),v1,v2,some (.ref pl),some (.int bt),some (.int (bt*bt)),some (.int (Fr.fM Fr.Ct Fr.cB bt ((taken d).take i)+(c.1:Int)*Fr.Ct c.2*(bt /Fr.cB c.2))),some (.int (Fr.fM Fr.qu Fr.Hu (bt*bt) ((taken d).take i)+(c.1:Int)*Fr.qu c.2*(bt*bt /(Fr.cB c.2*Fr.cB c.2)))),v3,v4,v5]= [some (.ref a),some (.ref L),u1,u2,some (.ref pl),some (.int bt),some (.int (bt*bt)),some (.int (Fr.fM Fr.Ct Fr.cB bt ((taken d).take (i+1)))),some (.int (Fr.fM Fr.qu Fr.Hu (bt*bt) ((taken d).take (i+1)))),u3,u4,u5]:=fun v1 v2 v3 v4 v5=>⟨v1,v2,v3,v4,v5,by rw [n1,n2];rfl⟩
  refine⟨t,_,rfl,Ea.of et,rfl,_,_,rfl,_,_,rfl,rfl,?_⟩
  obtain⟨cw,cc⟩:=c
  cases cc with
  | line p q=>
   obtain⟨dz,ax,ay,h1,h2,h3⟩:=id hsh
   refine⟨_,rfl,_,rfl,.inl ⟨_,rfl,x,dz,_,rfl,h1,rfl,x,p,q,rfl,hsh,okc,_,_,rfl,rfl,bo wz (Eh okc),_,rfl,_,rfl,x,C,dc,fs,_,rfl,f1,f2,f3,f5,_,_,rfl,rfl,mV cb0 (cbz.mono (by decide)),_,_,rfl,rfl,bo m1 q1,_,_,rfl,rfl,?_⟩⟩
   refine⟨_,rfl,_,rfl,.inl ⟨_,rfl,x,dz,_,rfl,h1,rfl,x,p,q,rfl,hsh,okc,_,_,rfl,rfl,bo wz (B7 okc),_,rfl,_,rfl,x,C,dc,fs,_,rfl,f1,f2,f3,f5,_,rfl,x,C,dc,fs,_,rfl,f1,f2,f3,f5,_,_,rfl,rfl,bo cbz cbz,_,_,rfl,rfl,mV cb20 (cb2z.mono (by decide)),_,_,rfl,rfl,bo m2 q2,_,_,rfl,rfl,?_⟩⟩
   obtain⟨u1,u2,u3,u4,u5,ee⟩:=fin _ _ _ _ _
   exact⟨rfl,hi',u1,u2,u3,u4,u5,ee,end1,end2⟩
  | comb p q n=>
   obtain⟨dz,ax,ay,h1,h2,h3⟩:=id hsh
   refine⟨_,rfl,_,rfl,.inr ⟨_,rfl,x,dz,_,rfl,h1,rfl,x,p,q,n,rfl,hsh,okc,_,_,rfl,rfl,bo wz (Eh okc),_,rfl,_,rfl,x,C,dc,fs,_,rfl,f1,f2,f3,f5,_,_,rfl,rfl,mV cb0 (cbz.mono (by decide)),_,_,rfl,rfl,bo m1 q1,_,_,rfl,rfl,?_⟩⟩
   refine⟨_,rfl,_,rfl,.inr ⟨_,rfl,x,dz,_,rfl,h1,rfl,x,p,q,n,rfl,hsh,okc,_,_,rfl,rfl,bo wz (B7 okc),_,rfl,_,rfl,x,C,dc,fs,_,rfl,f1,f2,f3,f5,_,rfl,x,C,dc,fs,_,rfl,f1,f2,f3,f5,_,_,rfl,rfl,bo cbz cbz,_,_,rfl,rfl,mV cb20 (cb2z.mono (by decide)),_,_,rfl,rfl,bo m2 q2,_,_,rfl,rfl,?_⟩⟩
   obtain⟨u1,u2,u3,u4,u5,ee⟩:=fin _ _ _ _ _
   exact⟨rfl,hi',u1,u2,u3,u4,u5,ee,end1,end2⟩
 rintro σ H4 ⟨rfl,hi,v1,v2,v3,v4,v5,rfl,mz,sz⟩
 rw [List.length_map,pa.1,List.take_length,iP] at mz
 rw [List.length_map,pa.1,List.take_length,iP] at sz
 rw [List.length_map,pa.1,List.take_length,iP,iP]
 have lowd:=D.ok.low
 have dvd':∀c∈d,0<c.1→Fr.cB c.2∣bt:=fun c hc q=>dvd c (by unfold taken;exact List.mem_filter.mpr ⟨hc,decide_eq_true q⟩)
 have mean:=(Fr.Fv b0 lowd dvd' hW).eq
 have var:=(Fr.Lf b0 lowd dvd' hW).eq
 generalize hM:Fr.fM Fr.Ct Fr.cB bt d=MM at*
 generalize hS:Fr.fM Fr.qu Fr.Hu (bt*bt) d=SS at*
 have mz':Sz 41000 MM:=mz.mono (by omega)
 have sz':Sz 41000 SS:=sz.mono (by omega)
 have t2:=(show Sz 2 2 by decide).mul tz (k:=135)
 refine⟨_,rfl,a,_,dx,_,_,rfl,(S3 _ _ (s1 _ _ D.inst)),T.ai.cl,T.ai.no _ (by decide),rfl,?_⟩
 refine⟨_,rfl,_,rfl,(by show 2≤sizeLine;decide),fun F1 hF1=> ?_⟩
 have sf1:=aC.laid (o:= .lst [.int 2,.int ((total d:Nat):Int)]) hF1
 refine⟨_,rfl,F1,pl,_,_,rfl,rfl,af,sf1 _ _ hp3,(by rw [List.length_map];show 2+ps.length≤2 ^ 24;omega),fun F2 hF2=> ?_⟩
 have sf2:=aC.laid (o:= .lst ([V.int 2,V.int ((total d:Nat):Int)]++ps.map V.int)) hF2
 have tpos:(0:Int)<((total d:Nat):Int):=by omega
 have ppos:∀z∈ps,0<z∧Sz 250 z:=fun z hz=>⟨PP.pos z hz,PP.sz z hz⟩
 refine⟨F2,MM,[2,((total d:Nat):Int)]++ps,rfl,aX.of (by rw [af,List.map_append];rfl),by rw [List.length_append];show 2+ps.length≤1000;omega,fun z hz=> ?_,fun x1 H5 hx1 s5=> ?_⟩
 ·rcases List.mem_append.mp hz with q | q
  ·rcases List.mem_cons.mp q with q | q
   ·rw [q];exact⟨by decide,by decide⟩
   ·rw [List.mem_singleton] at q;rw [q];exact⟨tpos,tz.mono (by decide)⟩
  ·exact ppos z q
 have e1:dO ([2,((total d:Nat):Int)]++ps)=2*bt*((total d:Nat):Int):=by
  rw [vM,hbt]
  show(1*2*((total d:Nat):Int))*bt=_
  grind
 rw [e1,←mean] at hx1
 have S5:=(sf1.trans sf2).trans s5
 have hp5:=S5 _ _ hp3
 refine⟨_,rfl,_,_,rfl,rfl,bo (show Sz 2 2 by decide) tz,_,rfl,_,_,rfl,rfl,bo t2 sz',_,rfl,_,_,rfl,rfl,bo (show Sz 2 3 by decide) mz',_,rfl,_,_,rfl,rfl,bo ((show Sz 2 3 by decide).mul mz' (k:=41002)) mz',_,_,rfl,rfl,?_⟩
 refine⟨_,rfl,_,rfl,(by show 3≤sizeLine;decide),fun F3 hF3=> ?_⟩
 have sf3:=aC.laid (o:= .lst [.int 12,.int ((total d:Nat):Int),.int ((total d:Nat):Int)]) hF3
 refine⟨_,rfl,F3,pl,_,_,rfl,rfl,af,sf3 _ _ hp5,(by rw [List.length_map];show 3+ps.length≤2 ^ 24;omega),fun F4 hF4=> ?_⟩
 have sf4:=aC.laid (o:= .lst ([V.int 12,V.int ((total d:Nat):Int),V.int ((total d:Nat):Int)]++ps.map V.int)) hF4
 refine⟨_,rfl,F4,pl,_,_,rfl,rfl,af,sf4 _ _ (sf3 _ _ hp5),(by rw [List.length_append,List.length_map];show 3+ps.length+ps.length≤2 ^ 24;omega),fun F5 hF5=> ?_⟩
 have sf5:=aC.laid (o:= .lst ([V.int 12,V.int ((total d:Nat):Int),V.int ((total d:Nat):Int)]++ps.map V.int++ps.map V.int)) hF5
 refine⟨F5,_,[12,((total d:Nat):Int),((total d:Nat):Int)]++ps++ps,rfl,aX.of (by rw [af,List.map_append,List.map_append];rfl),by rw [List.length_append,List.length_append];show 3+ps.length+ps.length≤1000;omega,fun z hz=> ?_,fun x2 H6 hx2 s6=> ?_⟩
 ·rcases List.mem_append.mp hz with q | q
  ·rcases List.mem_append.mp q with q | q
   ·rcases List.mem_cons.mp q with q | q
    ·rw [q];exact⟨by decide,by decide⟩
    ·rcases List.mem_cons.mp q with q | q
     ·rw [q];exact⟨tpos,tz.mono (by decide)⟩
     ·rw [List.mem_singleton] at q;rw [q];exact⟨tpos,tz.mono (by decide)⟩
   ·exact ppos z q
  ·exact ppos z q
 have e2:dO ([12,((total d:Nat):Int),((total d:Nat):Int)]++ps++ps)=12*((total d:Nat):Int)*((total d:Nat):Int)*bt*bt:=by
  rw [vM,vM,hbt]
  show(1*12*((total d:Nat):Int)*((total d:Nat):Int))*bt*bt=_
  grind
 rw [e2,←var] at hx2
 have S6:=((sf3.trans sf4).trans sf5).trans s6
 refine⟨_,rfl,_,rfl,(by show 2≤sizeLine;decide),fun p hp=> ?_⟩
 have sp:=aC.laid (o:= .lst [V.ref x1,V.ref x2]) hp
 exact k _ p x1 x2 af ((hx1.same S6).same sp) (hx2.same sp) ((((s1.trans S3).trans S5).trans S6).trans sp)
open Vbdeab (Class Dist)
def j5 (T:Tx K mg) (H:Hp) (rs:List Addr) (l:List Vbdeab.Q):Prop:=rs.length=l.length∧∀(j:Nat) r q,rs[j]?=some r→l[j]?=some q→j4 T H r q
theorem j5.si {T:Tx K mg} {H H':Hp} {rs:List Addr} {l:List Vbdeab.Q} (h:j5 T H rs l) (s:fH H H'):j5 T H' rs l:=⟨h.1,fun j r q a b=>(h.2 j r q a b).si s⟩
theorem j5.nil (T:Tx K mg) (H:Hp):j5 T H [] []:=⟨rfl,fun j t c a _=>by cases j<;>cases a⟩
theorem j5.snoc {T:Tx K mg} {H:Hp} {rs:List Addr} {l:List Vbdeab.Q} {r:Addr} {q:Vbdeab.Q} (h:j5 T H rs l) (v:j4 T H r q):j5 T H (rs++ [r]) (l++ [q]):=by
 refine⟨by rw [List.length_append,List.length_append,h.1];rfl,fun j t' c' a b=> ?_⟩
 rcases Nat.lt_trichotomy j rs.length with z | z | z
 ·rw [List.getElem?_append_left z] at a
  rw [List.getElem?_append_left (by rw [←h.1];exact z)] at b
  exact h.2 j t' c' a b
 ·rw [z,List.getElem?_append_right (Nat.le_refl _),Nat.sub_self] at a
  rw [z,h.1,List.getElem?_append_right (Nat.le_refl _),Nat.sub_self] at b
  cases a
  cases b
  exact v
 ·rw [List.getElem?_eq_none (by rw [List.length_append];exact z)] at a
  cases a
theorem Gb {l:Dist} {i:Nat} {c:Nat×Class} (h:l[i]?=some c):Fr.gt (l.take (i+1))=Fr.gt (l.take i)++ [Fr.oP c.2]++ [Fr.xt c.2]:=by
 unfold Fr.gt
 rw [Ch.bj h,List.flatMap_append]
 simp
theorem CI (l:Dist):(Fr.gt l).length=2*l.length:=by
 unfold Fr.gt
 induction l with
 | nil=>rfl
 | cons c r ih=>simp only [List.flatMap_cons,List.length_append,ih,List.length_cons,List.length_nil];omega
theorem DX {d:Dist} (ok:Kh d):taken d≠ []:=fun h=>by
 have:∀l:Dist,taken l= []→total l=0:=fun l hl=>by
  induction l with
  | nil=>rfl
  | cons c r ih=>
   unfold taken at hl ih
   rw [List.filter_cons] at hl
   split at hl
   ·cases hl
   ·rename_i q
    have:c.1=0:=by simp at q;exact q
    unfold total at ih⊢
    rw [List.map_cons,Ch.sum_cons,ih hl,this]
 have:=this d h
 have:=ok.tot1
 omega
def mI (T:Tx K mg):Sp:=fun vs H Q _=>∃(av:List Addr) (a:Addr) (d:Dist),vs= [.ref a]∧dD T av H a d∧∀(H':Hp) (p x y:Addr),H' p=some (.lst [.ref x,.ref y])→ir T H' x (Vbdeab.least d)→ir T H' y (Vbdeab.most d)→aC H H'→Q (.ref p) H'
theorem mi (T:Tx K mg):cM P w base T.fx 4 (mI T):=by
 refine T.fx.okA bd ?_
 rintro _ A _ s H _ Q E hr ⟨av,a,d,rfl,hD,k⟩
 refine⟨_,(ac (aW 1 bd.nd (aG ad))
   (ac (cZ PassesOwn.never rfl (bW (be T.d9 (gu T) hr (ab (pv 0) ad))) (BU rfl (dC (i9 2 bd.nd) (dC (i9 3 bd.nd) nH))) (ac (eU (oS PySem.F.plainAttrs_list PySem.F.slot_list_append PySem.F.type_list_append gI (pv 1) (ab (ao (pv 3) rfl) ad)))
   (ae (eU (oS PySem.F.plainAttrs_list PySem.F.slot_list_append PySem.F.type_list_append gI (pv 1) (ab (sX (dm (pv 3) T.kK (ut T) hr) (dm (pv 3) T.kJ (ur T) hr)) ad))))))
   (ac (aW 4 bd.nd (fP (pv 1) am))
   (ac (aW 5 bd.nd (fP (pv 1) am))
   (ac (cZ PassesOwn.never rfl (bW (pv 1)) (i9 6 bd.nd) (ac (aQ (aP (wB (pv 6) T.c8 (dL T) hr (ab (pv 4) ad))) (ae (aW 4 bd.nd (pv 6))) aE)
   (ae (aQ (aP (wB (pv 5) T.c8 (dL T) hr (ab (pv 6) ad))) (ae (aW 5 bd.nd (pv 6))) aE))))
   (ae (aj (aG (ab (dm (pv 4) T.dk (dB T) hr) (ab (dm (pv 5) T.dk (dB T) hr) ad)))))))))),?_⟩
 obtain⟨dx,wl,sl,bl,el,as,D⟩:=id hD
 have dl:=D.ok.len2
 have okt:∀c∈taken d,rJ c.2:=fun c hc=>D.ok.cls c (iY hc).1
 have tl:=rb d
 refine⟨Nat.zero_le _,fun E hE=> ?_⟩
 have sE:=aC.laid (o:= .lst []) hE
 refine⟨_,rfl,av,a,d,rfl,hD.same sE,fun H1 L ts hL pa s1=> ?_⟩
 have hE1:=s1 _ _ (af (H:=H) (a:=E) (o:= .lst []))
 refine⟨L,rfl,⟨_,aX.of hL⟩,c9 (xs:=ts.map V.ref) (fun i σ H'=>i≤ts.length∧∃(v1 v2 v3 v4 v5:Option V) (rs:List Addr),σ= [some (.ref a),some (.ref E),v1,v2,v3,v4,v5]∧H' E=some (.lst (rs.map V.ref))∧j5 T H' rs (Fr.gt ((taken d).take i))∧(∀b o,H1 b=some o→b≠E→H' b=some o)) ⟨Nat.zero_le _,none,none,none,none,none,[],rfl,hE1,j5.nil T H1,fun b o e _=>e⟩ (fun i σ H' _ h=> ?_) ?_ ?_⟩
 ·obtain⟨_,_,_,_,_,_,_,_,_,_,kp⟩:=h
  exact aX.of (kp _ _ hL (fun z=>by rw [z,hE1] at hL;cases ts with
   | nil=>have:=pa.1;exact absurd (List.eq_nil_of_length_eq_zero this.symm) (DX D.ok)
   | cons t r=>cases hL))
 ·rintro i v σ H2 hv ⟨hi,v1,v2,v3,v4,v5,rs,rfl,hE2,hV,kp⟩
  obtain⟨t,ht,rfl⟩:=fg hv
  have hi':=(List.getElem?_eq_some_iff.mp ht).1
  obtain⟨c,hc⟩:∃c,(taken d)[i]?=some c:=⟨_,List.getElem?_eq_getElem (by rw [←pa.1];exact hi')⟩
  obtain⟨x,et,hsh1⟩:=pa.2 i t _ ht hc
  have okc:=okt c (List.mem_of_getElem? hc)
  have k12:fH H1 H2:=fun b C dx fs e=>kp _ _ e (bb e hE1 (by intro z;cases z))
  have hsh:=hsh1.si k12
  have et2:=kp _ _ et (bb et hE1 (by intro z;cases z))
  obtain⟨C,dc,fs,f1,f2,f3,f4,f5,ax,f6,hq⟩:=vZ hsh
  have hlen:(rs.map V.ref).length≤200:=by rw [List.length_map,hV.1,CI,List.length_take];omega
  have near:j4 T H2 ax (Fr.oP c.2):=by
   have hn:gH (Fr.oP c.2):=by
    obtain⟨cw,cc⟩:=c
    cases cc with
    | line p q=>exact(BI okc).1
    | comb p q n=>exact(eJ okc).1
   exact⟨_,_,hq,hn.2.iz,(bZ hn.1).1.mono (by decide),(bZ hn.1).2.mono (by decide)⟩
  refine⟨t,_,rfl,Ea.of et2,rfl,_,_,rfl,_,_,rfl,rfl,?_⟩
  refine⟨_,rfl,.inl ⟨rfl,_,aX.of hE2⟩,_,rfl,x,C,dc,fs,_,rfl,f1,f2,f4,f6,E,_,_,rfl,rfl,hE2,(by show _<2 ^ 24;omega),?_⟩
  have k3:fH H2 (bC H2 E (.lst (rs.map V.ref++ [V.ref ax]))):=fH.lst hE2
  have hsh3:=hsh.si k3
  have fin:∀(z:Addr) (H4:Hp) (n m:Int),dW T H4 z n m→Fr.Iz (Fr.xt c.2) n m→Sz 400 n→Sz 400 m→aC (bC H2 E (.lst (rs.map V.ref++ [V.ref ax]))) H4→∃l xs y,V.ref E= .ref l∧ [V.ref z]= [y]∧H4 l=some (.lst xs)∧xs.length<sizeLine∧(i+1≤ts.length∧∃(u1 u2 u3 u4 u5:Option V) (rs':List Addr),[some (.ref a),some (.ref E),some (V.int (c.1:Nat)),some (V.ref x),v3,v4,v5]= [some (.ref a),some (.ref E),u1,u2,u3,u4,u5]∧(bC H4 l (.lst (xs++ [y]))) E=some (.lst (rs'.map V.ref))∧j5 T (bC H4 l (.lst (xs++ [y]))) rs' (Fr.gt ((taken d).take (i+1)))∧(∀b o,H1 b=some o→b≠E→(bC H4 l (.lst (xs++ [y]))) b=some o)):=fun z H4 n m hz iz nz mz s4=>by
   have hE4:=s4 _ _ (af (H:=H2) (a:=E))
   refine⟨E,_,_,rfl,rfl,hE4,?_,hi',_,_,_,_,_,rs++ [ax]++ [z],rfl,?_,?_,fun b o e hb=> ?_⟩
   ·rw [List.length_append]
    show _+1<2 ^ 24
    omega
   ·rw [af,uX,uX]
   ·rw [Gb hc]
    exact(((((hV.snoc near).si k3).si (aC.i s4)).snoc ⟨n,m,hz,iz,nz.mono (by decide),mz.mono (by decide)⟩)).si (fH.lst hE4)
   ·rw [ak hb]
    exact s4 _ _ (by rw [ak hb];exact kp b o e hb)
  obtain⟨cw,cc⟩:=c
  cases cc with
  | line p q=>
   obtain⟨dz,bx,by',h1,h2,h3⟩:=id hsh3
   exact⟨_,rfl,.inl ⟨rfl,_,aX.of af⟩,.inl ⟨_,rfl,x,dz,_,rfl,h1,rfl,x,p,q,rfl,hsh3,okc,fin⟩⟩
  | comb p q n=>
   obtain⟨dz,bx,by',h1,h2,h3⟩:=id hsh3
   exact⟨_,rfl,.inl ⟨rfl,_,aX.of af⟩,.inr ⟨_,rfl,x,dz,_,rfl,h1,rfl,x,p,q,n,rfl,hsh3,okc,fin⟩⟩
 ·rintro σ H2 ⟨hi,v1,v2,v3,v4,v5,rs,rfl,hE2,hV,kp⟩
  rw [List.length_map,pa.1,List.take_length] at hV
  have hne:=DX D.ok
  have lowE:∀z∈Fr.gt (taken d),Fr.lowQ z:=Fr.yD fun c hc=>(okt c hc).2
  have l0:0<(Fr.gt (taken d)).length:=by
   rw [CI]
   cases h:taken d with
   | nil=>exact absurd h hne
   | cons c r=>rw [List.length_cons];omega
  have sH2:aC H H2:=fun b o e=>kp b o (s1 _ _ (sE _ _ e)) (aw e hE)
  generalize hl:Fr.gt (taken d)=l at*
  obtain⟨r0,g0⟩:∃r0,rs[0]?=some r0:=⟨_,List.getElem?_eq_getElem (show 0<rs.length by rw [hV.1];exact l0)⟩
  obtain⟨e0,q0⟩:∃e0,l[0]?=some e0:=⟨_,List.getElem?_eq_getElem l0⟩
  have V0:=hV.2 0 _ _ g0 q0
  refine⟨_,rfl,E,_,_,_,rfl,rfl,aX.of hE2,rL (j:=0) rfl (by rw [List.getElem?_map,g0];rfl),?_⟩
  refine⟨_,rfl,E,_,_,_,rfl,rfl,aX.of hE2,rL (j:=0) rfl (by rw [List.getElem?_map,g0];rfl),?_⟩
  refine⟨_,rfl,E,rfl,⟨_,aX.of hE2⟩,c9 (xs:=rs.map V.ref) (fun i σ H'=>H'=H2∧∃(v1 v2 v5:Option V) (x y:Addr) (p q:Vbdeab.Q),σ= [some (.ref a),some (.ref E),v1,v2,some (.ref x),some (.ref y),v5]∧j4 T H2 x p∧j4 T H2 y q∧p∈l∧q∈l∧(∀z∈l.take i,p.le z=true)∧(∀z∈l.take i,z.le q=true)) ⟨rfl,_,_,_,r0,r0,e0,e0,rfl,V0,V0,List.mem_of_getElem? q0,List.mem_of_getElem? q0,fun z hz=>by simp at hz,fun z hz=>by simp at hz⟩ (fun i σ H' _ h=>by rw [h.1];exact aX.of hE2) ?_ ?_⟩
  ·rintro i v σ H3 hv ⟨rfl,u1,u2,u5,x,y,p,q,rfl,Vx,Vy,pm,qm,ple,qle⟩
   obtain⟨r,hr,rfl⟩:=fg hv
   have hi':=(List.getElem?_eq_some_iff.mp hr).1
   obtain⟨e,hz⟩:∃e,l[i]?=some e:=⟨_,List.getElem?_eq_getElem (show i<l.length by rw [←hV.1];exact hi')⟩
   have Vr:=hV.2 i r e hr hz
   have em:=List.mem_of_getElem? hz
   obtain⟨rn,rd,hrt,riz,rnz,rdz⟩:=Vr
   obtain⟨xn,xd,hxt,xiz,xnz,xdz⟩:=Vx
   obtain⟨yn,yd,hyt,yiz,ynz,ydz⟩:=Vy
   obtain⟨dr,hrt'⟩:=id hrt
   obtain⟨dy,hyt'⟩:=id hyt
   have tk:=Ch.bj hz
   have lowz:∀z∈l.take i,Fr.lowQ z:=fun z hz=>lowE z (List.mem_of_mem_take hz)
   have second:∀(x':Addr) (p':Vbdeab.Q),j4 T H3 x' p'→p'∈l→(∀z∈l.take (i+1),p'.le z=true)→True:=fun _ _ _ _ _=>trivial
   have step2:∀(x':Addr) (p':Vbdeab.Q),j4 T H3 x' p'→p'∈l→(∀z∈l.take (i+1),p'.le z=true)→
     ∃(y':Addr) (q':Vbdeab.Q),(if yn*rd<rn*yd then y'=r else y'=y)∧j4 T H3 y' q'∧q'∈l∧∀z∈l.take (i+1),z.le q'=true:=fun x' p' _ _ _=>by
    by_cases c:yn*rd<rn*yd
    ·refine⟨r,e,by rw [if_pos c],⟨rn,rd,hrt,riz,rnz,rdz⟩,em,fun z hz=> ?_⟩
     have qe:q.le e=true:=(yiz.le_iff riz).mpr (by omega)
     rw [tk] at hz
     rcases List.mem_append.mp hz with h | h
     ·exact Fr.le_trans (lowz z h) yiz.lowQ riz.lowQ (qle z h) qe
     ·rw [List.mem_singleton] at h
      rw [h];exact Fr.le_refl _
    ·refine⟨y,q,by rw [if_neg c],⟨yn,yd,hyt,yiz,ynz,ydz⟩,qm,fun z hz=> ?_⟩
     have qe:e.le q=true:=(riz.le_iff yiz).mpr (by omega)
     rw [tk] at hz
     rcases List.mem_append.mp hz with h | h
     ·exact qle z h
     ·rw [List.mem_singleton] at h
      rw [h];exact qe
   refine⟨_,rfl,r,dr,_,rfl,hrt',rfl,_,rfl,r,x,_,_,_,_,rfl,hrt,hxt,bo rnz xdz,bo xnz rdz,_,rfl,aU (fun h1=> ?_) (fun h1=> ?_)⟩
   ·have h1':rn*xd<xn*rd:=of_decide_eq_true h1
    have pe:e.le p=true:=(riz.le_iff xiz).mpr (by omega)
    have ple':∀z∈l.take (i+1),e.le z=true:=fun z hz=>by
     rw [tk] at hz
     rcases List.mem_append.mp hz with h | h
     ·exact Fr.le_trans riz.lowQ xiz.lowQ (lowz z h) pe (ple z h)
     ·rw [List.mem_singleton] at h
      rw [h];exact Fr.le_refl _
    have Ve:j4 T H3 r e:=⟨rn,rd,hrt,riz,rnz,rdz⟩
    obtain⟨y',q',hy',Vq',qm',qle'⟩:=step2 r e Ve em ple'
    refine⟨_,rfl,_,rfl,y,dy,_,rfl,hyt',rfl,_,rfl,y,r,_,_,_,_,rfl,hyt,hrt,bo ynz rdz,bo rnz ydz,_,rfl,aU (fun h2=> ?_) (fun h2=> ?_)⟩
    ·rw [if_pos (of_decide_eq_true h2)] at hy'
     subst hy'
     exact⟨_,rfl,rfl,_,_,_,_,_,e,q',rfl,Ve,Vq',em,qm',ple',qle'⟩
    ·rw [if_neg fun q=>h2 (decide_eq_true q)] at hy'
     subst hy'
     exact⟨rfl,_,_,_,_,_,e,q',rfl,Ve,Vq',em,qm',ple',qle'⟩
   ·have h1':¬rn*xd<xn*rd:=fun q=>h1 (decide_eq_true q)
    have pe:p.le e=true:=(xiz.le_iff riz).mpr (by omega)
    have ple':∀z∈l.take (i+1),p.le z=true:=fun z hz=>by
     rw [tk] at hz
     rcases List.mem_append.mp hz with h | h
     ·exact ple z h
     ·rw [List.mem_singleton] at h
      rw [h];exact pe
    have Vp:j4 T H3 x p:=⟨xn,xd,hxt,xiz,xnz,xdz⟩
    obtain⟨y',q',hy',Vq',qm',qle'⟩:=step2 x p Vp pm ple'
    refine⟨_,rfl,y,dy,_,rfl,hyt',rfl,_,rfl,y,r,_,_,_,_,rfl,hyt,hrt,bo ynz rdz,bo rnz ydz,_,rfl,aU (fun h2=> ?_) (fun h2=> ?_)⟩
    ·rw [if_pos (of_decide_eq_true h2)] at hy'
     subst hy'
     exact⟨_,rfl,rfl,_,_,_,_,_,p,q',rfl,Vp,Vq',pm,qm',ple',qle'⟩
    ·rw [if_neg fun q=>h2 (decide_eq_true q)] at hy'
     subst hy'
     exact⟨rfl,_,_,_,_,_,p,q',rfl,Vp,Vq',pm,qm',ple',qle'⟩
  ·rintro σ H3 ⟨rfl,u1,u2,u5,x,y,p,q,rfl,Vx,Vy,pm,qm,ple,qle⟩
   rw [List.length_map,hV.1,List.take_length] at ple qle
   have ep:Vbdeab.least d=p:=by
    refine Fr.gT.unique lowE ?_ ⟨pm,ple⟩
    rw [←hl]
    exact Fr.yu hne fun c hc=>(okt c hc).2
   have eq:Vbdeab.most d=q:=by
    refine Fr.j2.unique lowE ?_ ⟨qm,qle⟩
    rw [←hl]
    exact Fr.AF hne fun c hc=>(okt c hc).2
   obtain⟨xn,xd,hxt,xiz,xnz,xdz⟩:=Vx
   obtain⟨yn,yd,hyt,yiz,ynz,ydz⟩:=Vy
   obtain⟨d1,hxt'⟩:=id hxt
   obtain⟨d2,hyt'⟩:=id hyt
   refine⟨_,rfl,x,d1,_,rfl,hxt',rfl,x,xn,xd,rfl,hxt,xiz.dpos,xdz.mono (by decide),fun z1 H4 hz1 s4=> ?_⟩
   refine⟨_,rfl,y,d2,_,rfl,s4 _ _ hyt',rfl,y,yn,yd,rfl,hyt.same s4,yiz.dpos,ydz.mono (by decide),fun z2 H5 hz2 s5=> ?_⟩
   refine⟨(by show 2≤sizeLine;decide),fun pp hp=> ?_⟩
   have sp:=aC.laid (o:= .lst [V.ref z1,V.ref z2]) hp
   rw [←xiz.eq] at hz1
   rw [←yiz.eq] at hz2
   rw [ep,eq] at k
   exact k _ pp z1 z2 af ((hz1.same s5).same sp) (hz2.same sp) (((sH2.trans s4).trans s5).trans sp)
open Vbdeab (Class Dist)
theorem nF {c:Class} (ok:rJ c) {v:Vbdeab.Q} (okv:gH v) (s:Bool):0<Fr.rQ c (v.den:Int)∧Sz 241 (Fr.rQ c (v.den:Int))∧c.part s v=Vbdeab.mkQ (Fr.uD c v.num (v.den:Int) (Fr.kX s)) (Fr.rQ c (v.den:Int)).toNat∧Fr.lowQ (c.part s v)∧Sz 250 (c.part s v).num∧Sz 250 (((c.part s v).den:Nat):Int):=by
 obtain⟨b0,bz,oz,rz⟩:=gv ok
 have v0:=eR okv.2
 have vz:=(bZ okv.1).2
 have iz:=Fr.JF ok.2 (fun x s n e=>by subst e;exact Nat.lt_of_le_of_lt (eJ ok).2.2.2 (by decide)) okv.2.iz s
 have dz:Sz 241 (Fr.rQ c (v.den:Int)):=by
  cases c with
  | line x y=>
   show Sz 241 (if Fr.cR (.line x y)=0 then 1 else Fr.sv (Fr.cR (.line x y))*(v.den:Int))
   split
   ·decide
   ·exact(x9 rz).mul vz
  | comb x y n=>exact(ig (eJ ok).2.2.2).mono (by decide)
 have nz:Sz 241 (Fr.uD c v.num (v.den:Int) (Fr.kX s)):=by
  have cl:∀a m:Int,0≤m→Sz 241 m→Sz 241 (Fr.eI a m):=fun a m h z=>z.le (by unfold Fr.eI;repeat' split;all_goals omega)
  cases c with
  | line x y=>
   show Sz 241 (if Fr.cR (.line x y)=0 then _ else _)
   split
   ·split<;>decide
   ·exact cl _ _ (Int.mul_nonneg (E8 _) (Int.le_of_lt v0)) ((x9 rz).mul vz)
  | comb x y n=>exact cl _ _ (by omega) ((ig (eJ ok).2.2.2).mono (by decide))
 have e:=iz.eq
 have gp:=cG (n:=Fr.uD c v.num (v.den:Int) (Fr.kX s)) iz.dpos
 refine⟨iz.dpos,dz,e,iz.lowQ,?_,?_⟩
 ·rw [e,Kd.BK iz.dpos]
  exact(nz.ediv gp).mono (by decide)
 ·rw [e,Kd.BJ iz.dpos]
  exact(dz.ediv gp).mono (by decide)
theorem K4 (T:Tx K mg) (f:Class→Vbdeab.Q):Si (fun H x c=>ir T H x (f c)):=fun H H' x c s h=>h.si s
def va (T:Tx K mg):Sp:=fun vs H Q _=>∃(av:List Addr) (a b:Addr) (d:Dist) (v:Vbdeab.Q) (s:Bool),vs= [.ref a,.ref b,.int (Fr.kX s)]∧dD T av H a d∧ir T H b v∧gH v∧∀(x:Addr) (H':Hp),ir T H' x (Vbdeab.below s v d)→aC H H'→Q (.ref x) H'
theorem uu (T:Tx K mg):cM P w base T.kL 4 (va T):=by
 refine T.kL.okA bc ?_
 rintro _ A _ s H _ Q E hr ⟨av,a,b,d,v,s,rfl,hD,hb,okv,k⟩
 refine⟨_,(ac (pZ (i:=5) (own:= [("weight",3),("shape",4)]) rfl bc.nd rfl rfl (ve rfl rfl rfl rfl) (bW (be T.d9 (gu T) hr (ab (pv 0) ad))) (bK (N:= ["distribution","v","strict","weight","shape","chances","chance","parts","bottom","reached"]) (sc:=ag fC) (by decide+kernel)) (fun _ _ _ _ _=>(yh (K':=K) (n:=2) rfl (dC (i9 3 bc.nd) (dC (i9 4 bc.nd) nH)) rfl rfl rfl)) (fun _ _ _ _ _=>cQ) (fun _ _ _ _ _=>(Iw (ab (pv 3) (ab (dm (sX (wB (pv 4) T.il (pR T) hr (ab (pv 1) (ab (pv 2) ad))) (wB (pv 4) T.ik (pQ T) hr (ab (pv 1) (ab (pv 2) ad)))) T.dk (dB T) hr) ad)))))
   (ac (aW 7 bc.nd (be T.io (ld T) hr (ab (iB (own:= [("weight",3),("chance",6)]) rfl bc.nd (bW (pv 5)) (bK (N:= ["distribution","v","strict","weight","shape","chances","chance","parts","bottom","reached"]) (sc:=ag fC) (by decide+kernel)) (fun _ _ _ _ _=>(yh (K':=K) (n:=2) rfl (dC (i9 3 bc.nd) (dC (i9 6 bc.nd) nH)) rfl rfl rfl)) (fun _ _ _ _ _=>cQ) (fun _ _ _ _ _=>(uE (K':=K) (pv 6) (by rfl) rfl))) ad)))
   (ac (aW 8 bc.nd (be T.rm (uB T) hr (ab (pv 7) ad)))
   (ac (aW 9 bc.nd am)
   (ac (cZ PassesOwn.never rfl (bW (pv 5)) (BU rfl (dC (i9 3 bc.nd) (dC (i9 6 bc.nd) nH))) (ae (lN (i:=9) bc.nd rfl (Or.inl rfl) (aB aH (aB aH (pv 3) (ao (pv 6) rfl)) (aB bV (pv 8) (ao (pv 6) rfl))) j8)))
   (ae (aj (be T.gg (iR T) hr (ab (pv 9) (ab (aB dF (pv 7) (aG (ab (ao (pv 0) rfl) ad))) ad)))))))))),?_⟩
 obtain⟨dx,wl,sl,bl,el,as,D⟩:=id hD
 have dl:=D.ok.len2
 have hW:0<total d:=D.ok.tot1
 have tz:Sz 133 ((total d:Nat):Int):=dh (oO D.ok.tot2)
 have okt:∀c∈taken d,rJ c.2:=fun c hc=>D.ok.cls c (iY hc).1
 have tl:=rb d
 refine⟨_,rfl,av,a,d,rfl,hD,fun H1 L ts hL pa s1=>⟨L,rfl,⟨_,aX.of hL⟩,fun C hC=>gZ (xs:=ts.map V.ref) (fun i H'=>i≤ts.length∧∃us:List Addr,H' C=some (.lst (us.map V.ref))∧cY (fun H x c=>ir T H x (c.part s v)) H' us ((taken d).take i)∧aC H1 H') ⟨Nat.zero_le _,[],af,cY.nil _ _,aC.laid hC⟩ (fun i H' _ ⟨_,_,_,_,sm⟩=>aX.of (sm _ _ hL)) ?_ ?_⟩⟩
 ·rintro i x H2 hx ⟨hi,us,hC2,pu,s2⟩
  obtain⟨t,ht,rfl⟩:=fg hx
  have hi':=(List.getElem?_eq_some_iff.mp ht).1
  obtain⟨c,hc⟩:∃c,(taken d)[i]?=some c:=⟨_,List.getElem?_eq_getElem (by rw [←pa.1];exact hi')⟩
  obtain⟨z,et,hsh1⟩:=pa.2 i t _ ht hc
  have okc:=okt c (List.mem_of_getElem? hc)
  have hsh:=hsh1.same s2
  have hb2:=(hb.same s1).same s2
  obtain⟨pd0,pdz,pe,plow,pnz,pdz2⟩:=nF okc okv s
  have fin:∀(y:Addr) (H3:Hp),dW T H3 y (Fr.uD c.2 v.num (v.den:Int) (Fr.kX s)) (Fr.rQ c.2 (v.den:Int))→aC H2 H3→∃dy fs,H3 y=some (.ins T.aA.C dy fs)∧fs.lookup ("lowest":Str)=none∧∃(a':Addr) (n' d':Int),[V.ref y]= [.ref a']∧dW T H3 a' n' d'∧0<d'∧Sz 9000 d'∧∀(x':Addr) (H':Hp),ir T H' x' (Vbdeab.mkQ n' d'.toNat)→aC H3 H'→(2≤sizeLine∧∀p,H' p=none→∃acc,(bC H' p (.tup [.int (c.1:Nat),.ref x'])) C=some (.lst acc)∧acc.length<sizeLine∧(i+1≤ts.length∧∃us:List Addr,(bC (bC H' p (.tup [.int (c.1:Nat),.ref x'])) C (.lst (acc++ [.ref p]))) C=some (.lst (us.map V.ref))∧cY (fun H x c=>ir T H x (c.part s v)) (bC (bC H' p (.tup [.int (c.1:Nat),.ref x'])) C (.lst (acc++ [.ref p]))) us ((taken d).take (i+1))∧aC H1 (bC (bC H' p (.tup [.int (c.1:Nat),.ref x'])) C (.lst (acc++ [.ref p]))))):=fun y H3 hy s3=>by
   obtain⟨dy,hy'⟩:=id hy
   refine⟨dy,_,hy',rfl,y,_,_,rfl,hy,pd0,pdz.mono (by decide),fun x' H4 hx' s4=>⟨by decide,fun p hp=> ?_⟩⟩
   rw [←pe] at hx'
   have sp:=aC.laid (o:= .tup [.int (c.1:Nat),.ref x']) hp
   have S:=(s3.trans s4).trans sp
   have hC5:=S _ _ hC2
   refine⟨_,hC5,?_,hi',us++ [p],?_,?_,fun q o e=> ?_⟩
   ·rw [List.length_map,pu.1,List.length_take]
    show _<2 ^ 24
    omega
   ·rw [af,uX]
   ·rw [Ch.bj hc]
    exact cY.lst (K4 T _) ((pu.same (K4 T _) S).snoc (x:=x') af (hx'.same sp)) hC5
   ·rw [ak (aw e hC)]
    exact S _ _ (s2 _ _ e)
  refine⟨t,_,rfl,Ea.of (s2 _ _ et),rfl,_,_,rfl,_,_,rfl,rfl,rfl,?_⟩
  obtain⟨cw,cc⟩:=c
  cases cc with
  | line p q=>
   obtain⟨dz,ax,ay,h1,h2,h3⟩:=id hsh
   refine⟨_,rfl,.inl ⟨_,rfl,z,dz,_,rfl,h1,rfl,_,rfl,_,rfl,z,b,p,q,v,_,rfl,hsh,okc,hb2,okv,fun y H3 hy s3=> ?_⟩⟩
   obtain⟨dy,fs,e1,e2,rest⟩:=fin y H3 hy s3
   exact⟨y,dy,fs,rfl,e1,e2,rest⟩
  | comb p q n=>
   obtain⟨dz,ax,ay,h1,h2,h3⟩:=id hsh
   refine⟨_,rfl,.inr ⟨_,rfl,z,dz,_,rfl,h1,rfl,_,rfl,_,rfl,z,b,p,q,v,n,_,rfl,hsh,okc,hb2,okv,fun y H3 hy s3=> ?_⟩⟩
   obtain⟨dy,fs,e1,e2,rest⟩:=fin y H3 hy s3
   exact⟨y,dy,fs,rfl,e1,e2,rest⟩
 rintro H2 ⟨hi,us,hC2,pu,s2⟩
 rw [List.length_map,pa.1,List.take_length] at pu
 have pz:∀c∈taken d,(0:Int)<(((c.2.part s v).den:Nat):Int)∧Sz 250 (((c.2.part s v).den:Nat):Int):=fun c hc=>by
  obtain⟨_,_,_,plow,_,pdz2⟩:=nF (okt c hc) okv s
  exact⟨eR plow,pdz2⟩
 refine⟨_,rfl,C,rfl,⟨_,aX.of hC2⟩,fun B hB=>gZ (xs:=us.map V.ref) (fun i H'=>i≤us.length∧H' B=some (.lst ((((taken d).take i).map fun c=>(((c.2.part s v).den:Nat):Int)).map V.int))∧aC H2 H') ⟨Nat.zero_le _,af,aC.laid hB⟩ (fun i H' _ h=>aX.of (h.2.2 _ _ hC2)) ?_ ?_⟩
 ·rintro i x H3 hx ⟨hi,hB3,s3⟩
  obtain⟨t,ht,rfl⟩:=fg hx
  have hi':=(List.getElem?_eq_some_iff.mp ht).1
  obtain⟨c,hc⟩:∃c,(taken d)[i]?=some c:=⟨_,List.getElem?_eq_getElem (by rw [←pu.1];exact hi')⟩
  obtain⟨z,et,⟨dz,hq⟩⟩:=pu.2 i t _ ht hc
  refine⟨t,_,rfl,Ea.of (s3 _ _ et),rfl,_,_,rfl,_,_,rfl,rfl,rfl,_,rfl,z,_,dz,_,_,rfl,(s3 _ _ hq),T.aA.cl,T.aA.no _ (by decide),rfl,_,hB3,(by rw [List.length_map,List.length_map,List.length_take];show _<2 ^ 24;omega),hi',?_,fun b o e=> ?_⟩
  ·rw [af,Ch.bj hc,List.map_append,uo]
   rfl
  ·rw [ak (aw e hB)]
   exact s3 b o e
 rintro H3 ⟨hi3,hB3,s3⟩
 rw [List.length_map,pu.1,List.take_length] at hB3
 refine⟨B,_,rfl,aX.of hB3,by rw [List.length_map];omega,fun z hz=> ?_,fun H4 pl ps hp4 PP s4 _=> ?_⟩
 ·obtain⟨c,hc,rfl⟩:=List.mem_map.mp hz
  exact pz c hc
 have S4:=s3.trans s4
 have pl1:ps.length≤64:=by rw [PP.len,List.length_map];omega
 have bz0:=pY PP.sz ps.length
 rw [jS] at bz0
 have bz:Sz 16100 (dO ps):=bz0.mono (by omega)
 have b0:=PP.pp
 refine⟨_,rfl,pl,ps,rfl,aX.of hp4,by omega,fun z hz=>(PP.sz z hz).mono (by decide),?_⟩
 generalize hbt:dO ps=bt at*
 have pu4:=pu.same (K4 T _) S4
 have hC4:=S4 _ _ hC2
 refine⟨_,rfl,C,rfl,⟨_,aX.of hC4⟩,c9 (xs:=us.map V.ref) (fun i σ H'=>H'=H4∧i≤us.length∧∃v1 v2 v3:Option V,σ= [some (.ref a),some (.ref b),some (.int (Fr.kX s)),v1,v2,some (.ref C),v3,some (.ref pl),some (.int bt),some (.int (Fr.fM (fun c=>(c.part s v).num) (fun c=>(((c.part s v).den:Nat):Int)) bt ((taken d).take i)))]) ⟨rfl,Nat.zero_le _,none,none,none,rfl⟩ (fun i σ H' _ h=>by rw [h.1];exact aX.of hC4) ?_ ?_⟩
 ·rintro i x σ H5 hx ⟨rfl,hi,v1,v2,v3,rfl⟩
  obtain⟨t,ht,rfl⟩:=fg hx
  have hi':=(List.getElem?_eq_some_iff.mp ht).1
  obtain⟨c,hc⟩:∃c,(taken d)[i]?=some c:=⟨_,List.getElem?_eq_getElem (by rw [←pu.1];exact hi')⟩
  obtain⟨z,et,⟨dz,hq⟩⟩:=pu4.2 i t _ ht hc
  have hcm:=List.mem_of_getElem? hc
  have cpos:=(iY hcm).2
  have wz:=DY D.ok (iY hcm).1
  obtain⟨p0,pz1⟩:=pz c hcm
  obtain⟨_,_,_,_,pnz,_⟩:=nF (okt c hcm) okv s
  have n1:=vA (num:=fun c=>(c.part s v).num) (den:=fun c=>(((c.part s v).den:Nat):Int)) (b:=bt) hc cpos
  refine⟨t,_,rfl,Ea.of et,rfl,_,_,rfl,_,_,rfl,rfl,?_⟩
  refine⟨_,rfl,_,rfl,_,rfl,z,_,dz,_,_,rfl,hq,T.aA.cl,T.aA.no _ (by decide),rfl,_,_,rfl,rfl,bo wz pnz,_,rfl,_,rfl,z,_,dz,_,_,rfl,hq,T.aA.cl,T.aA.no _ (by decide),rfl,_,_,rfl,rfl,mV p0 (pz1.mono (by decide)),_,_,rfl,rfl,bo (wz.mul pnz (k:=400)) (bz.ediv p0),_,_,rfl,rfl,rfl,hi',_,_,_,(by rw [n1];rfl)⟩
 rintro σ H5 ⟨rfl,hi,v1,v2,v3,rfl⟩
 rw [List.length_map,pu.1,List.take_length,iP]
 have S5:=(s1.trans s2).trans S4
 refine⟨_,rfl,_,rfl,_,rfl,a,_,dx,_,_,rfl,(S5 _ _ D.inst),T.ai.cl,T.ai.no _ (by decide),rfl,(by show 1≤sizeLine;decide),fun F1 hF1=> ?_⟩
 have sf1:=aC.laid (o:= .lst [.int ((total d:Nat):Int)]) hF1
 refine⟨pl,F1,_,_,rfl,rfl,sf1 _ _ hp4,af,(by rw [List.length_map];show ps.length+1≤2 ^ 24;omega),fun F2 hF2=> ?_⟩
 have sf2:=aC.laid (o:= .lst (ps.map V.int++ [V.int ((total d:Nat):Int)])) hF2
 refine⟨F2,_,ps++ [((total d:Nat):Int)],rfl,aX.of (by rw [af,uo]),by rw [List.length_append];show ps.length+1≤1000;omega,fun z hz=> ?_,fun x H6 hx s6=> ?_⟩
 ·rcases List.mem_append.mp hz with q | q
  ·exact⟨PP.pos z q,PP.sz z q⟩
  ·rw [List.mem_singleton] at q
   rw [q]
   exact⟨by omega,tz.mono (by decide)⟩
 have iz:=Fr.qJ (f:=Class.part s v) (num:=fun c=>(c.part s v).num) (den:=fun c=>(((c.part s v).den:Nat):Int)) (k:=1) (b:=bt) (by decide) b0 D.ok.low (fun c hc=>by
  obtain⟨_,_,_,plow,_,_⟩:=nF (D.ok.cls c hc) okv s
  refine⟨?_,eR plow⟩
  rw [Int.one_mul]
  exact plow.iz) (fun c hc q=>by rw [←hbt];exact PP.dvd _ (List.mem_map.mpr ⟨c,by unfold taken;exact List.mem_filter.mpr ⟨hc,decide_eq_true q⟩,rfl⟩)) hW
 have e1:dO (ps++ [((total d:Nat):Int)])=1*bt*((total d:Nat):Int):=by rw [gy,hbt,Int.one_mul]
 rw [e1,←iz.eq] at hx
 exact k x H6 hx (((S5.trans sf1).trans sf2).trans s6)
open Vbdeab (Class Dist)
def DI (T:Tx K mg):Sp:=fun vs H Q _=>∃(av:List Addr) (a b:Addr) (d:Dist) (i u:Nat) (c:Nat×Class) (v:Vbdeab.Q) (s:Bool),vs= [.ref a,.int i,.int u,.ref b,.int (Fr.kX s)]∧dD T av H a d∧u<4294967296∧d[i]?=some c∧0<c.1∧Vbdeab.M*Fr.cD d i≤u*total d∧ir T H b v∧gH v∧∀(H':Hp),aC H H'→Q (.bl (Fr.dN s v (total d) c.1 c.2 (Fr.cD d i) u)) H'
theorem pT (T:Tx K mg):cM P w base T.qP 5 (DI T):=by
 refine T.qP.okA xh ?_
 rintro _ A _ s H _ Q E hr ⟨av,a,b,d,i,u,c,v,s,rfl,hD,hu,hc,hw0,hge,hb,okv,k⟩
 refine⟨_,(ac (aW 5 xh.nd (wB (pv 0) T.cV (e8 T) hr (ab (pv 1) (ab (pv 2) ad))))
   (ac (aQ (aO oR (pv 4) am (aV _)) (ae (aj (wB (pv 5) T.c8 (dL T) hr (ab (pv 3) ad)))) aE)
   (ae (aj (KT (wB (pv 3) T.c8 (dL T) hr (ab (pv 5) ad))))))),?_⟩
 obtain⟨dx,wl,sl,bl,el,as,D⟩:=id hD
 obtain⟨v1,v2⟩:=bZ okv.1
 refine⟨_,rfl,a,dx,_,rfl,D.inst,rfl,_,rfl,_,rfl,av,a,d,i,u,c,rfl,hD,hu,hc,hw0,hge,fun z H1 hz s1=> ?_⟩
 obtain⟨n,m,hrt,iz,nz,mz⟩:=hz
 obtain⟨dz,hrt'⟩:=id hrt
 have hb1:=hb.same s1
 obtain⟨db,hb'⟩:=id hb1
 have k1:=k H1 s1
 unfold Fr.dN Vbdeab.under at k1
 have c1:=iz.lt_iff okv.2.iz
 have c2:=iz.le_iff okv.2.iz
 cases s with
 | true=>
  rw [if_pos rfl] at k1
  refine⟨_,rfl,rfl,_,rfl,gY ⟨_,rfl,z,dz,_,rfl,hrt',rfl,_,rfl,z,b,n,m,_,_,rfl,hrt,hb1,bo nz v2,bo v1 mz,?_⟩⟩
  have e:decide (n*(v.den:Int)<v.num*m)=(along c.1 c.2 (u*total d - Vbdeab.M*Fr.cD d i)).lt v:=by
   by_cases q:n*(v.den:Int)<v.num*m
   ·rw [decide_eq_true q,c1.mpr q]
   ·rw [decide_eq_false q]
    cases e:(along c.1 c.2 (u*total d - Vbdeab.M*Fr.cD d i)).lt v with
    | false=>rfl
    | true=>exact absurd (c1.mp e) q
  rw [e]
  exact k1
 | false=>
  rw [if_neg (by decide)] at k1
  refine⟨_,rfl,rfl,_,rfl,?_⟩
  refine⟨_,rfl,b,db,_,rfl,hb',rfl,_,rfl,b,z,_,_,n,m,rfl,hb1,hrt,bo v1 mz,bo nz v2,_,rfl,?_⟩
  have e:(!decide (v.num*m<n*(v.den:Int)))=(along c.1 c.2 (u*total d - Vbdeab.M*Fr.cD d i)).le v:=by
   by_cases q:v.num*m<n*(v.den:Int)
   ·rw [decide_eq_true q]
    cases e:(along c.1 c.2 (u*total d - Vbdeab.M*Fr.cD d i)).le v with
    | false=>rfl
    | true=>exact absurd (c2.mp e) (by omega)
   ·rw [decide_eq_false q,c2.mpr (by omega)]
    rfl
  rw [e]
  exact k1
open Vbdeab (Class Dist)
def tJ (T:Tx K mg):Sp:=fun vs H Q _=>∃(av:List Addr) (a b:Addr) (d:Dist) (i:Nat) (c:Nat×Class) (v:Vbdeab.Q) (s:Bool),vs= [.ref a,.int i,.int (ceilDiv (Vbdeab.M*Fr.cD d i) (total d):Nat),.ref b,.int (Fr.kX s)]∧dD T av H a d∧d[i]?=some c∧ceilDiv (Vbdeab.M*Fr.cD d i) (total d)<ceilDiv (Vbdeab.M*Fr.cD d (i+1)) (total d)∧ir T H b v∧gH v∧∀(H':Hp),aC H H'→Q (.int (Vbdeab.countGood (Fr.dN s v (total d) c.1 c.2 (Fr.cD d i)) c.2.rises (ceilDiv (Vbdeab.M*Fr.cD d i) (total d)) (ceilDiv (Vbdeab.M*Fr.cD d (i+1)) (total d)):Nat)) H'
theorem sM (T:Tx K mg):cM P w base T.jD 6 (tJ T):=by
 refine T.jD.okA bN ?_
 rintro _ A _ s H _ Q E hr ⟨av,a,b,d,i,c,v,s,rfl,hD,hc,hlt,hb,okv,k⟩
 refine⟨_,(ac (aW 5 bN.nd (fP (ao (pv 0) rfl) (pv 1)))
   (ac (aW 6 bN.nd (pv 2))
   (ac (aW 7 bN.nd (aB bI (pv 5) am))
   (ac (aW 8 bN.nd (be T.qP (pT T) hr (ab (pv 0) (ab (pv 1) (ab (pv 6) (ab (pv 3) (ab (pv 4) ad)))))))
   (ac (aQ (aO oR (pv 8) (be T.qP (pT T) hr (ab (pv 0) (ab (pv 1) (ab (pv 7) (ab (pv 3) (ab (pv 4) ad)))))) (aV _)) (ae (aj (uF (aP (pv 8)) (aB bI (pv 5) (pv 2)) am))) aE)
   (ac (jk PassesOwn.never (aO rP (aB bI (pv 7) (pv 6)) am (aV _)) (ac (aW 9 bN.nd (aB bV (aB bG (pv 6) (pv 7)) am))
   (ae (aQ (aO oR (be T.qP (pT T) hr (ab (pv 0) (ab (pv 1) (ab (pv 9) (ab (pv 3) (ab (pv 4) ad)))))) (pv 8) (aV _)) (ae (aW 6 bN.nd (pv 9))) (ae (aW 7 bN.nd (pv 9)))))))
   (ae (aj (uF (aP (pv 8)) (aB bI (pv 7) (pv 2)) (aB bI (pv 5) (pv 7))))))))))),?_⟩
 obtain⟨dx,wl,sl,bl,el,as,D⟩:=id hD
 have hi:=(List.getElem?_eq_some_iff.mp hc).1
 have hW:0<total d:=D.ok.tot1
 have okc:=D.ok.cls c (List.mem_of_getElem? hc)
 have hend:ceilDiv (Vbdeab.M*Fr.cD d (i+1)) (total d)≤4294967296:=by
  have h1:=Fr.vp (W:=total d) hW (Nat.mul_le_mul_left Vbdeab.M (iN d (i+1)))
  rw [Fr.F7 hW] at h1
  exact h1
 have hw0:0<c.1:=by
  rcases Nat.eq_zero_or_pos c.1 with q | q
  ·rw [Fr.gU hc,q,Nat.add_zero] at hlt
   omega
  ·exact q
 have hge:∀u,ceilDiv (Vbdeab.M*Fr.cD d i) (total d)≤u→Vbdeab.M*Fr.cD d i≤u*total d:=fun u h=>(Fr.jK hW).mp h
 have en:=ui (d:=d) hi
 have mono:=Fr.HL okc.2 hw0 okv.2 s (total d) (Fr.cD d i) (ceilDiv (Vbdeab.M*Fr.cD d i) (total d)) (ceilDiv (Vbdeab.M*Fr.cD d (i+1)) (total d))
 have same:= @Hv.count_same _ _ _ _ mono hlt
 have turn:=fun m=> @Hv.count_turn _ _ _ _ m mono
 generalize ceilDiv (Vbdeab.M*Fr.cD d i) (total d)=lo at*
 generalize ceilDiv (Vbdeab.M*Fr.cD d (i+1)) (total d)=hi' at*
 have f64:hi' - lo<2 ^ 64:=by
  have:(4294967296:Nat)<2 ^ 64:=by decide
  omega
 have e1:((hi':Nat):Int) - 1=((hi' - 1:Nat):Int):=by omega
 refine⟨_,rfl,a,_,dx,_,_,rfl,D.inst,T.ai.cl,T.ai.no _ (by decide),rfl,_,rfl,el,_,_,_,rfl,rfl,aX.of D.e,m6 rfl en,?_⟩
 refine⟨_,rfl,_,rfl,_,_,rfl,rfl,?_⟩
 refine⟨_,rfl,_,rfl,_,rfl,_,rfl,_,rfl,av,a,b,d,i,lo,c,v,s,rfl,hD,by omega,hc,hw0,hge lo (Nat.le_refl _),hb,okv,fun H1 s1=> ?_⟩
 refine⟨_,rfl,_,rfl,_,rfl,_,rfl,_,rfl,_,rfl,av,a,b,d,i,hi' - 1,c,v,s,?_,hD.same s1,by omega,hc,hw0,hge (hi' - 1) (by omega),hb.same s1,okv,fun H2 s2=> ?_⟩
 ·show [V.ref a,V.int i,V.int (((hi':Nat):Int) - 1),V.ref b,V.int (Fr.kX s)]++ []=_
  rw [e1]
  rfl
 have S2:=s1.trans s2
 refine⟨rfl,_,rfl,aU (fun he=> ?_) (fun he=> ?_)⟩
 ·have he':Fr.dN s v (total d) c.1 c.2 (Fr.cD d i) lo=Fr.dN s v (total d) c.1 c.2 (Fr.cD d i) (hi' - 1):=V.bl.inj (of_decide_eq_true he)
  have cs:=same f64 he'
  rw [cs] at k
  refine⟨_,rfl,_,rfl,aU (fun h1=> ?_) (fun h1=> ?_)⟩
  ·rw [if_pos h1] at k
   refine⟨_,rfl,_,rfl,_,_,rfl,rfl,?_⟩
   have k2:=k H2 S2
   rw [Int.natCast_sub (by omega)] at k2
   exact k2
  ·rw [if_neg h1] at k
   exact k H2 S2
 ·have he':¬Fr.dN s v (total d) c.1 c.2 (Fr.cD d i) lo=Fr.dN s v (total d) c.1 c.2 (Fr.cD d i) (hi' - 1):=fun q=>he (decide_eq_true (congrArg V.bl q))
  have hlast:Fr.dN s v (total d) c.1 c.2 (Fr.cD d i) (hi' - 1)= !Fr.dN s v (total d) c.1 c.2 (Fr.cD d i) lo:=by cases e1:Fr.dN s v (total d) c.1 c.2 (Fr.cD d i) lo<;>cases e2:Fr.dN s v (total d) c.1 c.2 (Fr.cD d i) (hi' - 1)<;>first | rfl | (rw [e1,e2] at he';exact absurd rfl he')
  have hne:lo≠hi' - 1:=fun q=>he' (by rw [←q])
  refine⟨fun m σ H'=>∃(l h:Nat) (x:Option V),m=h - l∧σ= [some (.ref a),some (.int i),some (.int (lo:Nat)),some (.ref b),some (.int (Fr.kX s)),some (.int (hi':Nat)),some (.int (l:Nat)),some (.int (h:Nat)),some (.bl (Fr.dN s v (total d) c.1 c.2 (Fr.cD d i) lo)),x]∧lo≤l∧l<h∧h<hi'∧Fr.dN s v (total d) c.1 c.2 (Fr.cD d i) l=Fr.dN s v (total d) c.1 c.2 (Fr.cD d i) lo∧Fr.dN s v (total d) c.1 c.2 (Fr.cD d i) h=(!Fr.dN s v (total d) c.1 c.2 (Fr.cD d i) lo)∧aC H H',⟨hi' - 1 - lo,lo,hi' - 1,none,rfl,(by rw [←e1];rfl),Nat.le_refl _,by omega,by omega,rfl,hlast,S2⟩,?_⟩
  rintro m σ H3 ⟨l,h,x,rfl,rfl,l1,l2,l3,gl,gh,s3⟩
  refine⟨_,rfl,_,rfl,_,_,rfl,rfl,_,_,rfl,rfl,_,rfl,aU (fun ht=>⟨_,fun _ _ z=>z,?_⟩) (fun ht=> ?_)⟩
  ·have ht':1<h - l:=by have:=of_decide_eq_true ht;omega
   have em:((l:Int)+(h:Int)) /2=(((l+h) /2:Nat):Int):=by omega
   refine⟨_,rfl,_,rfl,_,_,rfl,rfl,_,_,rfl,rfl,⟨by decide,by decide+kernel⟩,?_⟩
   refine⟨_,rfl,_,rfl,_,rfl,_,rfl,_,rfl,av,a,b,d,i,(l+h) /2,c,v,s,?_,hD.same s3,by omega,hc,hw0,hge ((l+h) /2) (by omega),hb.same s3,okv,fun H4 s4=> ?_⟩
   ·show [V.ref a,V.int i,V.int (((l:Int)+(h:Int)) /2),V.ref b,V.int (Fr.kX s)]++ []=_
    rw [em]
    rfl
   refine⟨_,rfl,rfl,_,rfl,aU (fun h2=> ?_) (fun h2=> ?_)⟩
   ·have h2':Fr.dN s v (total d) c.1 c.2 (Fr.cD d i) ((l+h) /2)=Fr.dN s v (total d) c.1 c.2 (Fr.cD d i) lo:=V.bl.inj (of_decide_eq_true h2)
    exact⟨_,rfl,h - (l+h) /2,by omega,(l+h) /2,h,_,rfl,(by rw [←em];rfl),by omega,by omega,l3,h2',gh,s3.trans s4⟩
   ·have h2':¬Fr.dN s v (total d) c.1 c.2 (Fr.cD d i) ((l+h) /2)=Fr.dN s v (total d) c.1 c.2 (Fr.cD d i) lo:=fun q=>h2 (decide_eq_true (congrArg V.bl q))
    have h2'':Fr.dN s v (total d) c.1 c.2 (Fr.cD d i) ((l+h) /2)= !Fr.dN s v (total d) c.1 c.2 (Fr.cD d i) lo:=by cases e1:Fr.dN s v (total d) c.1 c.2 (Fr.cD d i) lo<;>cases e2:Fr.dN s v (total d) c.1 c.2 (Fr.cD d i) ((l+h) /2)<;>first | rfl | (rw [e1,e2] at h2';exact absurd rfl h2')
    exact⟨_,rfl,(l+h) /2 - l,by omega,l,(l+h) /2,_,rfl,(by rw [←em];rfl),l1,by omega,by omega,gl,h2'',s3.trans s4⟩
  ·have ht':¬(1:Int)<(h:Int) - (l:Int):=fun q=>ht (decide_eq_true q)
   have e:h=l+1:=by omega
   subst e
   have ct:=turn l l1 l3 f64 gl gh
   rw [ct] at k
   refine⟨_,rfl,_,rfl,aU (fun h1=> ?_) (fun h1=> ?_)⟩
   ·rw [if_pos h1] at k
    refine⟨_,rfl,_,rfl,_,_,rfl,rfl,?_⟩
    have k2:=k H3 s3
    rw [Int.natCast_sub (by omega)] at k2
    exact k2
   ·rw [if_neg h1] at k
    refine⟨_,rfl,_,rfl,_,_,rfl,rfl,?_⟩
    have k2:=k H3 s3
    rw [Int.natCast_sub (by omega)] at k2
    exact k2
open Vbdeab (Class Dist)
def xT (T:Tx K mg):Sp:=fun vs H Q _=>∃(av:List Addr) (a b:Addr) (d:Dist) (v:Vbdeab.Q) (s:Bool),vs= [.ref a,.ref b,.int (Fr.kX s)]∧dD T av H a d∧ir T H b v∧gH v∧∀(H':Hp),aC H H'→Q (.int (Vbdeab.hits s v d:Nat)) H'
theorem xC (T:Tx K mg):cM P w base T.oB 7 (xT T):=by
 refine T.oB.okA cW ?_
 rintro _ A _ s H _ Q E hr ⟨av,a,b,d,v,s,rfl,hD,hb,okv,k⟩
 refine⟨_,(ac (aW 3 cW.nd am)
   (ac (aW 4 cW.nd am)
   (ac (cZ PassesOwn.never rfl (bR rfl T.cr (ab (a5 aT (by rfl) T.eV PySem.boot_len (ab (ao (pv 0) rfl) ad)) ad)) (i9 5 cW.nd) (ac (aW 6 cW.nd (fP (ao (pv 0) rfl) (pv 5)))
   (ac (aQ (aO jj (pv 4) (pv 6) (aV _)) (ae (lN (i:=3) cW.nd rfl (Or.inl rfl) (be T.jD (sM T) hr (ab (pv 0) (ab (pv 5) (ab (pv 4) (ab (pv 1) (ab (pv 2) ad)))))) j8)) aE)
   (ae (aW 4 cW.nd (pv 6))))))
   (ae (aj (pv 3)))))),?_⟩
 obtain⟨dx,wl,sl,bl,el,as,D⟩:=id hD
 have hW:0<total d:=D.ok.tot1
 have hlen:(cH (uh (d.map fun c=>c.1))).length=d.length:=by rw [a9,uj,List.length_map]
 have dl:=D.ok.len2
 have hE:=D.e
 generalize hL:cH (uh (d.map fun c=>c.1))=EL at*
 have b1: -(2 ^ 62)≤(EL.length:Int):=by rw [hlen];omega
 have b2:(EL.length:Int)<2 ^ 62:=by rw [hlen];omega
 refine⟨_,rfl,a,_,dx,_,_,rfl,D.inst,T.ai.cl,T.ai.no _ (by decide),rfl,el,EL,rfl,.inl (aX.of hE),(EL.length:Int),rfl,b1,b2,fy (n:=(EL.length:Int).toNat) (fun i σ H'=>i≤d.length∧∃(v1 v2:Option V) (f:Nat),σ= [some (.ref a),some (.ref b),some (.int (Fr.kX s)),some (.int (f:Nat)),some (.int (ceilDiv (Vbdeab.M*Fr.cD d i) (total d):Nat)),v1,v2]∧Vbdeab.hits s v d=f+Fr.yH s v d i∧aC H H') ⟨Nat.zero_le _,none,none,0,?_,by rw [Nat.zero_add];exact Fr.Ei s v d,aC.refl' H⟩ ?_ ?_⟩
 ·rw [Fr.pG,Nat.mul_zero,Fr.AM _ hW]
  rfl
 ·rintro i σ H1 hi ⟨_,v1,v2,f,rfl,hf,s1⟩
  rw [Int.toNat_natCast,hlen] at hi
  obtain⟨c,hc⟩:∃c,d[i]?=some c:=⟨_,List.getElem?_eq_getElem hi⟩
  have ht:=Fr.Gg (strict:=s) (v:=v) (w:=c.1) (c:=c.2) hc
  have hm:ceilDiv (Vbdeab.M*Fr.cD d i) (total d)≤ceilDiv (Vbdeab.M*Fr.cD d (i+1)) (total d):=Fr.vp hW (Nat.mul_le_mul_left Vbdeab.M (Fr.Ee (d:=d) (by omega)))
  refine⟨_,rfl,a,_,dx,_,_,rfl,(s1 _ _ D.inst),T.ai.cl,T.ai.no _ (by decide),rfl,_,rfl,el,_,_,_,rfl,rfl,aX.of (s1 _ _ D.e),m6 (Int.zero_add _) (ui hi),?_⟩
  refine⟨_,rfl,_,rfl,_,_,rfl,rfl,_,rfl,aU (fun h1=> ?_) (fun h1=> ?_)⟩
  ·have h1':ceilDiv (Vbdeab.M*Fr.cD d i) (total d)<ceilDiv (Vbdeab.M*Fr.cD d (i+1)) (total d):=by have:=of_decide_eq_true h1;omega
   refine⟨_,rfl,_,rfl,_,rfl,_,rfl,_,rfl,_,rfl,av,a,b,d,i,c,v,s,?_,hD.same s1,hc,h1',hb.same s1,okv,fun H2 s2=> ?_⟩
   ·show [V.ref a,V.int (0+(i:Int)),V.int (ceilDiv (Vbdeab.M*Fr.cD d i) (total d):Nat),V.ref b,V.int (Fr.kX s)]++ []=_
    rw [Int.zero_add]
    rfl
   refine⟨_,_,rfl,rfl,?_⟩
   refine⟨_,rfl,hi,some (.int (0+(i:Int))),some (.int (ceilDiv (Vbdeab.M*Fr.cD d (i+1)) (total d):Nat)),f+Vbdeab.countGood (Fr.dN s v (total d) c.1 c.2 (Fr.cD d i)) c.2.rises (ceilDiv (Vbdeab.M*Fr.cD d i) (total d)) (ceilDiv (Vbdeab.M*Fr.cD d (i+1)) (total d)),?_,?_,s1.trans s2⟩
   ·rw [Int.natCast_add]
    rfl
   ·rw [hf,ht,Nat.add_assoc]
  ·have h1':¬((ceilDiv (Vbdeab.M*Fr.cD d i) (total d):Nat):Int)<((ceilDiv (Vbdeab.M*Fr.cD d (i+1)) (total d):Nat):Int):=fun q=>h1 (decide_eq_true q)
   have e:ceilDiv (Vbdeab.M*Fr.cD d (i+1)) (total d)=ceilDiv (Vbdeab.M*Fr.cD d i) (total d):=by omega
   rw [e,Fr.CG,Nat.zero_add] at ht
   exact⟨_,rfl,hi,_,_,f,rfl,by rw [hf,ht],s1⟩
 ·rintro σ H1 ⟨_,v1,v2,f,rfl,hf,s1⟩
  rw [Int.toNat_natCast,hlen,Fr.HM,Nat.add_zero] at hf
  rw [hf] at k
  exact⟨_,rfl,k H1 s1⟩
open Vbdeab (Class Dist)
def iy (l:List Int):Prop:=∀x∈l,Sz 140 x
theorem mY {l:List Int} {i:Nat} (h:i<l.length):l[i]?=some (l.getD i 0):=by
 rw [List.getD_eq_getElem?_getD,List.getElem?_eq_getElem h]
 rfl
theorem iy.at {l:List Int} (h:iy l) (i:Nat):Sz 140 (l.getD i 0):=by
 rw [List.getD_eq_getElem?_getD]
 cases e:l[i]? with
 | none=>show(0:Int).natAbs<_;exact Nat.two_pow_pos _
 | some x=>exact h x (List.mem_of_getElem? e)
theorem cg {l:List Int} {i:Nat} {z:Int} {k:Int} (e:k=(i:Int)) (h:l[i]?=some z):He (l.map V.int) k=some (V.int z):=rL e (by rw [List.getElem?_map,h];rfl)
theorem gH.int {z:Int} (h:z.natAbs≤Vbdeab.BIG):gH (Vbdeab.ofInt z):=⟨Kd.pP h,(Fr.Iz.ofInt z).lowQ⟩
theorem gH.zero:gH ⟨0,1⟩:=⟨by decide,by decide,by decide⟩
theorem gH.one:gH ⟨1,1⟩:=⟨by decide,by decide,by decide⟩
def Aw (T:Tx K mg):Sp:=fun vs H Q _=>∃(a:Addr) (b:List Int) (j:Nat),vs= [.ref a,.int j]∧aX K H a (b.map V.int)∧iy b∧j+1<b.length∧∀(v:V) (H':Hp),OQ T H' v (Kd.aR b j)→aC H H'→Q v H'
theorem f8 (T:Tx K mg):cM P w base T.gD 5 (Aw T):=by
 refine T.gD.okA Aq ?_
 rintro _ A _ s H _ Q E hr ⟨a,b,j,rfl,hs,hz,hj,k⟩
 refine⟨_,(ae (aj (be T.b7 (bQ T) hr (ab (fP (pv 0) (pv 1)) (ab (fP (pv 0) (aB bG (pv 1) am)) ad))))),?_⟩
 exact⟨_,rfl,_,rfl,a,_,_,_,rfl,rfl,hs,cg rfl (mY (show j<b.length by omega)),_,rfl,_,rfl,_,_,rfl,rfl,a,_,_,_,rfl,rfl,hs,cg (i:=j+1) rfl (mY hj),_,_,rfl,(hz.at _).mono (by decide),k⟩
def EN (T:Tx K mg):Sp:=fun vs H Q _=>∃(u:V) (x:Option Vbdeab.Q),vs= [u]∧OQ T H u x∧(∀q,x=some q→gH q)∧∀(r:V) (H':Hp),Br T H' r (Kd.pW x)→aC H H'→Q r H'
theorem sS (T:Tx K mg):cM P w base T.vj 6 (EN T):=by
 refine T.vj.okA EG ?_
 rintro _ A _ s H _ Q E hr ⟨u,x,rfl,hu,hx,k⟩
 refine⟨_,(ae (aj (be T.jZ (jM T) hr (ab (pv 0) (ab (xq T.bf (a6 T) hr (ab am (ab am ad))) (ab am ad)))))),?_⟩
 refine⟨_,rfl,?_⟩
 intro z dz nz nd _
 refine cn nz nd (fun H2 e2 s2=> ?_) ⟨0,1,rfl,rfl⟩
 refine⟨u,.ref z,x,some ⟨0,1⟩,1,rfl,hu.same s2,⟨z,rfl,dz,e2⟩,hx,fun q hq=>by cases hq;exact gH.zero,fun r H3 o3 s3=> ?_⟩
 have e:Kd.k6 x (some ⟨0,1⟩) 1=Kd.pW x:=by cases x<;>rfl
 rw [e] at o3
 exact k r H3 o3 (s2.trans s3)
def xY (T:Tx K mg):Sp:=fun vs H Q _=>∃(x y:Int),vs= [.int x,.int y]∧∀(r:V) (H':Hp),Br T H' r (Kd.iZ x y)→aC H H'→Q r H'
theorem oQ (T:Tx K mg):cM P w base T.jP 6 (xY T):=by
 refine T.jP.okA xL ?_
 rintro _ A _ s H _ Q E hr ⟨x,y,rfl,k⟩
 refine⟨_,(ac (aQ (jn (fI (aS (aP (be T.fu (eh T) hr (ab (pv 0) ad)))) (fI (aS (aP (be T.fu (eh T) hr (ab (pv 1) ad)))) (fN (aO rP (pv 0) (pv 1) (aV _)))))) (ae (aj ck)) aE)
   (ae (aj (be T.jZ (jM T) hr (ab (xq T.bf (a6 T) hr (ab (pv 0) (ab am ad))) (ab (xq T.bf (a6 T) hr (ab am (ab am ad))) (ab (aB bG (aB bI (pv 1) (pv 0)) am) ad))))))),?_⟩
 have nb:∀z:Int,z.natAbs≤Vbdeab.BIG↔(-1000000000000000000≤z∧z≤1000000000000000000):=fun z=>by rw [Kd.lI];omega
 have bad:¬(x≤y∧x.natAbs≤Vbdeab.BIG∧y.natAbs≤Vbdeab.BIG)→Q .non H:=fun q=>by
  have e:Kd.iZ x y=none:=by unfold Kd.iZ;rw [if_neg fun z=>q ⟨z.1,z.2.1,z.2.2.1⟩]
  rw [e] at k
  exact k .non H rfl (aC.refl' H)
 refine⟨_,rfl,x,rfl,_,rfl,aU (fun h1=> ?_) (fun h1=> ?_)⟩
 ·exact gY (bad fun q=>ma h1 ((nb _).mp q.2.1))
 ·refine⟨_,rfl,y,rfl,_,rfl,aU (fun h2=> ?_) (fun h2=> ?_)⟩
  ·exact gY (bad fun q=>ma h2 ((nb _).mp q.2.2))
  ·refine⟨_,rfl,_,rfl,_,_,rfl,rfl,_,rfl,aU (fun h3=> ?_) (fun h3=> ?_)⟩
   ·have h3':y<x:=of_decide_eq_true h3
    exact bad fun q=>by have:=q.1;omega
   ·have h3':¬y<x:=fun q=>h3 (decide_eq_true q)
    have hx:=(nb x).mpr (md h1)
    refine⟨_,rfl,?_⟩
    intro z dz nz nd _
    refine cn nz nd (fun H2 e2 s2=> ?_) ⟨x,1,rfl,rfl⟩
    intro z3 dz3 nz3 nd3 _
    refine cn nz3 nd3 (fun H3 e3 s3=> ?_) ⟨1,1,rfl,rfl⟩
    refine⟨_,rfl,_,rfl,_,_,rfl,rfl,_,_,rfl,rfl,.ref z,.ref z3,some (Vbdeab.ofInt x),some ⟨1,1⟩,y - x+1,rfl,⟨z,rfl,dz,s3 _ _ e2⟩,⟨z3,rfl,dz3,e3⟩,fun q hq=>by cases hq;exact gH.int hx,fun q hq=>by cases hq;exact gH.one,fun r H4 o4 s4=> ?_⟩
    have e:Kd.k6 (some (Vbdeab.ofInt x)) (some ⟨1,1⟩) (y - x+1)=Kd.iZ x y:=by
     unfold Kd.k6 Kd.iZ
     simp only
     by_cases c:y - x+1≤1000000000000000000
     ·rw [if_pos ⟨by omega,c⟩,if_pos ⟨by omega,hx,(nb y).mpr (md h2),c⟩]
     ·rw [if_neg fun q=>c q.2,if_neg fun q=>c q.2.2.2]
    rw [e] at o4
    exact k r H4 o4 ((s2.trans s3).trans s4)
def wq (T:Tx K mg):Sp:=fun vs H Q _=>∃(av:List Addr) (wl:Addr) (first:Nat) (ws:List Nat),vs= [.int first,.ref wl]∧H wl=some (.lst (cH ws))∧first≤100∧ws.length≤100∧wl ∉ av∧(∀b∈av,H b≠none)∧∀(v:V) (H':Hp),gG T av H' v (Kd.ub (nats ws) (Kd.eT first ws.length))→aC H H'→Q v H'
theorem fA (T:Tx K mg):cM P w base T.eD 7 (wq T):=by
 refine T.eD.okA iV ?_
 rintro _ A _ s H _ Q E hr ⟨av,wl,first,ws,rfl,hw,h1,h2,nw,hav,k⟩
 refine⟨_,(ac (pZ (i:=3) (own:= [("i",2)]) rfl iV.nd rfl rfl (ve rfl rfl rfl rfl) (bR rfl T.cr (ab (a5 aT (by rfl) T.eV PySem.boot_len (ab (pv 1) ad)) ad)) (bK (N:= ["first","weights","i","shapes"]) (sc:=ag jy) (by decide+kernel)) (fun _ _ _ _ _=>(i9 2 iV.nd)) (fun _ _ _ _ _=>cQ) (fun _ _ _ _ _=>(be T.vj (sS T) hr (ab (BT (T.aA.mk' T.bf) (a6 T) (hr.mono (by decide)) rfl T.aA.mgC T.bf.b .nil wU (ab (aB bG (pv 0) (pv 2)) (ab am ad))) ad))))
   (ae (aj (be T.bY (ca T) hr (ab (pv 1) (ab (pv 3) ad)))))),?_⟩
 refine⟨_,rfl,wl,_,rfl,.inl (aX.of hw),_,rfl,by omega,by rw [a9];omega,fun L hL=>eY (n:=((cH ws).length:Int).toNat) (fun i H'=>i≤ws.length∧∃acc,H' L=some (.lst acc)∧gP T H' acc (Kd.eT first i)∧aC H H') ⟨Nat.zero_le _,[],af,⟨rfl,fun i v o h _=>by cases i<;>cases h⟩,aC.laid hL⟩ ?_ ?_⟩
 ·rintro i H1 hi ⟨_,acc,hA,hO,sm⟩
  rw [Int.toNat_natCast,a9] at hi
  refine⟨rfl,_,rfl,_,rfl,_,_,rfl,rfl,?_⟩
  intro z dz nz nd _
  refine cn nz nd (fun H2 e2 s2=> ?_) ⟨_,1,rfl,rfl⟩
  have ez:(first:Int)+(0+(i:Int))=((first+i:Nat):Int):=by omega
  rw [ez] at e2
  refine⟨.ref z,some (Vbdeab.ofNat (first+i)),rfl,⟨z,rfl,dz,e2⟩,fun q hq=>by cases hq;exact gH.int (z:=((first+i:Nat):Int)) (by rw [Kd.lI];omega),fun r H3 o3 s3=> ?_⟩
  have S:=s2.trans s3
  have hA3:=S _ _ hA
  refine⟨acc,hA3,?_,hi,_,af,?_,fun q o e=> ?_⟩
  ·rw [hO.1]
   unfold Kd.eT
   rw [List.length_map,List.length_range]
   show i<2 ^ 24
   omega
  ·have e:Kd.eT first (i+1)=Kd.eT first i++ [some (point (Vbdeab.ofNat (first+i)))]:=by unfold Kd.eT;rw [gz]
   rw [e]
   exact((hO.si (aC.i S)).snoc o3).si (fH.lst hA3)
  ·rw [ak (aw e hL)]
   exact S _ _ (sm _ _ e)
 ·rintro H1 ⟨_,acc,hA,hO,sm⟩
  rw [Int.toNat_natCast,a9] at hO
  refine⟨_,rfl,_,rfl,av,wl,L,nats ws,acc,_,rfl,sm _ _ hw,hA,hO,?_,?_,nw,de hav hL,fun q hq z=> ?_,fun r H5 o5 s5=>k r H5 o5 (sm.trans s5)⟩
  ·unfold Kd.eT nats
   rw [List.length_map,List.length_range,List.length_map]
  ·unfold nats
   rw [List.length_map]
   omega
  ·cases z2:H q with
   | none=>exact hav q hq z2
   | some o=>rw [sm _ _ z2] at z;cases z
theorem vL {p:Nat} (h:p≤100):∀i,Sz (7*i+1) ((p ^ i:Nat):Int)
 | 0=>by rw [Nat.pow_zero];decide
 | i+1=>by
  rw [Nat.pow_succ,Int.natCast_mul]
  exact(vL h i).mul (dh (Nat.lt_of_le_of_lt h (by decide)):Sz 7 _) (by omega)
def EO (T:Tx K mg):Sp:=fun vs H Q _=>∃(p e:Nat),vs= [.int p,.int e]∧p≤100∧e≤100∧Q (.int ((p ^ e:Nat):Int)) H
theorem ke (T:Tx K mg):cM P w base T.oE 1 (EO T):=by
 refine T.oE.okA nW ?_
 rintro _ A _ s H _ Q E hr ⟨p,e,rfl,hp,he,k⟩
 refine⟨_,(ac (aW 2 nW.nd am)
   (ac (cZ PassesOwn.never rfl (bR rfl T.cr (ab (pv 1) ad)) (i9 3 nW.nd) (ae (aW 2 nW.nd (aB aH (pv 2) (pv 0)))))
   (ae (aj (pv 2))))),?_⟩
 refine⟨_,rfl,e,rfl,by omega,by omega,fy (n:=(e:Int).toNat) (fun i σ H'=>H'=H∧∃v:Option V,σ= [some (.int p),some (.int e),some (.int ((p ^ i:Nat):Int)),v]) ⟨rfl,none,rfl⟩ ?_ ?_⟩
 ·rintro i σ H1 hi ⟨rfl,v,rfl⟩
  exact⟨_,rfl,_,rfl,_,_,rfl,rfl,bo ((vL hp i).mono (n:=1000) (by omega)) (dh (Nat.lt_of_le_of_lt hp (by decide)):Sz 7 _),rfl,_,(by rw [Nat.pow_succ,Int.natCast_mul];rfl)⟩
 ·rintro σ H1 ⟨rfl,v,rfl⟩
  rw [Int.toNat_natCast]
  exact⟨_,rfl,k⟩
theorem jQ:∀n i,Vbdeab.choose n i≤2 ^ n
 | 0,0=>by decide
 | 0,i+1=>by rw [Cb.choose_zero_succ];exact Nat.zero_le _
 | n+1,0=>by rw [Cb.choose_zero];exact Nat.one_le_two_pow
 | n+1,i+1=>by
  rw [Cb.choose_succ,Nat.pow_succ]
  have h1:=jQ n i
  have h2:=jQ n (i+1)
  omega
def GV (T:Tx K mg):Sp:=fun vs H Q _=>∃(n m:Nat),vs= [.int n,.int m]∧n≤100∧m≤100∧Q (.int ((Vbdeab.choose n m:Nat):Int)) H
theorem vH (T:Tx K mg):cM P w base T.z6 1 (GV T):=by
 refine T.z6.okA ra ?_
 rintro _ A _ s H _ Q E hr ⟨n,m,rfl,hn,hm,k⟩
 refine⟨_,(ac (aW 2 ra.nd am)
   (ac (cZ PassesOwn.never rfl (bR rfl T.cr (ab (pv 1) ad)) (i9 3 ra.nd) (ae (aW 2 ra.nd (aB bV (aB aH (pv 2) (aB bI (pv 0) (pv 3))) (aB bG (pv 3) am)))))
   (ae (aj (pv 2))))),?_⟩
 refine⟨_,rfl,m,rfl,by omega,by omega,fy (n:=(m:Int).toNat) (fun i σ H'=>H'=H∧∃v:Option V,σ= [some (.int n),some (.int m),some (.int ((Vbdeab.choose n i:Nat):Int)),v]) ⟨rfl,none,by rw [Cb.choose_zero];rfl⟩ ?_ ?_⟩
 ·rintro i σ H1 hi ⟨rfl,v,rfl⟩
  have cz:Sz 101 ((Vbdeab.choose n i:Nat):Int):=dh (Nat.lt_of_le_of_lt (jQ n i) (Nat.pow_lt_pow_right (by decide) (by omega)))
  have nz:Sz 10 ((n:Int) - (0+(i:Int))):=by show(_:Int).natAbs<1024;omega
  exact⟨_,rfl,_,rfl,_,rfl,_,_,rfl,rfl,_,_,rfl,rfl,bo cz nz,_,rfl,_,_,rfl,rfl,_,_,rfl,rfl,mV (by omega) (show Sz 9000 _ from(show Sz 10 (0+(i:Int)+1) by show(_:Int).natAbs<1024;omega).mono (by decide)),rfl,_,(by show [some (V.int n),some (V.int m),some (V.int (((Vbdeab.choose n i:Nat):Int)*((n:Int) - (0+(i:Int))) /(0+(i:Int)+1))),some (V.int (0+(i:Int)))]=_;rw [Int.zero_add,Kd.Ef])⟩
 ·rintro σ H1 ⟨rfl,v,rfl⟩
  rw [Int.toNat_natCast]
  exact⟨_,rfl,k⟩
def qD (T:Tx K mg):Sp:=fun vs H Q _=>∃(av:List Addr) (a:Addr) (p q:Int),vs= [.ref a]∧aX K H a ([p,q].map V.int)∧iy [p,q]∧(∀b∈av,H b≠none)∧∀(v:V) (H':Hp),gG T av H' v (checked (build 0 [p,q] []))→aC H H'→Q v H'
theorem yW (T:Tx K mg):cM P w base T.gN 7 (qD T):=by
 refine T.gN.okA zB ?_
 rintro _ A _ s H _ Q E hr ⟨av,a,p,q,rfl,hs,hz,hav,k⟩
 refine⟨_,(ae (aj (be T.bY (ca T) hr (ab (aG (ab am ad)) (ab (aG (ab (be T.vj (sS T) hr (ab (be T.b7 (bQ T) hr (ab (fP (pv 0) am) (ab (fP (pv 0) am) ad))) ad)) ad)) ad))))),?_⟩
 rw [Kd.Lx] at k
 refine⟨(by show 1≤sizeLine;decide),fun W hW=> ?_⟩
 have sW:=aC.laid (o:= .lst [.int 1]) hW
 refine⟨_,rfl,a,_,_,_,rfl,rfl,sW.seq hs,cg (i:=0) rfl rfl,_,rfl,a,_,_,_,rfl,rfl,sW.seq hs,cg (i:=1) rfl rfl,p,q,rfl,(hz q (by simp)).mono (by decide),fun u H1 o1 s1=> ?_⟩
 refine⟨u,_,rfl,o1,fun q hq=>k7 hq,fun r H2 o2 s2=> ?_⟩
 refine⟨(by show 1≤sizeLine;decide),fun L hL=> ?_⟩
 have sL:=aC.laid (o:= .lst [r]) hL
 have S:=(sW.trans s1).trans s2
 refine⟨av,W,L,[1],[r],[Kd.pW (Vbdeab.fraction p q)],rfl,sL _ _ (s2 _ _ (s1 _ _ af)),af,⟨rfl,fun i v o h1 h2=> ?_⟩,rfl,by decide,de hav hW,de hav (S.free hL),fun x hx z=> ?_,fun v H5 o5 s5=>k v H5 o5 ((S.trans sL).trans s5)⟩
 ·cases i with
  | zero=>cases h1;cases h2;exact o2.same sL
  | succ i=>cases i<;>cases h1
 ·cases z2:H x with
  | none=>exact hav x hx z2
  | some o=>rw [sL _ _ (S _ _ z2)] at z;cases z
def so (T:Tx K mg):Sp:=fun vs H Q _=>∃(av:List Addr) (a:Addr) (p q:Int),vs= [.ref a]∧aX K H a ([p,q].map V.int)∧(∀b∈av,H b≠none)∧∀(v:V) (H':Hp),gG T av H' v (checked (build 1 [p,q] []))→aC H H'→Q v H'
theorem Ai (T:Tx K mg):cM P w base T.i6 7 (so T):=by
 refine T.i6.okA Ap ?_
 rintro _ A _ s H _ Q E hr ⟨av,a,p,q,rfl,hs,hav,k⟩
 refine⟨_,(ae (aj (be T.bY (ca T) hr (ab (aG (ab am ad)) (ab (aG (ab (be T.jP (oQ T) hr (ab (fP (pv 0) am) (ab (fP (pv 0) am) ad))) ad)) ad))))),?_⟩
 rw [Kd.Ly] at k
 refine⟨(by show 1≤sizeLine;decide),fun W hW=> ?_⟩
 have sW:=aC.laid (o:= .lst [.int 1]) hW
 refine⟨_,rfl,a,_,_,_,rfl,rfl,sW.seq hs,cg (i:=0) rfl rfl,_,rfl,a,_,_,_,rfl,rfl,sW.seq hs,cg (i:=1) rfl rfl,p,q,rfl,fun r H2 o2 s2=> ?_⟩
 refine⟨(by show 1≤sizeLine;decide),fun L hL=> ?_⟩
 have sL:=aC.laid (o:= .lst [r]) hL
 have S:=sW.trans s2
 refine⟨av,W,L,[1],[r],[Kd.iZ p q],rfl,sL _ _ (s2 _ _ af),af,⟨rfl,fun i v o h1 h2=> ?_⟩,rfl,by decide,de hav hW,de hav (S.free hL),fun x hx z=> ?_,fun v H5 o5 s5=>k v H5 o5 ((S.trans sL).trans s5)⟩
 ·cases i with
  | zero=>cases h1;cases h2;exact o2.same sL
  | succ i=>cases i<;>cases h1
 ·cases z2:H x with
  | none=>exact hav x hx z2
  | some o=>rw [sL _ _ (S _ _ z2)] at z;cases z
def zL (T:Tx K mg):Sp:=fun vs H Q _=>∃n p q:Int,vs= [.int n,.int p,.int q]∧Q (.bl (decide ((0≤n∧n≤20)∧(1≤q∧q≤100)∧(0≤p∧p≤q)))) H
theorem pS (T:Tx K mg):cM P w base T.lG 2 (zL T):=by
 refine T.lG.okA zx ?_
 rintro _ A _ s H _ Q E hr ⟨n,p,q,rfl,k⟩
 refine⟨_,(ae (aj (Iq (be T.bE (a4 T) hr (ab (pv 0) (ab am (ab (dI T.Cs) ad)))) (Iq (be T.bE (a4 T) hr (ab (pv 2) (ab am (ab (dI T.vk) ad)))) (KU (be T.bE (a4 T) hr (ab (pv 1) (ab am (ab (pv 2) ad))))))))),?_⟩
 refine⟨_,rfl,n,0,20,rfl,_,rfl,aU (fun h1=> ?_) (fun h1=> ?_)⟩
 ·have h1':=of_decide_eq_true h1
  refine⟨_,rfl,q,1,100,rfl,_,rfl,aU (fun h2=> ?_) (fun h2=> ?_)⟩
  ·have h2':=of_decide_eq_true h2
   refine⟨_,rfl,_,rfl,p,0,q,rfl,?_⟩
   have e:decide ((0≤n∧n≤20)∧(1≤q∧q≤100)∧(0≤p∧p≤q))=decide (0≤p∧p≤q):=by
    by_cases c:0≤p∧p≤q
    ·rw [decide_eq_true c,decide_eq_true ⟨h1',h2',c⟩]
    ·rw [decide_eq_false c,decide_eq_false fun z=>c z.2.2]
   rw [e] at k
   exact k
  ·rw [decide_eq_false fun z=>h2 (decide_eq_true z.2.1)] at k
   exact k
 ·rw [decide_eq_false fun z=>h1 (decide_eq_true z.1)] at k
  exact k
open Vbdeab (Class Dist)
theorem ue {av:List Addr} {H H':Hp} (h:∀b∈av,H b≠none) (s:aC H H'):∀b∈av,H' b≠none:=fun b hb z=>by
 cases e:H b with
 | none=>exact h b hb e
 | some o=>rw [s _ _ e] at z;cases z
theorem IW (n p q:Nat):(Kd.E3 n p q).length=n+1:=by unfold Kd.E3;rw [List.length_map,List.length_range]
def qG (T:Tx K mg):Sp:=fun vs H Q _=>∃(av:List Addr) (a:Addr) (n p q:Int),vs= [.ref a]∧aX K H a ([n,p,q].map V.int)∧(∀b∈av,H b≠none)∧∀(v:V) (H':Hp),gG T av H' v (checked (build 6 [n,p,q] []))→aC H H'→Q v H'
theorem yY (T:Tx K mg):cM P w base T.gO 8 (qG T):=by
 refine T.gO.okA dP ?_
 rintro _ A _ s H _ Q E hr ⟨av,a,n,p,q,rfl,hs,hav,k⟩
 refine⟨_,(ac (aW 1 dP.nd (fP (pv 0) am))
   (ac (aW 2 dP.nd (fP (pv 0) am))
   (ac (aW 3 dP.nd (fP (pv 0) am))
   (ac (aQ (aS (aP (be T.lG (pS T) hr (ab (pv 1) (ab (pv 2) (ab (pv 3) ad)))))) (ae (aj ck)) aE)
   (ae (aj (be T.eD (fA T) hr (ab am (ab (iB (own:= [("i",4)]) rfl dP.nd (bR rfl T.cr (ab (aB bG (pv 1) am) ad)) (bK (N:= ["numbers","n","p","q","i"]) (sc:=ag lQ) (by decide+kernel)) (fun _ _ _ _ _=>(i9 4 dP.nd)) (fun _ _ _ _ _=>cQ) (fun _ _ _ _ _=>(aB aH (aB aH (be T.z6 (vH T) hr (ab (pv 1) (ab (pv 4) ad))) (be T.oE (ke T) hr (ab (pv 2) (ab (pv 4) ad)))) (be T.oE (ke T) hr (ab (aB bI (pv 3) (pv 2)) (ab (aB bI (pv 1) (pv 4)) ad)))))) ad))))))))),?_⟩
 rw [Kd.LD] at k
 refine⟨_,rfl,a,_,_,_,rfl,rfl,hs,cg (i:=0) rfl rfl,?_⟩
 refine⟨_,rfl,a,_,_,_,rfl,rfl,hs,cg (i:=1) rfl rfl,?_⟩
 refine⟨_,rfl,a,_,_,_,rfl,rfl,hs,cg (i:=2) rfl rfl,?_⟩
 refine⟨_,rfl,_,rfl,_,rfl,n,p,q,rfl,_,rfl,aU (fun h1=> ?_) (fun h1=> ?_)⟩
 ·rw [if_neg (ma h1)] at k
  exact k .non H rfl (aC.refl' H)
 ·have hc:=md h1
  rw [if_pos hc] at k
  obtain⟨N,rfl⟩:∃N:Nat,n=(N:Int):=⟨n.toNat,by omega⟩
  obtain⟨p',rfl⟩:∃N:Nat,p=(N:Int):=⟨p.toNat,by omega⟩
  obtain⟨q',rfl⟩:∃N:Nat,q=(N:Int):=⟨q.toNat,by omega⟩
  simp only [Int.toNat_natCast] at k
  have eN:(N:Int)+1=((N+1:Nat):Int):=by omega
  refine⟨_,rfl,_,_,rfl,rfl,_,rfl,by omega,by omega,fun L hL=>eY (n:=((N:Int)+1).toNat) (fun i H'=>i≤N+1∧H' L=some (.lst (cH ((List.range i).map fun j=>Vbdeab.choose N j*p' ^ j*(q' - p') ^ (N - j))))∧aC H H') ⟨Nat.zero_le _,af,aC.laid hL⟩ ?_ ?_⟩
  ·rintro i H1 hi ⟨_,hL1,sm⟩
   have hi':i<N+1:=by omega
   have cz:Sz 101 ((Vbdeab.choose N i:Nat):Int):=dh (Nat.lt_of_le_of_lt (jQ N i) (Nat.pow_lt_pow_right (by decide) (by omega)))
   have pz:=(vL (show p'≤100 by omega) i).mono (n:=1000) (by omega)
   have qz:=(vL (show q' - p'≤100 by omega) (N - i)).mono (n:=1000) (by omega)
   refine⟨rfl,_,rfl,_,rfl,N,i,by rw [Int.zero_add];rfl,by omega,by omega,_,rfl,_,rfl,p',i,by rw [Int.zero_add];rfl,by omega,by omega,_,_,rfl,rfl,bo cz pz,_,rfl,_,rfl,_,_,rfl,rfl,_,rfl,_,rfl,_,_,rfl,rfl,q' - p',N - i,?_,by omega,by omega,_,_,rfl,rfl,bo (cz.mul pz (k:=1101)) qz,_,hL1,(by rw [a9,List.length_map,List.length_range];show i<2 ^ 24;omega),hi',?_,fun b o e=> ?_⟩
   ·show [V.int ((q':Int) - (p':Int)),V.int ((N:Int) - (0+(i:Int)))]++ []=_
    rw [Int.zero_add,←Int.natCast_sub (by omega),←Int.natCast_sub (by omega)]
    rfl
   ·rw [af,gz,←eX,Int.natCast_mul,Int.natCast_mul]
   ·rw [ak (aw e hL)]
    exact sm b o e
  ·rintro H1 ⟨_,hL1,sm⟩
   rw [eN,Int.toNat_natCast] at hL1
   have hl:=IW N p' q'
   refine⟨av,L,0,Kd.E3 N p' q',rfl,hL1,by omega,by omega,de hav hL,ue hav sm,fun v H5 o5 s5=> ?_⟩
   rw [hl] at o5
   exact k v H5 o5 (sm.trans s5)
theorem IX (n p q:Nat):(Kd.Cp n p q).length=n+1:=by unfold Kd.Cp;rw [List.length_append,List.length_map,List.length_range];rfl
def sn (T:Tx K mg):Sp:=fun vs H Q _=>∃(av:List Addr) (a:Addr) (n p q:Int),vs= [.ref a]∧aX K H a ([n,p,q].map V.int)∧(∀b∈av,H b≠none)∧∀(v:V) (H':Hp),gG T av H' v (checked (build 7 [n,p,q] []))→aC H H'→Q v H'
theorem Ah (T:Tx K mg):cM P w base T.i3 8 (sn T):=by
 refine T.i3.okA eB ?_
 rintro _ A _ s H _ Q E hr ⟨av,a,n,p,q,rfl,hs,hav,k⟩
 refine⟨_,(ac (aW 1 eB.nd (fP (pv 0) am))
   (ac (aW 2 eB.nd (fP (pv 0) am))
   (ac (aW 3 eB.nd (fP (pv 0) am))
   (ac (aQ (aS (aP (be T.lG (pS T) hr (ab (pv 1) (ab (pv 2) (ab (pv 3) ad)))))) (ae (aj ck)) aE)
   (ac (pZ (i:=5) (own:= [("i",4)]) rfl eB.nd rfl rfl (ve rfl rfl rfl rfl) (bR rfl T.cr (ab (pv 1) ad)) (bK (N:= ["numbers","m","p","q","i","weights"]) (sc:=ag nM) (by decide+kernel)) (fun _ _ _ _ _=>(i9 4 eB.nd)) (fun _ _ _ _ _=>cQ) (fun _ _ _ _ _=>(aB aH (aB aH (pv 2) (be T.oE (ke T) hr (ab (aB bI (pv 3) (pv 2)) (ab (pv 4) ad)))) (be T.oE (ke T) hr (ab (pv 3) (ab (aB bI (aB bI (pv 1) am) (pv 4)) ad))))))
   (ae (aj (be T.eD (fA T) hr (ab am (ab (aB dF (pv 5) (aG (ab (be T.oE (ke T) hr (ab (aB bI (pv 3) (pv 2)) (ab (pv 1) ad))) ad))) ad)))))))))),?_⟩
 rw [Kd.LE] at k
 refine⟨_,rfl,a,_,_,_,rfl,rfl,hs,cg (i:=0) rfl rfl,?_⟩
 refine⟨_,rfl,a,_,_,_,rfl,rfl,hs,cg (i:=1) rfl rfl,?_⟩
 refine⟨_,rfl,a,_,_,_,rfl,rfl,hs,cg (i:=2) rfl rfl,?_⟩
 refine⟨_,rfl,_,rfl,_,rfl,n,p,q,rfl,_,rfl,aU (fun h1=> ?_) (fun h1=> ?_)⟩
 ·rw [if_neg (ma h1)] at k
  exact k .non H rfl (aC.refl' H)
 ·have hc:=md h1
  rw [if_pos hc] at k
  obtain⟨N,rfl⟩:∃N:Nat,n=(N:Int):=⟨n.toNat,by omega⟩
  obtain⟨p',rfl⟩:∃N:Nat,p=(N:Int):=⟨p.toNat,by omega⟩
  obtain⟨q',rfl⟩:∃N:Nat,q=(N:Int):=⟨q.toNat,by omega⟩
  simp only [Int.toNat_natCast] at k
  have p7:Sz 7 (p':Int):=dh (Nat.lt_of_le_of_lt (show p'≤100 by omega) (by decide))
  refine⟨_,rfl,_,rfl,by omega,by omega,fun L hL=>eY (n:=(N:Int).toNat) (fun i H'=>i≤N∧H' L=some (.lst (cH ((List.range i).map fun j=>p'*(q' - p') ^ j*q' ^ (N - 1 - j))))∧aC H H') ⟨Nat.zero_le _,af,aC.laid hL⟩ ?_ ?_⟩
  ·rintro i H1 hi ⟨_,hL1,sm⟩
   have hi':i<N:=by omega
   have pz:=(vL (show q' - p'≤100 by omega) i).mono (n:=1000) (by omega)
   have qz:=(vL (show q'≤100 by omega) (N - 1 - i)).mono (n:=1000) (by omega)
   refine⟨rfl,_,rfl,_,rfl,_,rfl,_,_,rfl,rfl,_,rfl,q' - p',i,?_,by omega,by omega,_,_,rfl,rfl,bo p7 pz,_,rfl,_,rfl,_,_,rfl,rfl,_,rfl,_,_,rfl,rfl,q',N - 1 - i,?_,by omega,by omega,_,_,rfl,rfl,bo (p7.mul pz (k:=1101)) qz,_,hL1,(by rw [a9,List.length_map,List.length_range];show i<2 ^ 24;omega),hi',?_,fun b o e=> ?_⟩
   ·show [V.int ((q':Int) - (p':Int)),V.int (0+(i:Int))]++ []=_
    rw [Int.zero_add,←Int.natCast_sub (by omega)]
    rfl
   ·show [V.int (q':Int),V.int ((N:Int) - 1 - (0+(i:Int)))]++ []=_
    rw [Int.zero_add,show(N:Int) - 1 - (i:Int)=((N - 1 - i:Nat):Int) by omega]
    rfl
   ·rw [af,gz,←eX,Int.natCast_mul,Int.natCast_mul]
   ·rw [ak (aw e hL)]
    exact sm b o e
  ·rintro H1 ⟨_,hL1,sm⟩
   rw [Int.toNat_natCast] at hL1
   have hl:=IX N p' q'
   refine⟨_,rfl,_,rfl,_,rfl,_,_,rfl,rfl,_,rfl,q' - p',N,?_,by omega,by omega,(by show 1≤sizeLine;decide),fun M1 hM1=> ?_⟩
   ·show [V.int ((q':Int) - (p':Int)),V.int (N:Int)]++ []=_
    rw [←Int.natCast_sub (by omega)]
    rfl
   have s1:=aC.laid (o:= .lst [V.int (((q' - p') ^ N:Nat):Int)]) hM1
   refine⟨L,M1,_,_,rfl,rfl,s1 _ _ hL1,af,(by rw [a9,List.length_map,List.length_range];show N+1≤2 ^ 24;omega),fun M2 hM2=> ?_⟩
   rw [eX] at*
   have s2:=aC.laid (o:= .lst (cH (Kd.Cp N p' q'))) hM2
   refine⟨av,M2,0,Kd.Cp N p' q',rfl,af,by omega,by omega,de hav (sm.free (s1.free hM2)),ue hav ((sm.trans s1).trans s2),fun v H5 o5 s5=> ?_⟩
   rw [hl] at o5
   exact k v H5 o5 (((sm.trans s1).trans s2).trans s5)
theorem IY (t k n:Nat):(Kd.E4 t k n).length=n+1:=by unfold Kd.E4;rw [List.length_map,List.length_range]
def kI (T:Tx K mg):Sp:=fun vs H Q _=>∃(av:List Addr) (a:Addr) (n p q:Int),vs= [.ref a]∧aX K H a ([n,p,q].map V.int)∧(∀b∈av,H b≠none)∧∀(v:V) (H':Hp),gG T av H' v (checked (build 8 [n,p,q] []))→aC H H'→Q v H'
theorem sQ (T:Tx K mg):cM P w base T.dt 8 (kI T):=by
 refine T.dt.okA cC ?_
 rintro _ A _ s H _ Q E hr ⟨av,a,n,p,q,rfl,hs,hav,k⟩
 refine⟨_,(ac (aW 1 cC.nd (fP (pv 0) am))
   (ac (aW 2 cC.nd (fP (pv 0) am))
   (ac (aW 3 cC.nd (fP (pv 0) am))
   (ac (aQ (jn (fI (aS (aP (be T.bE (a4 T) hr (ab (pv 1) (ab am (ab (dI T.AB) ad)))))) (fI (aS (aP (be T.bE (a4 T) hr (ab (pv 2) (ab am (ab (pv 1) ad)))))) (fN (aS (aP (be T.bE (a4 T) hr (ab (pv 3) (ab am (ab (pv 1) ad)))))))))) (ae (aj ck)) aE)
   (ae (aj (be T.eD (fA T) hr (ab am (ab (iB (own:= [("i",4)]) rfl cC.nd (bR rfl T.cr (ab (aB bG (pv 3) am) ad)) (bK (N:= ["numbers","a","b","n","i"]) (sc:=ag hU) (by decide+kernel)) (fun _ _ _ _ _=>(i9 4 cC.nd)) (fun _ _ _ _ _=>cQ) (fun _ _ _ _ _=>(aB aH (be T.z6 (vH T) hr (ab (pv 2) (ab (pv 4) ad))) (be T.z6 (vH T) hr (ab (aB bI (pv 1) (pv 2)) (ab (aB bI (pv 3) (pv 4)) ad)))))) ad))))))))),?_⟩
 rw [Kd.LF] at k
 have bad:¬((0≤n∧n≤60)∧(0≤p∧p≤n)∧(0≤q∧q≤n))→Q .non H:=fun z=>by
  rw [if_neg z] at k
  exact k .non H rfl (aC.refl' H)
 refine⟨_,rfl,a,_,_,_,rfl,rfl,hs,cg (i:=0) rfl rfl,?_⟩
 refine⟨_,rfl,a,_,_,_,rfl,rfl,hs,cg (i:=1) rfl rfl,?_⟩
 refine⟨_,rfl,a,_,_,_,rfl,rfl,hs,cg (i:=2) rfl rfl,?_⟩
 refine⟨_,rfl,n,0,60,rfl,_,rfl,aU (fun h1=>gY (bad fun z=>ma h1 z.1)) (fun h1=> ?_)⟩
 refine⟨_,rfl,_,rfl,p,0,n,rfl,_,rfl,aU (fun h2=>gY (bad fun z=>ma h2 z.2.1)) (fun h2=> ?_)⟩
 refine⟨_,rfl,_,rfl,q,0,n,rfl,_,rfl,aU (fun h3=>bad fun z=>ma h3 z.2.2) (fun h3=> ?_)⟩
 have hc:(0≤n∧n≤60)∧(0≤p∧p≤n)∧(0≤q∧q≤n):=⟨md h1,md h2,md h3⟩
 rw [if_pos hc] at k
 obtain⟨N,rfl⟩:∃N:Nat,n=(N:Int):=⟨n.toNat,by omega⟩
 obtain⟨p',rfl⟩:∃N:Nat,p=(N:Int):=⟨p.toNat,by omega⟩
 obtain⟨q',rfl⟩:∃N:Nat,q=(N:Int):=⟨q.toNat,by omega⟩
 simp only [Int.toNat_natCast] at k
 have eN:(q':Int)+1=((q'+1:Nat):Int):=by omega
 refine⟨_,rfl,_,_,rfl,rfl,_,rfl,by omega,by omega,fun L hL=>eY (n:=((q':Int)+1).toNat) (fun i H'=>i≤q'+1∧H' L=some (.lst (cH ((List.range i).map fun j=>Vbdeab.choose p' j*Vbdeab.choose (N - p') (q' - j))))∧aC H H') ⟨Nat.zero_le _,af,aC.laid hL⟩ ?_ ?_⟩
 ·rintro i H1 hi ⟨_,hL1,sm⟩
  have hi':i<q'+1:=by omega
  have cz:Sz 101 ((Vbdeab.choose p' i:Nat):Int):=dh (Nat.lt_of_le_of_lt (jQ p' i) (Nat.pow_lt_pow_right (by decide) (by omega)))
  have cz2:Sz 101 ((Vbdeab.choose (N - p') (q' - i):Nat):Int):=dh (Nat.lt_of_le_of_lt (jQ (N - p') (q' - i)) (Nat.pow_lt_pow_right (by decide) (by omega)))
  refine⟨rfl,_,rfl,_,rfl,p',i,by rw [Int.zero_add];rfl,by omega,by omega,_,rfl,_,rfl,_,_,rfl,rfl,_,rfl,_,rfl,_,_,rfl,rfl,N - p',q' - i,?_,by omega,by omega,_,_,rfl,rfl,bo cz cz2,_,hL1,(by rw [a9,List.length_map,List.length_range];show i<2 ^ 24;omega),hi',?_,fun b o e=> ?_⟩
  ·show [V.int ((N:Int) - (p':Int)),V.int ((q':Int) - (0+(i:Int)))]++ []=_
   rw [Int.zero_add,←Int.natCast_sub (by omega),←Int.natCast_sub (by omega)]
   rfl
  ·rw [af,gz,←eX,Int.natCast_mul]
  ·rw [ak (aw e hL)]
   exact sm b o e
 ·rintro H1 ⟨_,hL1,sm⟩
  rw [eN,Int.toNat_natCast] at hL1
  have hl:=IY N p' q'
  refine⟨av,L,0,Kd.E4 N p' q',rfl,hL1,by omega,by omega,de hav hL,ue hav sm,fun v H5 o5 s5=> ?_⟩
  rw [hl] at o5
  exact k v H5 o5 (sm.trans s5)
def GI (l:List Nat) (s i t k:Nat):Nat:=(Vbdeab.spread (l.take i) s).getD k 0+if i≤k∧k<i+t then l.getD i 0 else 0
def GL (l:List Nat) (s i t:Nat):List Nat:=(List.range (l.length+s - 1)).map (GI l s i t)
theorem mQ (l:List Nat) (s i t:Nat):(GL l s i t).length=l.length+s - 1:=by unfold GL;rw [List.length_map,List.length_range]
theorem yq {l:List Nat} {s i t k:Nat} (h:k<l.length+s - 1):(GL l s i t)[k]?=some (GI l s i t k):=by unfold GL;rw [List.getElem?_map,List.getElem?_range h];rfl
theorem Hi (l:List Nat) (s:Nat):GL l s 0 0=List.replicate (l.length+s - 1) 0:=by
 refine List.ext_getElem (by rw [mQ,List.length_replicate]) fun k h1 h2=> ?_
 have z:=yq (l:=l) (s:=s) (i:=0) (t:=0) (k:=k) (by rw [mQ] at h1;exact h1)
 rw [List.getElem?_eq_getElem h1] at z
 rw [Option.some.inj z,List.getElem_replicate]
 unfold GI
 rw [List.take_zero,Kd.zS,if_neg (by omega)]
theorem Kk {l:List Nat} {s i:Nat} (hi:i<l.length):GL l s i s=GL l s (i+1) 0:=by
 unfold GL
 refine List.map_congr_left fun k _=> ?_
 unfold GI
 rw [Kd.DL l s i k hi,if_neg (show ¬(i+1≤k∧k<i+1+0) by omega),Nat.add_zero]
theorem Jd {l:List Nat} {s i t:Nat} (hi:i<l.length) (ht:t<s):(GL l s i t).set (i+t) (GI l s i t (i+t)+l.getD i 0)=GL l s i (t+1):=by
 refine List.ext_getElem (by rw [List.length_set,mQ,mQ]) fun k h1 h2=> ?_
 rw [List.length_set,mQ] at h1
 have z:=yq (l:=l) (s:=s) (i:=i) (t:=t) (k:=k) h1
 have z2:=yq (l:=l) (s:=s) (i:=i) (t:=t+1) (k:=k) h1
 rw [List.getElem?_eq_getElem h2] at z2
 rw [Option.some.inj z2,List.getElem_set]
 by_cases q:i+t=k
 ·subst q
  rw [if_pos rfl]
  unfold GI
  rw [if_neg (by omega),if_pos (by omega),Nat.add_zero]
 ·rw [if_neg q]
  rw [List.getElem?_eq_getElem (by rw [mQ];exact h1)] at z
  rw [Option.some.inj z]
  unfold GI
  by_cases c:i≤k∧k<i+t
  ·rw [if_pos c,if_pos (by omega)]
  ·rw [if_neg c,if_neg (by omega)]
theorem Kj {l:List Nat} {s:Nat} (hl:0<l.length):GL l (s+1) l.length 0=Vbdeab.spread l (s+1):=by
 refine Kd.Ag (by rw [mQ,Cb.spread_len hl];omega) fun k hk=> ?_
 rw [mQ] at hk
 rw [List.getD_eq_getElem?_getD,yq hk]
 show GI l (s+1) l.length 0 k=_
 unfold GI
 rw [List.take_length,if_neg (by omega),Nat.add_zero]
def om (T:Tx K mg):Sp:=fun vs H Q _=>∃(a:Addr) (l:List Nat) (s:Nat),vs= [.ref a,.int (s+1:Nat)]∧aX K H a (cH l)∧0<l.length∧l.length≤1000∧s≤100∧∀(p:Addr) (H':Hp),H' p=some (.lst (cH (Vbdeab.spread l (s+1))))→aC H H'→H p=none→Q (.ref p) H'
theorem nB (T:Tx K mg):cM P w base T.fY 1 (om T):=by
 refine T.fY.okA c5 ?_
 rintro _ A _ s H _ Q E hr ⟨a,l,s,rfl,hs,hl0,hl,hs1,k⟩
 refine⟨_,(ac (aW 2 c5.nd (aB Il (aG (ab am ad)) (aB bI (aB bG (a5 aT (by rfl) T.eV PySem.boot_len (ab (pv 0) ad)) (pv 1)) am)))
   (ac (cZ PassesOwn.never rfl (bR rfl T.cr (ab (a5 aT (by rfl) T.eV PySem.boot_len (ab (pv 0) ad)) ad)) (i9 3 c5.nd) (ae (cZ PassesOwn.never rfl (bR rfl T.cr (ab (pv 1) ad)) (i9 4 c5.nd) (ae (JK (pv 2) (aB bG (pv 3) (pv 4)) HI (fP (pv 0) (pv 3)) j8 gc)))))
   (ae (aj (pv 2))))),?_⟩
 refine⟨(by show 1≤sizeLine;decide),fun Z hZ=> ?_⟩
 have sZ:=aC.laid (o:= .lst [V.int 0]) hZ
 have eL:(((cH l).length:Nat):Int)+((s+1:Nat):Int) - 1=((l.length+s:Nat):Int):=by rw [a9];omega
 refine⟨_,rfl,a,_,rfl,.inl (sZ.seq hs),_,rfl,_,_,rfl,rfl,_,_,rfl,rfl,Z,_,_,rfl,rfl,af,?_,?_,?_,fun R hR=> ?_⟩
 ·rw [eL];omega
 ·rw [eL];omega
 ·rw [eL,Int.toNat_natCast]
  show 1*(l.length+s)≤2 ^ 24
  omega
 have erep:(List.replicate ((((cH l).length:Nat):Int)+((s+1:Nat):Int) - 1).toNat [V.int 0]).flatten=cH (GL l (s+1) 0 0):=by
  rw [eL,Int.toNat_natCast,Hi,show l.length+(s+1) - 1=l.length+s by omega]
  generalize l.length+s=m
  induction m with
  | zero=>rfl
  | succ m ih=>rw [List.replicate_succ,List.flatten_cons,ih,List.replicate_succ];rfl
 rw [erep] at*
 have sR:=sZ.trans (aC.laid (o:= .lst (cH (GL l (s+1) 0 0))) hR)
 have nR:H R=none:=sZ.free hR
 refine⟨_,rfl,a,_,rfl,.inl (sR.seq hs),_,rfl,by omega,by rw [a9];omega,fy (n:=(((cH l).length:Nat):Int).toNat) (fun i σ H'=>i≤l.length∧∃v1 v2:Option V,σ= [some (.ref a),some (.int (s+1:Nat)),some (.ref R),v1,v2]∧H' R=some (.lst (cH (GL l (s+1) i 0)))∧aC H H') ⟨Nat.zero_le _,none,none,rfl,af,sR⟩ ?_ ?_⟩
 ·rintro i σ H1 hi ⟨_,v1,v2,rfl,hR1,s1⟩
  rw [Int.toNat_natCast,a9] at hi
  refine⟨_,rfl,_,rfl,by omega,by omega,fy (n:=((s+1:Nat):Int).toNat) (fun t σ H'=>t≤s+1∧∃v2:Option V,σ= [some (.ref a),some (.int (s+1:Nat)),some (.ref R),some (.int (0+(i:Int))),v2]∧H' R=some (.lst (cH (GL l (s+1) i t)))∧aC H H') ⟨Nat.zero_le _,_,rfl,hR1,s1⟩ ?_ ?_⟩
  ·rintro t σ H2 ht ⟨_,v2,rfl,hR2,s2⟩
   rw [Int.toNat_natCast] at ht
   have hk:i+t<l.length+(s+1) - 1:=by omega
   have gl:=List.getElem?_eq_getElem hi
   have gd:l.getD i 0=l[i]:=by rw [List.getD_eq_getElem?_getD,gl];rfl
   refine⟨_,rfl,_,rfl,_,rfl,_,_,rfl,rfl,R,_,_,i+t,_,rfl,rfl,aX.of hR2,by omega,BF (yq hk),_,rfl,_,rfl,a,_,_,_,rfl,rfl,s2.seq hs,rL (j:=i) (Int.zero_add _) (BF gl),_,_,rfl,rfl,R,_,_,i+t,rfl,rfl,hR2,?_,by omega,_,rfl,?_,fun b o e=> ?_⟩
   ·unfold Jc
    rw [if_pos (by omega),if_pos (by rw [a9,mQ];omega)]
    congr 1
    omega
   ·rw [af,←Jd hi (by omega),gd]
    unfold cH nats
    rw [List.map_set,List.map_set]
    rfl
   ·rw [ak (aw e nR)]
    exact s2 b o e
  ·rintro σ H2 ⟨_,v2,rfl,hR2,s2⟩
   rw [Int.toNat_natCast,Kk hi] at hR2
   exact⟨hi,_,_,rfl,hR2,s2⟩
 ·rintro σ H1 ⟨_,v1,v2,rfl,hR1,s1⟩
  rw [Int.toNat_natCast,a9,Kj hl0] at hR1
  exact⟨_,rfl,k R H1 hR1 s1 nR⟩
def Bk (T:Tx K mg):Sp:=fun vs H Q _=>∃(av:List Addr) (a:Addr) (n q:Int),vs= [.ref a]∧aX K H a ([n,q].map V.int)∧(∀b∈av,H b≠none)∧∀(v:V) (H':Hp),gG T av H' v (checked (build 9 [n,q] []))→aC H H'→Q v H'
theorem GE (T:Tx K mg):cM P w base T.wG 8 (Bk T):=by
 refine T.wG.okA jT ?_
 rintro _ A _ s H _ Q E hr ⟨av,a,n,q,rfl,hs,hav,k⟩
 refine⟨_,(ac (aW 1 jT.nd (fP (pv 0) am))
   (ac (aW 2 jT.nd (fP (pv 0) am))
   (ac (aQ (jn (fI (aS (aP (be T.bE (a4 T) hr (ab (pv 1) (ab am (ab (dI T.D4) ad)))))) (fN (aS (aP (be T.bE (a4 T) hr (ab (pv 2) (ab am (ab (dI T.Cq) ad))))))))) (ae (aj ck)) aE)
   (ac (aW 3 jT.nd (aG (ab am ad)))
   (ac (cZ PassesOwn.never rfl (bR rfl T.cr (ab (pv 1) ad)) (i9 4 jT.nd) (ae (aW 3 jT.nd (be T.fY (nB T) hr (ab (pv 3) (ab (pv 2) ad))))))
   (ae (aj (be T.eD (fA T) hr (ab (pv 1) (ab (pv 3) ad)))))))))),?_⟩
 rw [Kd.LG] at k
 have bad:¬((0≤n∧n≤6)∧(1≤q∧q≤10))→Q .non H:=fun z=>by
  rw [if_neg z] at k
  exact k .non H rfl (aC.refl' H)
 refine⟨_,rfl,a,_,_,_,rfl,rfl,hs,cg (i:=0) rfl rfl,?_⟩
 refine⟨_,rfl,a,_,_,_,rfl,rfl,hs,cg (i:=1) rfl rfl,?_⟩
 refine⟨_,rfl,n,0,6,rfl,_,rfl,aU (fun h1=>gY (bad fun z=>ma h1 z.1)) (fun h1=> ?_)⟩
 refine⟨_,rfl,q,1,10,rfl,_,rfl,aU (fun h2=>bad fun z=>ma h2 z.2) (fun h2=> ?_)⟩
 have hc:(0≤n∧n≤6)∧(1≤q∧q≤10):=⟨md h1,md h2⟩
 rw [if_pos hc] at k
 obtain⟨N,rfl⟩:∃N:Nat,n=(N:Int):=⟨n.toNat,by omega⟩
 obtain⟨m,rfl⟩:∃m:Nat,q=((m+1:Nat):Int):=⟨q.toNat - 1,by omega⟩
 simp only [Int.toNat_natCast] at k
 refine⟨(by show 1≤sizeLine;decide),fun Z hZ=> ?_⟩
 have sZ:=aC.laid (o:= .lst [V.int 1]) hZ
 have tlen:∀i,(Vbdeab.throws (m+1) i).length=i*m+1:=fun i=>Cb.throws_len m i
 refine⟨_,rfl,_,rfl,by omega,by omega,fy (n:=(N:Int).toNat) (fun i σ H'=>i≤N∧∃(v1:Option V) (L:Addr),σ= [some (.ref a),some (.int N),some (.int (m+1:Nat)),some (.ref L),v1]∧H' L=some (.lst (cH (Vbdeab.throws (m+1) i)))∧H L=none∧aC H H') ⟨Nat.zero_le _,none,Z,rfl,by rw [af,Cb.throws_zero];rfl,hZ,sZ⟩ ?_ ?_⟩
 ·rintro i σ H1 hi ⟨_,v1,L,rfl,hL1,nL,s1⟩
  rw [Int.toNat_natCast] at hi
  have hb:i*m≤6*9:=Nat.mul_le_mul (by omega) (by omega)
  refine⟨_,rfl,_,rfl,L,_,m,rfl,aX.of hL1,by rw [tlen];omega,by rw [tlen];omega,by omega,fun L2 H2 hL2 s2 n2=> ?_⟩
  exact⟨hi,_,L2,rfl,by rw [hL2,Cb.throws_succ],s1.free n2,s1.trans s2⟩
 ·rintro σ H1 ⟨_,v1,L,rfl,hL1,nL,s1⟩
  rw [Int.toNat_natCast] at hL1
  have hb:N*m≤6*9:=Nat.mul_le_mul (by omega) (by omega)
  refine⟨_,rfl,_,rfl,av,L,N,_,rfl,hL1,by omega,by rw [tlen];omega,de hav nL,ue hav s1,fun v H5 o5 s5=>k v H5 o5 (s1.trans s5)⟩
open Vbdeab (Class Dist)
theorem iO {b:List Int} {j:Nat}:∀q,Kd.aR b j=some q→gH q:=fun q h=>k7 h
theorem Gw (f:Nat→Option Class) (i:Nat):(List.range (i+1)).map f=(List.range i).map f++ [f i]:=gz f i
theorem nZ {T:Tx K mg} {H1 H4:Hp} {L:Addr} {acc:List V} {f:Nat→Option Class} {i:Nat} {r:V} (hA:H1 L=some (.lst acc)) (hO:gP T H1 acc ((List.range i).map f)) (hi:i≤8000) (ho:Br T H4 r (f i)) (s4:aC H1 H4):
  H4 L=some (.lst acc)∧acc.length<sizeLine∧gP T (bC H4 L (.lst (acc++ [r]))) (acc++ [r]) ((List.range (i+1)).map f):=by
 have hA4:=s4 _ _ hA
 refine⟨hA4,?_,?_⟩
 ·rw [hO.1,List.length_map,List.length_range]
  show i<2 ^ 24
  omega
 ·rw [Gw]
  exact((hO.si (aC.i s4)).snoc ho).si (fH.lst hA4)
theorem gP.nil (T:Tx K mg) (H:Hp):gP T H [] []:=⟨rfl,fun i v o h _=>by cases i<;>cases h⟩
def uY (T:Tx K mg) (per beyond:Nat) (f:List Int→Nat→Option Class):Sp:=fun vs H Q _=>∃(a:Addr) (b:List Int) (n:Nat),vs= [.int n,.ref a]∧aX K H a (b.map V.int)∧iy b∧b.length=per*n+beyond∧n≤8000∧∀(p:Addr) (H':Hp) (ss:List V),H' p=some (.lst ss)→gP T H' ss ((List.range n).map (f b))→aC H H'→H p=none→Q (.ref p) H'
def xj (T:Tx K mg):Sp:=uY T 2 0 (fun b i=>Kd.pW (Kd.aR b (2*i)))
theorem Db (T:Tx K mg):cM P w base T.mO 7 (xj T):=by
 refine T.mO.okA qt ?_
 rintro _ A _ s H _ Q E hr ⟨a,b,n,rfl,hs,hz,hl,hn,k⟩
 refine⟨_,(ae (aj (iB (own:= [("i",2)]) rfl qt.nd (bR rfl T.cr (ab (pv 0) ad)) (bK (N:= ["many","numbers","i"]) (sc:=ag tj) (by decide+kernel)) (fun _ _ _ _ _=>(i9 2 qt.nd)) (fun _ _ _ _ _=>cQ) (fun _ _ _ _ _=>(be T.vj (sS T) hr (ab (be T.gD (f8 T) hr (ab (pv 1) (ab (aB aH am (pv 2)) ad))) ad)))))),?_⟩
 refine⟨_,rfl,_,rfl,by omega,by omega,fun L hL=>eY (n:=(n:Int).toNat) (fun i H'=>∃acc,H' L=some (.lst acc)∧gP T H' acc ((List.range i).map fun i=>Kd.pW (Kd.aR b (2*i)))∧aC H H') ⟨[],af,gP.nil _ _,aC.laid hL⟩ ?_ ?_⟩
 ·rintro i H1 hi ⟨acc,hA,hO,sm⟩
  rw [Int.toNat_natCast] at hi
  have ei:(2:Int)*(0+(i:Int))=((2*i:Nat):Int):=by omega
  refine⟨rfl,_,rfl,_,rfl,_,_,rfl,rfl,bo (show Sz 2 2 by decide) (show Sz 20 (0+(i:Int)) by show(_:Int).natAbs<_;omega),a,b,2*i,?_,sm.seq hs,hz,by omega,fun v H2 o2 s2=> ?_⟩
  ·show [V.ref a,V.int (2*(0+(i:Int)))]++ []=_
   rw [ei]
   rfl
  refine⟨v,_,rfl,o2,iO,fun r H3 o3 s3=> ?_⟩
  obtain⟨e1,e2,e3⟩:=nZ hA hO (by omega) o3 (s2.trans s3)
  exact⟨acc,e1,e2,_,af,e3,fun q o e=>by rw [ak (aw e hL)];exact s3 _ _ (s2 _ _ (sm _ _ e))⟩
 ·rintro H1 ⟨acc,hA,hO,sm⟩
  rw [Int.toNat_natCast] at hO
  exact k L H1 acc hA hO sm hL
def lD (T:Tx K mg):Sp:=uY T 2 2 (fun b i=>Kd.iA (Kd.aR b (2*i)) (Kd.aR b (2*i+2)))
theorem ux (T:Tx K mg):cM P w base T.dS 6 (lD T):=by
 refine T.dS.okA ie ?_
 rintro _ A _ s H _ Q E hr ⟨a,b,n,rfl,hs,hz,hl,hn,k⟩
 refine⟨_,(ae (aj (iB (own:= [("i",2)]) rfl ie.nd (bR rfl T.cr (ab (pv 0) ad)) (bK (N:= ["many","numbers","i"]) (sc:=ag iT) (by decide+kernel)) (fun _ _ _ _ _=>(i9 2 ie.nd)) (fun _ _ _ _ _=>cQ) (fun _ _ _ _ _=>(be T.mN (nv T) hr (ab (be T.gD (f8 T) hr (ab (pv 1) (ab (aB aH am (pv 2)) ad))) (ab (be T.gD (f8 T) hr (ab (pv 1) (ab (aB bG (aB aH am (pv 2)) am) ad))) ad))))))),?_⟩
 refine⟨_,rfl,_,rfl,by omega,by omega,fun L hL=>eY (n:=(n:Int).toNat) (fun i H'=>∃acc,H' L=some (.lst acc)∧gP T H' acc ((List.range i).map fun i=>Kd.iA (Kd.aR b (2*i)) (Kd.aR b (2*i+2)))∧aC H H') ⟨[],af,gP.nil _ _,aC.laid hL⟩ ?_ ?_⟩
 ·rintro i H1 hi ⟨acc,hA,hO,sm⟩
  rw [Int.toNat_natCast] at hi
  have ei:(2:Int)*(0+(i:Int))=((2*i:Nat):Int):=by omega
  have iz:Sz 20 (0+(i:Int)):=by show(_:Int).natAbs<_;omega
  refine⟨rfl,_,rfl,_,rfl,_,_,rfl,rfl,bo (show Sz 2 2 by decide) iz,a,b,2*i,?_,sm.seq hs,hz,by omega,fun v H2 o2 s2=> ?_⟩
  ·show [V.ref a,V.int (2*(0+(i:Int)))]++ []=_
   rw [ei]
   rfl
  refine⟨_,rfl,_,rfl,_,_,rfl,rfl,bo (show Sz 2 2 by decide) iz,_,_,rfl,rfl,a,b,2*i+2,?_,s2.seq (sm.seq hs),hz,by omega,fun v2 H3 o3 s3=> ?_⟩
  ·show [V.ref a,V.int (2*(0+(i:Int))+2)]++ []=_
   rw [ei]
   rfl
  refine⟨v,v2,_,_,rfl,o2.same s3,o3,iO,iO,fun r H4 o4 s4=> ?_⟩
  obtain⟨e1,e2,e3⟩:=nZ (f:=fun i=>Kd.iA (Kd.aR b (2*i)) (Kd.aR b (2*i+2))) hA hO (by omega) o4 ((s2.trans s3).trans s4)
  exact⟨acc,e1,e2,_,af,e3,fun q o e=>by rw [ak (aw e hL)];exact s4 _ _ (s3 _ _ (s2 _ _ (sm _ _ e)))⟩
 ·rintro H1 ⟨acc,hA,hO,sm⟩
  rw [Int.toNat_natCast] at hO
  exact k L H1 acc hA hO sm hL
def mK (T:Tx K mg):Sp:=uY T 2 0 (fun b i=>Kd.iZ (b.getD (2*i) 0) (b.getD (2*i+1) 0))
theorem vI (T:Tx K mg):cM P w base T.eG 7 (mK T):=by
 refine T.eG.okA iX ?_
 rintro _ A _ s H _ Q E hr ⟨a,b,n,rfl,hs,hz,hl,hn,k⟩
 refine⟨_,(ae (aj (iB (own:= [("i",2)]) rfl iX.nd (bR rfl T.cr (ab (pv 0) ad)) (bK (N:= ["many","numbers","i"]) (sc:=ag jA) (by decide+kernel)) (fun _ _ _ _ _=>(i9 2 iX.nd)) (fun _ _ _ _ _=>cQ) (fun _ _ _ _ _=>(be T.jP (oQ T) hr (ab (Dg (ul (K':=K) rfl) (pv 1) (aB aH am (pv 2)) (fun _ _=>rfl)) (ab (Dg (ul (K':=K) rfl) (pv 1) (aB bG (aB aH am (pv 2)) am) (fun _ _=>rfl)) ad))))))),?_⟩
 refine⟨_,rfl,_,rfl,by omega,by omega,fun L hL=>eY (n:=(n:Int).toNat) (fun i H'=>∃acc,H' L=some (.lst acc)∧gP T H' acc ((List.range i).map fun i=>Kd.iZ (b.getD (2*i) 0) (b.getD (2*i+1) 0))∧aC H H') ⟨[],af,gP.nil _ _,aC.laid hL⟩ ?_ ?_⟩
 ·rintro i H1 hi ⟨acc,hA,hO,sm⟩
  rw [Int.toNat_natCast] at hi
  have iz:Sz 20 (0+(i:Int)):=by show(_:Int).natAbs<_;omega
  refine⟨rfl,_,rfl,_,rfl,_,_,rfl,rfl,bo (show Sz 2 2 by decide) iz,a,_,_,_,rfl,rfl,sm.seq hs,cg (i:=2*i) (by omega) (mY (by omega)),_,rfl,_,rfl,_,_,rfl,rfl,bo (show Sz 2 2 by decide) iz,_,_,rfl,rfl,a,_,_,_,rfl,rfl,sm.seq hs,cg (i:=2*i+1) (by omega) (mY (by omega)),_,_,rfl,fun r H4 o4 s4=> ?_⟩
  obtain⟨e1,e2,e3⟩:=nZ (f:=fun i=>Kd.iZ (b.getD (2*i) 0) (b.getD (2*i+1) 0)) hA hO (by omega) o4 s4
  exact⟨acc,e1,e2,_,af,e3,fun q o e=>by rw [ak (aw e hL)];exact s4 _ _ (sm _ _ e)⟩
 ·rintro H1 ⟨acc,hA,hO,sm⟩
  rw [Int.toNat_natCast] at hO
  exact k L H1 acc hA hO sm hL
def xX (T:Tx K mg):Sp:=fun vs H Q _=>∃(a:Addr) (b:List Int),vs= [.ref a]∧aX K H a (b.map V.int)∧iy b∧b.length=6∧∀(r:V) (H':Hp),Br T H' r (Kd.oq b 0)→aC H H'→Q r H'
theorem xF (T:Tx K mg):cM P w base T.oH 6 (xX T):=by
 refine T.oH.okA jB ?_
 rintro _ A _ s H _ Q E hr ⟨a,b,rfl,hs,hz,hl,k⟩
 refine⟨_,(ac (aW 1 jB.nd (be T.gD (f8 T) hr (ab (pv 0) (ab am ad))))
   (ac (aW 2 jB.nd (be T.gD (f8 T) hr (ab (pv 0) (ab am ad))))
   (ac (aQ (jn (K0 (aO oR (fP (pv 0) am) am (aV _)) (JL (aO oR (fP (pv 0) am) am (aV _))))) (ae (aj (be T.mN (nv T) hr (ab (pv 1) (ab (pv 2) ad))))) aE)
   (ac (aQ (aO oR (fP (pv 0) am) am (aV _)) (ae (aj (be T.jZ (jM T) hr (ab (pv 1) (ab (pv 2) (ab (fP (pv 0) am) ad)))))) aE)
   (ae (aj ck)))))),?_⟩
 refine⟨_,rfl,a,b,1,rfl,hs,hz,by omega,fun v1 H1 o1 s1=> ?_⟩
 refine⟨_,rfl,a,b,3,rfl,s1.seq hs,hz,by omega,fun v2 H2 o2 s2=> ?_⟩
 have S:=s1.trans s2
 have hs2:=S.seq hs
 have ek:Kd.oq b 0=if b.getD 0 0=0∧b.getD 5 0=0 then Kd.iA (Kd.aR b 1) (Kd.aR b 3) else if b.getD 0 0=1 then Kd.k6 (Kd.aR b 1) (Kd.aR b 3) (b.getD 5 0) else none:=rfl
 rw [ek] at k
 have second:¬(b.getD 0 0=0∧b.getD 5 0=0)→∀D:Cw,D.rt=Q→D.nx=(fun _ H'=>Q .non H')→(if b.getD 0 0=1 then Kd.k6 (Kd.aR b 1) (Kd.aR b 3) (b.getD 5 0) else none)=(if b.getD 0 0=0∧b.getD 5 0=0 then Kd.iA (Kd.aR b 1) (Kd.aR b 3) else if b.getD 0 0=1 then Kd.k6 (Kd.aR b 1) (Kd.aR b 3) (b.getD 5 0) else none):=fun q _ _ _=>by rw [if_neg q]
 have k2:¬(b.getD 0 0=0∧b.getD 5 0=0)→∀(r:V) (H':Hp),Br T H' r (if b.getD 0 0=1 then Kd.k6 (Kd.aR b 1) (Kd.aR b 3) (b.getD 5 0) else none)→aC H H'→Q r H':=fun q=>by
  rw [if_neg q] at k
  exact k
 refine⟨_,rfl,a,_,_,_,rfl,rfl,hs2,cg (i:=0) rfl (mY (by omega)),rfl,_,rfl,aU (fun h1=> ?_) (fun h1=> ?_)⟩
 ·have h1':b.getD 0 0=0:=V.int.inj (of_decide_eq_true h1)
  refine⟨_,rfl,a,_,_,_,rfl,rfl,hs2,cg (i:=5) rfl (mY (by omega)),rfl,_,rfl,aU (fun h2=> ?_) (fun h2=> ?_)⟩
  ·have h2':b.getD 5 0=0:=V.int.inj (of_decide_eq_true h2)
   rw [if_pos ⟨h1',h2'⟩] at k
   exact⟨_,rfl,_,rfl,v1,v2,_,_,rfl,o1.same s2,o2,iO,iO,fun r H3 o3 s3=>k r H3 o3 (S.trans s3)⟩
  ·have h2':¬b.getD 5 0=0:=fun q=>h2 (decide_eq_true (congrArg V.int q))
   have k3:=k2 fun q=>h2' q.2
   refine⟨_,rfl,a,_,_,_,rfl,rfl,hs2,cg (i:=0) rfl (mY (by omega)),rfl,_,rfl,aU (fun h3=> ?_) (fun h3=> ?_)⟩
   ·have h3':b.getD 0 0=1:=V.int.inj (of_decide_eq_true h3)
    rw [h1'] at h3'
    cases h3'
   ·have h3':¬b.getD 0 0=1:=fun q=>h3 (decide_eq_true (congrArg V.int q))
    rw [if_neg h3'] at k3
    exact k3 .non H2 rfl S
 ·have h1':¬b.getD 0 0=0:=fun q=>h1 (decide_eq_true (congrArg V.int q))
  have k3:=k2 fun q=>h1' q.1
  refine⟨_,rfl,a,_,_,_,rfl,rfl,hs2,cg (i:=0) rfl (mY (by omega)),rfl,_,rfl,aU (fun h3=> ?_) (fun h3=> ?_)⟩
  ·have h3':b.getD 0 0=1:=V.int.inj (of_decide_eq_true h3)
   rw [if_pos h3'] at k3
   exact⟨_,rfl,_,rfl,_,rfl,a,_,_,_,rfl,rfl,hs2,cg (i:=5) rfl (mY (by omega)),v1,v2,_,_,_,rfl,o1.same s2,o2,iO,iO,fun r H3 o3 s3=>k3 r H3 o3 (S.trans s3)⟩
  ·have h3':¬b.getD 0 0=1:=fun q=>h3 (decide_eq_true (congrArg V.int q))
   rw [if_neg h3'] at k3
   exact k3 .non H2 rfl S
theorem Hy {xs:List V} {i n:Nat} {k j:Int} (ek:k=(i:Int)) (ej:j=((i+n:Nat):Int)) (h:i+n≤xs.length):rq xs (some k) (some j)=(xs.drop i).take n:=by
 subst ek ej
 unfold rq HT.sIx
 simp only [Int.toNat_natCast]
 rw [if_neg (by omega),if_neg (by omega),Nat.min_eq_left (show i≤xs.length by omega),Nat.min_eq_left h]
 congr 1
 omega
theorem l5 (b:List Int) (i n j:Nat) (h:j<n):((b.drop i).take n).getD j 0=b.getD (i+j) 0:=by
 rw [List.getD_eq_getElem?_getD,List.getD_eq_getElem?_getD,List.getElem?_take,if_pos h,List.getElem?_drop]
theorem EY (b:List Int) (i:Nat):Kd.oq ((b.drop i).take 6) 0=Kd.oq b i:=by
 unfold Kd.oq Kd.aR
 rw [l5 b i 6 0 (by decide),l5 b i 6 5 (by decide),l5 b i 6 1 (by decide),l5 b i 6 2 (by decide),l5 b i 6 3 (by decide),l5 b i 6 4 (by decide)]
 rfl
theorem iy.cut {b:List Int} (h:iy b) (i n:Nat):iy ((b.drop i).take n):=fun x hx=>h x (List.mem_of_mem_drop (List.mem_of_mem_take hx))
def mJ (T:Tx K mg):Sp:=uY T 6 0 (fun b i=>Kd.oq b (6*i))
theorem vG (T:Tx K mg):cM P w base T.eE 7 (mJ T):=by
 refine T.eE.okA iW ?_
 rintro _ A _ s H _ Q E hr ⟨a,b,n,rfl,hs,hz,hl,hn,k⟩
 refine⟨_,(ae (aj (iB (own:= [("i",2)]) rfl iW.nd (bR rfl T.cr (ab (pv 0) ad)) (bK (N:= ["many","numbers","i"]) (sc:=ag jz) (by decide+kernel)) (fun _ _ _ _ _=>(i9 2 iW.nd)) (fun _ _ _ _ _=>cQ) (fun _ _ _ _ _=>(be T.oH (xF T) hr (ab (uG (IH (K':=K) rfl) (pv 1) (nI (aB aH am (pv 2))) (nI (aB bG (aB aH am (pv 2)) am))) ad)))))),?_⟩
 refine⟨_,rfl,_,rfl,by omega,by omega,fun L hL=>eY (n:=(n:Int).toNat) (fun i H'=>∃acc,H' L=some (.lst acc)∧gP T H' acc ((List.range i).map fun i=>Kd.oq b (6*i))∧aC H H') ⟨[],af,gP.nil _ _,aC.laid hL⟩ ?_ ?_⟩
 ·rintro i H1 hi ⟨acc,hA,hO,sm⟩
  rw [Int.toNat_natCast] at hi
  have iz:Sz 20 (0+(i:Int)):=by show(_:Int).natAbs<_;omega
  refine⟨rfl,_,rfl,_,rfl,_,_,rfl,rfl,bo (show Sz 3 6 by decide) iz,_,rfl,_,rfl,_,_,rfl,rfl,bo (show Sz 3 6 by decide) iz,_,_,rfl,rfl,_,rfl,a,_,rfl,sm.seq hs,fun c hc=> ?_⟩
  rw [Hy (i:=6*i) (n:=6) (by omega) (by show(6*(0+(i:Int))+6)=_;omega) (by rw [List.length_map];omega),←List.map_drop,←List.map_take] at*
  have sc:=aC.laid (o:= .lst (((b.drop (6*i)).take 6).map V.int)) hc
  refine⟨c,_,rfl,aX.of af,hz.cut _ _,by rw [List.length_take,List.length_drop];omega,fun r H3 o3 s3=> ?_⟩
  rw [EY] at o3
  obtain⟨e1,e2,e3⟩:=nZ (f:=fun i=>Kd.oq b (6*i)) hA hO (by omega) o3 (sc.trans s3)
  exact⟨acc,e1,e2,_,af,e3,fun q o e=>by rw [ak (aw e hL)];exact s3 _ _ (sc _ _ (sm _ _ e))⟩
 ·rintro H1 ⟨acc,hA,hO,sm⟩
  rw [Int.toNat_natCast] at hO
  exact k L H1 acc hA hO sm hL
open Vbdeab (Class Dist)
theorem rc (k:Int):∀kvs:List (Int×V),(AA kvs k).isSome=decide (k∈kvs.map (·.1))
 | []=>rfl
 | p::r=>by
  have ih:=rc k r
  unfold AA at ih⊢
  rw [List.find?_cons,List.map_cons]
  by_cases e:p.1=k
  ·rw [decide_eq_true e,decide_eq_true (by rw [e];exact List.mem_cons_self)]
   rfl
  ·rw [decide_eq_false e]
   simp only
   rw [ih]
   by_cases q:k∈r.map (·.1)
   ·rw [decide_eq_true q,decide_eq_true (List.mem_cons_of_mem _ q)]
   ·rw [decide_eq_false q,decide_eq_false fun z=>by rcases List.mem_cons.mp z with z | z;exact e z.symm;exact q z]
def oM (T:Tx K mg):Addr→Sp→Prop:=fun f sp=>(f=T.gN.f∧sp=qD T)∨(f=T.i6.f∧sp=so T)∨(f=T.gO.f∧sp=qG T)∨(f=T.i3.f∧sp=sn T)∨(f=T.dt.f∧sp=kI T)∨(f=T.wG.f∧sp=Bk T)
theorem xu {A:Around} (T:Tx K mg) (hr:du 8 A):∀f sp,oM T f sp→∃k fd ps,iq P w K mg base x8 k f fd ps sp∧du k A∧PySem.W.keepIn K (.ref f)=true∧gE K fd ps []:=by
 rintro f sp (⟨rfl,rfl⟩ | ⟨rfl,rfl⟩ | ⟨rfl,rfl⟩ | ⟨rfl,rfl⟩ | ⟨rfl,rfl⟩ | ⟨rfl,rfl⟩)
 ·exact⟨_,_,_,yW T,hr.mono (by decide),T.gN.F.kp,T.gN.b⟩
 ·exact⟨_,_,_,Ai T,hr.mono (by decide),T.i6.F.kp,T.i6.b⟩
 ·exact⟨_,_,_,yY T,hr.mono (by decide),T.gO.F.kp,T.gO.b⟩
 ·exact⟨_,_,_,Ah T,hr.mono (by decide),T.i3.F.kp,T.i3.b⟩
 ·exact⟨_,_,_,sQ T,hr.mono (by decide),T.dt.F.kp,T.dt.b⟩
 ·exact⟨_,_,_,GE T,hr.mono (by decide),T.wG.F.kp,T.wG.b⟩
theorem uf {o:Option Dist} (h:o=none):checked o=none:=by rw [h];rfl
def xR (T:Tx K mg):Sp:=fun vs H Q _=>∃(av:List Addr) (al bl:Addr) (kind:Int) (a b:List Int),vs= [.int kind,.ref al,.ref bl]∧(kind=0∨kind=1∨kind=6∨kind=7∨kind=8∨kind=9)∧aX K H al (a.map V.int)∧aX K H bl (b.map V.int)∧iy a∧(∀b∈av,H b≠none)∧∀(v:V) (H':Hp),gG T av H' v (checked (build kind a b))→aC H H'→Q v H'
theorem xA (T:Tx K mg):cM P w base T.ox 9 (xR T):=by
 refine T.ox.okA ph ?_
 rintro _ A _ s H _ Q E hr ⟨av,al,bl,kind,a,b,rfl,hk,ha,hb,hz,hav,k⟩
 refine⟨_,(ac (aQ (jn (fI (aO FA (a5 aT (by rfl) T.eV PySem.boot_len (ab (pv 1) ad)) (jN (FS T.bp) (pv 0)) (aV _)) (fN (aO rP (a5 aT (by rfl) T.eV PySem.boot_len (ab (pv 2) ad)) am (aV _))))) (ae (aj ck)) aE)
   (ac (aW 3 ph.nd (jN (FS T.bu) (pv 0)))
   (ae (aj (ml (i:=3) (oM T) rfl (Or.inl rfl) (xu T hr) (ab (pv 1) ad)))))),?_⟩
 have bad1:¬a.length=Kd.IO kind→Q .non H:=fun q=>by
  have e:checked (build kind a b)=none:=by
   by_cases c:b= []
   ·rw [c];exact uf (Kd.HP hk q)
   ·exact uf (Kd.AK a (by omega) (by omega) (by omega) (by omega) c)
  rw [e] at k
  exact k .non H rfl (aC.refl' H)
 have bad2:¬b= []→Q .non H:=fun q=>by
  have e:=uf (Kd.AK (kind:=kind) a (by omega) (by omega) (by omega) (by omega) q)
  rw [e] at k
  exact k .non H rfl (aC.refl' H)
 have la:(a.map V.int).length=a.length:=List.length_map ..
 have lb:(b.map V.int).length=b.length:=List.length_map ..
 have two:∀t:Nat,¬(!decide (V.int ((a.map V.int).length:Int)=V.int (t:Int)))=true→a.length=t:=fun t h=>by
  have:=V.int.inj (md h)
  omega
 have two':∀t:Nat,(!decide (V.int ((a.map V.int).length:Int)=V.int (t:Int)))=true→¬a.length=t:=fun t h q=>ma h (by rw [la,q])
 have none_b:¬decide ((0:Int)<((b.map V.int).length:Int))=true→b= []:=fun h=>List.eq_nil_of_length_eq_zero (by have:¬((0:Int)<((b.map V.int).length:Int)):=fun q=>h (decide_eq_true q);omega)
 have some_b:decide ((0:Int)<((b.map V.int).length:Int))=true→¬b= []:=fun h q=>by have:=of_decide_eq_true h;rw [lb,q] at this;simp at this
 rcases hk with rfl | rfl | rfl | rfl | rfl | rfl
 ·refine⟨_,rfl,al,_,rfl,.inl ha,_,rfl,T.bp.a,_,_,_,rfl,T.bp.gd _ _,rfl,rfl,rfl,_,rfl,aU (fun h1=>gY (bad1 (two' 2 h1))) (fun h1=>⟨_,rfl,bl,_,rfl,.inl hb,_,_,rfl,rfl,_,rfl,aU (fun h2=>bad2 (some_b h2)) (fun h2=> ?_)⟩)⟩
  obtain rfl:=none_b h2
  match a,two 2 h1,k,hz,ha with
  | [p,q],_,k,hz,ha=>exact⟨_,rfl,T.bu.a,_,_,_,rfl,T.bu.gd _ _,rfl,rfl,_,_,rfl,.inl ⟨rfl,rfl⟩,_,rfl,av,al,p,q,rfl,ha,hz,hav,k⟩
 ·refine⟨_,rfl,al,_,rfl,.inl ha,_,rfl,T.bp.a,_,_,_,rfl,T.bp.gd _ _,rfl,rfl,rfl,_,rfl,aU (fun h1=>gY (bad1 (two' 2 h1))) (fun h1=>⟨_,rfl,bl,_,rfl,.inl hb,_,_,rfl,rfl,_,rfl,aU (fun h2=>bad2 (some_b h2)) (fun h2=> ?_)⟩)⟩
  obtain rfl:=none_b h2
  match a,two 2 h1,k,hz,ha with
  | [p,q],_,k,hz,ha=>exact⟨_,rfl,T.bu.a,_,_,_,rfl,T.bu.gd _ _,rfl,rfl,_,_,rfl,.inr (.inl ⟨rfl,rfl⟩),_,rfl,av,al,p,q,rfl,ha,hav,k⟩
 ·refine⟨_,rfl,al,_,rfl,.inl ha,_,rfl,T.bp.a,_,_,_,rfl,T.bp.gd _ _,rfl,rfl,rfl,_,rfl,aU (fun h1=>gY (bad1 (two' 3 h1))) (fun h1=>⟨_,rfl,bl,_,rfl,.inl hb,_,_,rfl,rfl,_,rfl,aU (fun h2=>bad2 (some_b h2)) (fun h2=> ?_)⟩)⟩
  obtain rfl:=none_b h2
  match a,two 3 h1,k,hz,ha with
  | [n,p,q],_,k,hz,ha=>exact⟨_,rfl,T.bu.a,_,_,_,rfl,T.bu.gd _ _,rfl,rfl,_,_,rfl,.inr (.inr (.inl ⟨rfl,rfl⟩)),_,rfl,av,al,n,p,q,rfl,ha,hav,k⟩
 ·refine⟨_,rfl,al,_,rfl,.inl ha,_,rfl,T.bp.a,_,_,_,rfl,T.bp.gd _ _,rfl,rfl,rfl,_,rfl,aU (fun h1=>gY (bad1 (two' 3 h1))) (fun h1=>⟨_,rfl,bl,_,rfl,.inl hb,_,_,rfl,rfl,_,rfl,aU (fun h2=>bad2 (some_b h2)) (fun h2=> ?_)⟩)⟩
  obtain rfl:=none_b h2
  match a,two 3 h1,k,hz,ha with
  | [n,p,q],_,k,hz,ha=>exact⟨_,rfl,T.bu.a,_,_,_,rfl,T.bu.gd _ _,rfl,rfl,_,_,rfl,.inr (.inr (.inr (.inl ⟨rfl,rfl⟩))),_,rfl,av,al,n,p,q,rfl,ha,hav,k⟩
 ·refine⟨_,rfl,al,_,rfl,.inl ha,_,rfl,T.bp.a,_,_,_,rfl,T.bp.gd _ _,rfl,rfl,rfl,_,rfl,aU (fun h1=>gY (bad1 (two' 3 h1))) (fun h1=>⟨_,rfl,bl,_,rfl,.inl hb,_,_,rfl,rfl,_,rfl,aU (fun h2=>bad2 (some_b h2)) (fun h2=> ?_)⟩)⟩
  obtain rfl:=none_b h2
  match a,two 3 h1,k,hz,ha with
  | [n,p,q],_,k,hz,ha=>exact⟨_,rfl,T.bu.a,_,_,_,rfl,T.bu.gd _ _,rfl,rfl,_,_,rfl,.inr (.inr (.inr (.inr (.inl ⟨rfl,rfl⟩)))),_,rfl,av,al,n,p,q,rfl,ha,hav,k⟩
 ·refine⟨_,rfl,al,_,rfl,.inl ha,_,rfl,T.bp.a,_,_,_,rfl,T.bp.gd _ _,rfl,rfl,rfl,_,rfl,aU (fun h1=>gY (bad1 (two' 2 h1))) (fun h1=>⟨_,rfl,bl,_,rfl,.inl hb,_,_,rfl,rfl,_,rfl,aU (fun h2=>bad2 (some_b h2)) (fun h2=> ?_)⟩)⟩
  obtain rfl:=none_b h2
  match a,two 2 h1,k,hz,ha with
  | [p,q],_,k,hz,ha=>exact⟨_,rfl,T.bu.a,_,_,_,rfl,T.bu.gd _ _,rfl,rfl,_,_,rfl,.inr (.inr (.inr (.inr (.inr ⟨rfl,rfl⟩)))),_,rfl,av,al,p,q,rfl,ha,hav,k⟩
def oN (T:Tx K mg):Addr→Sp→Prop:=fun f sp=>(f=T.mO.f∧sp=xj T)∨(f=T.dS.f∧sp=lD T)∨(f=T.eG.f∧sp=mK T)∨(f=T.eE.f∧sp=mJ T)
theorem xw {A:Around} (T:Tx K mg) (hr:du 7 A):∀f sp,oN T f sp→∃k fd ps,iq P w K mg base x8 k f fd ps sp∧du k A∧PySem.W.keepIn K (.ref f)=true∧gE K fd ps []:=by
 rintro f sp (⟨rfl,rfl⟩ | ⟨rfl,rfl⟩ | ⟨rfl,rfl⟩ | ⟨rfl,rfl⟩)
 ·exact⟨_,_,_,Db T,hr.mono (by decide),T.mO.F.kp,T.mO.b⟩
 ·exact⟨_,_,_,ux T,hr.mono (by decide),T.dS.F.kp,T.dS.b⟩
 ·exact⟨_,_,_,vI T,hr.mono (by decide),T.eG.F.kp,T.eG.b⟩
 ·exact⟨_,_,_,vG T,hr.mono (by decide),T.eE.F.kp,T.eE.b⟩
def xS (T:Tx K mg):Sp:=fun vs H Q _=>∃(av:List Addr) (al bl:Addr) (kind:Int) (a b:List Int),vs= [.int kind,.ref al,.ref bl]∧(kind=2∨kind=3∨kind=4∨kind=5)∧H al=some (.lst (a.map V.int))∧aX K H bl (b.map V.int)∧iy b∧a.length≤8000∧al ∉ av∧(∀b∈av,H b≠none)∧∀(v:V) (H':Hp),gG T av H' v (checked (build kind a b))→aC H H'→Q v H'
theorem xB (T:Tx K mg):cM P w base T.oy 8 (xS T):=by
 refine T.oy.okA pj ?_
 rintro _ A _ s H _ Q E hr ⟨av,al,bl,kind,a,b,rfl,hk,ha,hb,hz,hl,nal,hav,k⟩
 refine⟨_,(ac (aQ (aO FA (a5 aT (by rfl) T.eV PySem.boot_len (ab (pv 2) ad)) (aB bG (aB aH (jN (FS T.bH) (pv 0)) (a5 aT (by rfl) T.eV PySem.boot_len (ab (pv 1) ad))) (jN (FS T.bU) (pv 0))) (aV _)) (ae (aj ck)) aE)
   (ac (aW 3 pj.nd (jN (FS T.b8) (pv 0)))
   (ae (aj (be T.bY (ca T) hr (ab (pv 1) (ab (ml (i:=3) (oN T) rfl (Or.inl rfl) (xw T hr) (ab (a5 aT (by rfl) T.eV PySem.boot_len (ab (pv 1) ad)) (ab (pv 2) ad))) ad))))))),?_⟩
 have la:(a.map V.int).length=a.length:=List.length_map ..
 have lb:(b.map V.int).length=b.length:=List.length_map ..
 have az:Sz 20 ((a.map V.int).length:Int):=by rw [la];exact dh (Nat.lt_of_le_of_lt hl (by decide))
 have ne:∀m c:Nat,(!decide (V.int ((b.map V.int).length:Int)=V.int ((m:Int)*((a.map V.int).length:Int)+(c:Int))))=true→b.length≠m*a.length+c:=fun m c h q=>ma h (by rw [la,lb,q,Int.natCast_add,Int.natCast_mul])
 have eq:∀m c:Nat,¬(!decide (V.int ((b.map V.int).length:Int)=V.int ((m:Int)*((a.map V.int).length:Int)+(c:Int))))=true→b.length=m*a.length+c:=fun m c h=>by
  have:=V.int.inj (md h)
  rw [la,lb,←Int.natCast_mul] at this
  omega
 have non:checked (build kind a b)=none→Q .non H:=fun e=>by
  rw [e] at k
  exact k .non H rfl (aC.refl' H)
 have fin:∀(f:Nat→Option Class),checked (build kind a b)=Kd.ub a ((List.range a.length).map f)→∀(p:Addr) (H':Hp) (ss:List V),H' p=some (.lst ss)→gP T H' ss ((List.range a.length).map f)→aC H H'→H p=none→jt T [.ref al,.ref p] H' Q E0:=fun f e p H' ss hp hO s np=>⟨av,al,p,a,ss,_,rfl,s _ _ ha,hp,hO,by rw [List.length_map,List.length_range],by omega,nal,de hav np,ue hav s,fun v H5 o5 s5=>k v H5 (by rw [e];exact o5) (s.trans s5)⟩
 rcases hk with rfl | rfl | rfl | rfl
 ·refine⟨_,rfl,bl,_,rfl,.inl hb,_,rfl,T.bH.a,_,_,_,rfl,T.bH.gd _ _,rfl,rfl,_,rfl,al,_,rfl,.inl (aX.of ha),_,_,rfl,rfl,bo (show Sz 3 2 by decide) az,_,rfl,T.bU.a,_,_,_,rfl,T.bU.gd _ _,rfl,rfl,_,_,rfl,rfl,rfl,_,rfl,aU (fun h1=>non (Kd.Gn (by have:=ne 2 0 h1;omega))) (fun h1=> ?_)⟩
  have hlen:=eq 2 0 h1
  exact⟨_,rfl,T.b8.a,_,_,_,rfl,T.b8.gd _ _,rfl,rfl,_,rfl,_,_,rfl,.inl ⟨rfl,rfl⟩,_,rfl,al,_,rfl,.inl (aX.of ha),_,rfl,bl,b,a.length,by rw [la],hb,hz,hlen,hl,fin _ (Kd.Lz (by omega))⟩
 ·refine⟨_,rfl,bl,_,rfl,.inl hb,_,rfl,T.bH.a,_,_,_,rfl,T.bH.gd _ _,rfl,rfl,_,rfl,al,_,rfl,.inl (aX.of ha),_,_,rfl,rfl,bo (show Sz 3 2 by decide) az,_,rfl,T.bU.a,_,_,_,rfl,T.bU.gd _ _,rfl,rfl,_,_,rfl,rfl,rfl,_,rfl,aU (fun h1=>non (Kd.Go (by have:=ne 2 2 h1;omega))) (fun h1=> ?_)⟩
  have hlen:=eq 2 2 h1
  exact⟨_,rfl,T.b8.a,_,_,_,rfl,T.b8.gd _ _,rfl,rfl,_,rfl,_,_,rfl,.inr (.inl ⟨rfl,rfl⟩),_,rfl,al,_,rfl,.inl (aX.of ha),_,rfl,bl,b,a.length,by rw [la],hb,hz,hlen,hl,fin _ (Kd.LA (by omega))⟩
 ·refine⟨_,rfl,bl,_,rfl,.inl hb,_,rfl,T.bH.a,_,_,_,rfl,T.bH.gd _ _,rfl,rfl,_,rfl,al,_,rfl,.inl (aX.of ha),_,_,rfl,rfl,bo (show Sz 3 2 by decide) az,_,rfl,T.bU.a,_,_,_,rfl,T.bU.gd _ _,rfl,rfl,_,_,rfl,rfl,rfl,_,rfl,aU (fun h1=>non (Kd.Gp (by have:=ne 2 0 h1;omega))) (fun h1=> ?_)⟩
  have hlen:=eq 2 0 h1
  exact⟨_,rfl,T.b8.a,_,_,_,rfl,T.b8.gd _ _,rfl,rfl,_,rfl,_,_,rfl,.inr (.inr (.inl ⟨rfl,rfl⟩)),_,rfl,al,_,rfl,.inl (aX.of ha),_,rfl,bl,b,a.length,by rw [la],hb,hz,hlen,hl,fin _ (Kd.LB (by omega))⟩
 ·refine⟨_,rfl,bl,_,rfl,.inl hb,_,rfl,T.bH.a,_,_,_,rfl,T.bH.gd _ _,rfl,rfl,_,rfl,al,_,rfl,.inl (aX.of ha),_,_,rfl,rfl,bo (show Sz 3 6 by decide) az,_,rfl,T.bU.a,_,_,_,rfl,T.bU.gd _ _,rfl,rfl,_,_,rfl,rfl,rfl,_,rfl,aU (fun h1=>non (Kd.Gq (by have:=ne 6 0 h1;omega))) (fun h1=> ?_)⟩
  have hlen:=eq 6 0 h1
  exact⟨_,rfl,T.b8.a,_,_,_,rfl,T.b8.gd _ _,rfl,rfl,_,rfl,_,_,rfl,.inr (.inr (.inr ⟨rfl,rfl⟩)),_,rfl,al,_,rfl,.inl (aX.of ha),_,rfl,bl,b,a.length,by rw [la],hb,hz,hlen,hl,fin _ (Kd.LC (by omega))⟩
def Cf (T:Tx K mg):Sp:=fun vs H Q _=>∃(av:List Addr) (al bl:Addr) (kind:Int) (a b:List Int),vs= [.int kind,.ref al,.ref bl]∧H al=some (.lst (a.map V.int))∧aX K H bl (b.map V.int)∧iy a∧iy b∧a.length≤8000∧al ∉ av∧(∀b∈av,H b≠none)∧∀(v:V) (H':Hp),gG T av H' v (checked (build kind a b))→aC H H'→Q v H'
theorem BP (T:Tx K mg):cM P w base T.wF 10 (Cf T):=by
 refine T.wF.okA B3 ?_
 rintro _ A _ s H _ Q E hr ⟨av,al,bl,kind,a,b,rfl,ha,hb,hza,hzb,hl,nal,hav,k⟩
 refine⟨_,(ac (aQ (IA (pv 0) (FS T.bu)) (ae (aj (be T.ox (xA T) hr (ab (pv 0) (ab (pv 1) (ab (pv 2) ad)))))) aE)
   (ac (aQ (IA (pv 0) (FS T.b8)) (ae (aj (be T.oy (xB T) hr (ab (pv 0) (ab (pv 1) (ab (pv 2) ad)))))) aE)
   (ae (aj ck)))),?_⟩
 refine⟨_,rfl,T.bu.a,_,kind,rfl,T.bu.gd _ _,rfl,_,rfl,aU (fun h1=> ?_) (fun h1=> ?_)⟩
 ·rw [rc] at h1
  have h1':=of_decide_eq_true h1
  simp only [List.map_cons,List.map_nil,List.mem_cons,List.not_mem_nil,or_false] at h1'
  exact⟨_,rfl,_,rfl,_,rfl,av,al,bl,kind,a,b,rfl,h1',aX.of ha,hb,hza,hav,k⟩
 ·refine⟨_,rfl,T.b8.a,_,kind,rfl,T.b8.gd _ _,rfl,_,rfl,aU (fun h2=> ?_) (fun h2=> ?_)⟩
  ·rw [rc] at h2
   have h2':=of_decide_eq_true h2
   simp only [List.map_cons,List.map_nil,List.mem_cons,List.not_mem_nil,or_false] at h2'
   exact⟨_,rfl,_,rfl,_,rfl,av,al,bl,kind,a,b,rfl,h2',ha,hb,hzb,hl,nal,hav,k⟩
  ·rw [rc] at h1 h2
   have h1':=fun q=>h1 (decide_eq_true q)
   have h2':=fun q=>h2 (decide_eq_true q)
   simp only [List.map_cons,List.map_nil,List.mem_cons,List.not_mem_nil,or_false] at h1' h2'
   have e:build kind a b=none:=Kd.Gr a b fun z z1 z2 q=>by
    subst q
    rcases (show kind=0∨kind=1∨kind=2∨kind=3∨kind=4∨kind=5∨kind=6∨kind=7∨kind=8∨kind=9 by omega) with q | q | q | q | q | q | q | q | q | q<;>first | exact(h1' (by omega)).elim | exact(h2' (by omega)).elim
   rw [uf e] at k
   exact k .non H rfl (aC.refl' H)
def Li (b:Bool):Int:=if b=true then 1 else 0
def sf (t:Stream):List (Str×V):= [("state",.int (t.state:Nat)),("seed",.int (t.seed:Nat)),("count",.int t.count),("mirror",.int (Li t.mirror))]
def bD (T:Tx K mg) (H:Hp) (a:Addr) (t:Stream):Prop:=∃dx,H a=some (.ins T.aI.C dx (sf t))
def fZ (H H':Hp) (a:Addr):Prop:=∀b o,H b=some o→b≠a→H' b=some o
def rf (a:Addr) (pos:Nat):List (Str×V):= [("numbers",.ref a),("position",.int (pos:Nat))]
def j3 (T:Tx K mg) (H:Hp) (r a:Addr) (pos:Nat):Prop:=∃dx,H r=some (.ins T.bg.C dx (rf a pos))
theorem fZ.seq {H H':Hp} {a b:Addr} {C dx:Addr} {fs:List (Str×V)} {xs:List V} (k:fZ H H' a) (ha:H a=some (.ins C dx fs)) (h:aX K H b xs):aX K H' b xs:=by
 rcases h with(h | ⟨o,h⟩) | h
 ·exact .inl (.inl (k _ _ h (bb h ha (by intro z;cases z))))
 ·exact .inl (.inr ⟨o,k _ _ h (bb h ha (by intro z;cases z))⟩)
 ·exact .inr h
def v8 (T:Tx K mg):Sp:=DH T.aI.C (fun args fs=>∃s:Nat,args= [.int s]∧fs=sf ⟨s,s,0,false⟩)
theorem fz (T:Tx K mg):pk mg P w base T.dJ 1 (v8 T):=by
 refine T.dJ.okA vQ ?_ (by rintro _ _ _ _ ⟨p,dx,_,_,rfl,⟨s,rfl,rfl⟩,hp,k⟩;rfl)
 rintro _ A _ s H _ Q E hr ⟨p,dx,_,_,rfl,⟨s,rfl,rfl⟩,hp,k⟩
 refine⟨_,(ac (bS (pv 0) (pv 1) rfl)
   (ac (bS (pv 0) (pv 1) rfl)
   (ac (bS (pv 0) am rfl)
   (ae (bS (pv 0) am rfl))))),?_⟩
 refine⟨_,rfl,_,rfl,p,_,dx,[],rfl,hp,T.aI.cl,T.aI.no _ (by decide),(by show 0<1000;decide),?_⟩
 refine⟨_,rfl,_,rfl,p,_,dx,_,rfl,af,T.aI.cl,T.aI.no _ (by decide),(by show 1<1000;decide),?_⟩
 refine⟨_,rfl,p,_,dx,_,rfl,af,T.aI.cl,T.aI.no _ (by decide),(by show 2<1000;decide),?_⟩
 refine⟨_,rfl,p,_,dx,_,rfl,af,T.aI.cl,T.aI.no _ (by decide),(by show 3<1000;decide),?_⟩
 exact k _ af fun b o e hb=>by rw [ak hb,ak hb,ak hb,ak hb];exact e
def wc (T:Tx K mg):Sp:=fun vs H Q _=>∃(a:Addr) (t:Stream),vs= [.ref a]∧bD T H a t∧∀(y:Addr) (H':Hp),bD T H' y t→aC H H'→H y=none→Q (.ref y) H'
theorem vC (T:Tx K mg):pk mg P w base T.lV 3 (wc T):=by
 refine T.lV.okA mC ?_
 rintro _ A _ s H _ Q E hr ⟨a,t,rfl,⟨dx,h1⟩,k⟩
 refine⟨_,(ac (aW 1 mC.nd (xq T.dJ (fz T) hr (ab (ao (pv 0) rfl) ad)))
   (ac (bS (pv 1) (ao (pv 0) rfl) rfl)
   (ac (bS (pv 1) (ao (pv 0) rfl) rfl)
   (ac (bS (pv 1) (ao (pv 0) rfl) rfl)
   (ae (aj (pv 1))))))),?_⟩
 refine⟨_,rfl,a,_,dx,_,_,rfl,h1,T.aI.cl,T.aI.no _ (by decide),rfl,?_⟩
 intro y dy ny nd _
 refine cn ny nd (fun H1 hy s1=> ?_) ⟨t.seed,rfl,rfl⟩
 have nay:a≠y:=aw h1 ny
 have h2:=s1 _ _ h1
 refine⟨_,rfl,a,_,dx,_,_,rfl,h2,T.aI.cl,T.aI.no _ (by decide),rfl,_,rfl,y,_,dy,_,rfl,hy,T.aI.cl,T.aI.no _ (by decide),(by show 4<1000;decide),?_⟩
 refine⟨_,rfl,a,_,dx,_,_,rfl,(by rw [ak nay];exact h2),T.aI.cl,T.aI.no _ (by decide),rfl,_,rfl,y,_,dy,_,rfl,af,T.aI.cl,T.aI.no _ (by decide),(by show 4<1000;decide),?_⟩
 refine⟨_,rfl,a,_,dx,_,_,rfl,(by rw [ak nay,ak nay];exact h2),T.aI.cl,T.aI.no _ (by decide),rfl,_,rfl,y,_,dy,_,rfl,af,T.aI.cl,T.aI.no _ (by decide),(by show 4<1000;decide),?_⟩
 refine⟨_,rfl,?_⟩
 exact k y _ ⟨dy,af⟩ (fun b o e=>by
  have nb:b≠y:=aw e ny
  rw [ak nb,ak nb,ak nb]
  exact s1 _ _ e) ny
def nh (t:Stream) (steps:Int):Stream:={t with state:=Lc.jw (Lc.pw (steps%18446744073709551616).toNat) t.state,count:=t.count+steps}
def v9 (T:Tx K mg):Sp:=fun vs H Q _=>∃(a:Addr) (t:Stream) (steps:Int),vs= [.ref a,.int steps]∧bD T H a t∧∀H':Hp,bD T H' a (nh t steps)→fZ H H' a→Q .non H'
theorem mf (T:Tx K mg):pk mg P w base T.jb 5 (v9 T):=by
 refine T.jb.okA vR ?_
 rintro _ A _ s H _ Q E hr ⟨a,t,steps,rfl,⟨dx,h1⟩,k⟩
 refine⟨_,(ac (bS (pv 0) (wB (be T.rk (uy T) hr (ab (pv 1) ad)) T.dR (eS T) hr (ab (ao (pv 0) rfl) ad)) rfl)
   (ae (qW (pv 0) (pv 1) BD))),?_⟩
 refine⟨_,rfl,steps,rfl,fun x H1 ⟨dl,hl⟩ s1=> ?_⟩
 have h2:=s1 _ _ h1
 refine⟨x,dl,_,rfl,hl,rfl,_,rfl,a,_,dx,_,_,rfl,h2,T.aI.cl,T.aI.no _ (by decide),rfl,x,_,t.state,rfl,⟨dl,hl⟩,Lc.kg _,?_⟩
 refine⟨_,rfl,a,_,dx,_,rfl,h2,T.aI.cl,T.aI.no _ (by decide),(by show 4<1000;decide),?_⟩
 refine⟨_,rfl,a,_,dx,_,_,rfl,af,T.aI.cl,T.aI.no _ (by decide),rfl,_,rfl,_,_,rfl,rfl,dx,_,af,(by show 4<1000;decide),?_⟩
 exact k _ ⟨dx,af⟩ fun b o e hb=>by rw [ak hb,ak hb];exact s1 _ _ e
theorem yN (x:Nat):((6364136223846793005:Int)*(x:Int)+1442695040888963407)%18446744073709551616=((Vbdeab.next x:Nat):Int):=by
 unfold Vbdeab.next
 rw [Int.natCast_emod,Int.natCast_add,Int.natCast_mul]
 rfl
theorem JE (x:Nat):((x:Int) /4294967296)=((Vbdeab.out x:Nat):Int):=by
 unfold Vbdeab.out
 rw [Int.natCast_ediv]
 rfl
theorem KR {x:Nat} (h:x<Vbdeab.P):Vbdeab.out x<4294967296:=Nat.div_lt_of_lt_mul h
theorem uJ (t:Stream):(Vbdeab.raw t).1={t with state:=Vbdeab.next t.state,count:=t.count+1}:=by rw [Vbdeab.raw]
theorem JP (t:Stream):(Vbdeab.raw t).2=if t.mirror=true then 4294967296 - 1 - Vbdeab.out (Vbdeab.next t.state) else Vbdeab.out (Vbdeab.next t.state):=by
 rw [Vbdeab.raw]
 rfl
def oe (T:Tx K mg):Sp:=fun vs H Q _=>∃(a:Addr) (t:Stream),vs= [.ref a]∧bD T H a t∧∀H':Hp,bD T H' a (Vbdeab.raw t).1→fZ H H' a→Q (.int ((Vbdeab.raw t).2:Nat)) H'
theorem bF (T:Tx K mg):pk mg P w base T.br 1 (oe T):=by
 refine T.br.okA h9 ?_
 rintro _ A _ s H _ Q E hr ⟨a,t,rfl,⟨dx,h1⟩,k⟩
 refine⟨_,(ac (bS (pv 0) (aB sU (aB bG (aB aH (dI T.z7) (ao (pv 0) rfl)) (dI T.wK)) (dI T.qS)) rfl)
   (ac (qW (pv 0) am BD)
   (ac (aW 1 h9.nd (aB bV (ao (pv 0) rfl) (dI T.cK)))
   (ac (aQ (aO oR (ao (pv 0) rfl) am (aV _)) (ae (aj (aB bI (aB bI (dI T.cK) am) (pv 1)))) aE)
   (ae (aj (pv 1))))))),?_⟩
 refine⟨_,rfl,a,_,dx,_,_,rfl,h1,T.aI.cl,T.aI.no _ (by decide),rfl,_,_,rfl,rfl,l9 (by decide) (by decide),_,_,rfl,rfl,_,_,rfl,rfl,(by show(0:Int)<18446744073709551616;decide),?_⟩
 refine⟨_,rfl,a,_,dx,_,rfl,h1,T.aI.cl,T.aI.no _ (by decide),(by show 4<1000;decide),?_⟩
 refine⟨_,rfl,a,_,dx,_,_,rfl,af,T.aI.cl,T.aI.no _ (by decide),rfl,_,_,rfl,rfl,dx,_,af,(by show 4<1000;decide),?_⟩
 refine⟨_,rfl,a,_,dx,_,_,rfl,af,T.aI.cl,T.aI.no _ (by decide),rfl,_,_,rfl,rfl,⟨by decide,by decide+kernel⟩,?_⟩
 have kp:∀H2:Hp,H2 a=some (.ins T.aI.C dx (sf {t with state:=Vbdeab.next t.state,count:=t.count+1}))→fZ H H2 a→Q (.int ((Vbdeab.raw t).2:Nat)) H2:=fun H2 e1 e2=>k H2 (by rw [uJ];exact⟨dx,e1⟩) e2
 rw [JP] at kp
 have e3:((((6364136223846793005:Int)*(t.state:Int)+1442695040888963407)%18446744073709551616) /4294967296)=((Vbdeab.out (Vbdeab.next t.state):Nat):Int):=by rw [yN,JE]
 have hat:∀(z:Int),z=((Vbdeab.next t.state:Nat):Int)→(some (HO.ins T.aI.C dx (jo "count" (.int (t.count+1)) (jo "state" (.int z) (sf t)))):Option HO)=some (.ins T.aI.C dx (sf {t with state:=Vbdeab.next t.state,count:=t.count+1})):=fun z e=>by rw [e];rfl
 refine⟨_,rfl,a,_,dx,_,_,rfl,af,T.aI.cl,T.aI.no _ (by decide),rfl,rfl,_,rfl,aU (fun hm=> ?_) (fun hm=> ?_)⟩
 ·have hm':t.mirror=true:=by
   have:=V.int.inj (of_decide_eq_true hm)
   unfold Li at this
   by_cases q:t.mirror=true
   ·exact q
   ·rw [if_neg q] at this;cases this
  refine⟨_,_,rfl,rfl,_,rfl,_,_,rfl,rfl,?_⟩
  rw [if_pos hm'] at kp
  show Q (.int ((4294967296:Int) - 1 - _)) _
  rw [e3]
  have hlt:Vbdeab.out (Vbdeab.next t.state)<4294967296:=KR (Nat.mod_lt _ Lc.Ad)
  have e4:(4294967296:Int) - 1 - ((Vbdeab.out (Vbdeab.next t.state):Nat):Int)=((4294967296 - 1 - Vbdeab.out (Vbdeab.next t.state):Nat):Int):=by omega
  rw [e4]
  exact kp _ (af.trans (hat _ (yN _))) fun b o e hb=>by rw [ak hb,ak hb];exact e
 ·have hm':¬t.mirror=true:=fun q=>hm (decide_eq_true (by unfold Li;rw [if_pos q]))
  refine⟨_,rfl,?_⟩
  rw [if_neg hm'] at kp
  show Q (.int _) _
  rw [e3]
  exact kp _ (af.trans (hat _ (yN _))) fun b o e hb=>by rw [ak hb,ak hb];exact e
def Cj (T:Tx K mg):Sp:=fun vs H Q _=>∃(u:Nat) (many:Int),vs= [.int u,.int many]∧u<4294967296∧Q (.int ((u:Int)*many /4294967296)) H
theorem uA (T:Tx K mg):cM P w base T.rl 1 (Cj T):=by
 refine T.rl.okA B5 ?_
 rintro _ A _ s H _ Q E hr ⟨u,many,rfl,hu,k⟩
 refine⟨_,(ae (aj (aB bV (aB aH (pv 0) (pv 1)) (dI T.cK)))),?_⟩
 exact⟨_,rfl,_,rfl,_,_,rfl,rfl,l9 (by omega) (by omega),_,_,rfl,rfl,⟨by decide,by decide+kernel⟩,k⟩
theorem Jv {l:List Int} {i:Nat} {z:Int} (h:l[i]?=some z):(l.map V.int)[i]?=some (V.int z):=by rw [List.getElem?_map,h];rfl
theorem yt {l:List Int} {i:Nat} {z:Int} {k:Int} (e:k=(i:Int)) (h:l[i]?=some z):He (l.map V.int) k=some (V.int z):=rL e (Jv h)
theorem Ie {l:List Int} (h:∀x∈l,0≤x) {i:Nat} (hi:i<l.length):l[i]?=some (((l.map Int.toNat)[i]'(by rw [List.length_map];exact hi):Nat):Int):=by
 rw [List.getElem?_eq_getElem hi]
 congr 1
 rw [List.getElem_map,Int.toNat_of_nonneg (h _ (List.getElem_mem hi))]
def vb (T:Tx K mg):Sp:=fun vs H Q _=>∃(u:Nat) (a:Addr) (ns:List Int),vs= [.int u,.ref a]∧u<4294967296∧aX K H a (ns.map V.int)∧(weights ns).isSome=true∧Q (.int (chosen (ns.map Int.toNat) u:Nat)) H
theorem k9 (T:Tx K mg):cM P w base T.im 1 (vb T):=by
 refine T.im.okA cS ?_
 rintro _ A _ s H _ Q E hr ⟨u,a,ns,rfl,hu,hs,hw,k⟩
 refine⟨_,(ac (aW 2 cS.nd (aB aH (pv 0) (a5 (Bx rfl) (by rfl) T.FU (by rfl) (ab (pv 1) ad))))
   (ac (aW 3 cS.nd am)
   (ac (aW 4 cS.nd (fP (pv 1) am))
   (ac (jk PassesOwn.never (aO Fz (pv 2) (aB aH (dI T.cK) (pv 4)) (aV _)) (ac (lN (i:=3) cS.nd rfl (Or.inl rfl) am j8)
   (ae (lN (i:=4) cS.nd rfl (Or.inl rfl) (fP (pv 1) (pv 3)) j8))))
   (ae (aj (pv 3))))))),?_⟩
 obtain⟨nn,_,l1,l2,s1,s2⟩:=ij hw
 have hsum:=mL nn
 refine⟨_,rfl,_,rfl,a,ns,rfl,hs,_,_,rfl,rfl,l9 (by omega) (by omega),?_⟩
 have h0:=Ie nn (i:=0) (by omega)
 refine⟨_,rfl,a,_,_,_,rfl,rfl,hs,yt (i:=0) rfl h0,?_⟩
 have hwl:(ns.map Int.toNat).length=ns.length:=List.length_map ..
 refine⟨fun m σ H'=>∃i:Nat,m+i=ns.length∧σ= [some (.int u),some (.ref a),some (.int ((u*Vbdeab.sum (ns.map Int.toNat):Nat):Int)),some (.int i),some (.int ((Vbdeab.sum ((ns.map Int.toNat).take (i+1)):Nat):Int))]∧Ch.Bt (ns.map Int.toNat) (u*Vbdeab.sum (ns.map Int.toNat)) i∧H'=H,⟨ns.length,?_⟩,?_⟩
 ·refine⟨0,rfl,?_,Ch.Bt.start (by omega),rfl⟩
  rw [hsum,Ch.c7 (List.getElem?_eq_getElem (show 0<(ns.map Int.toNat).length by omega)),Int.natCast_mul]
  simp only [List.take_zero,Ch.sum_nil,Nat.zero_add]
  rfl
 ·rintro m σ H' ⟨i,hm,rfl,sk,rfl⟩
  have hM:(4294967296:Nat)=Vbdeab.M:=rfl
  refine⟨_,rfl,_,rfl,_,_,rfl,rfl,l9 (by decide) (by decide),_,_,rfl,rfl,_,rfl,aU (fun hl=>⟨_,fun _ _ z=>z,?_⟩) (fun hl=> ?_)⟩
  ·have hl':(4294967296:Int)*((Vbdeab.sum ((ns.map Int.toNat).take (i+1)):Nat):Int)≤((u*Vbdeab.sum (ns.map Int.toNat):Nat):Int):=of_decide_eq_true hl
   have hl2:Vbdeab.M*Vbdeab.sum ((ns.map Int.toNat).take (i+1))≤u*Vbdeab.sum (ns.map Int.toNat):=by
    rw [←hM]
    exact Int.ofNat_le.mp (by rw [Int.natCast_mul 4294967296];exact hl')
   have sk':=sk.next (Ch.Fu (by rw [←hM];exact hu) (by omega)) hl2
   have hi1:i+1<ns.length:=by have:=sk'.lt;omega
   refine⟨_,rfl,_,_,rfl,rfl,?_⟩
   refine⟨_,rfl,_,rfl,_,rfl,a,_,_,_,rfl,rfl,hs,yt (i:=i+1) rfl (Ie nn hi1),_,_,rfl,rfl,?_⟩
   refine⟨m - 1,by omega,i+1,by omega,?_,sk',rfl⟩
   rw [Ch.c7 (l:=ns.map Int.toNat) (i:=i+1) (List.getElem?_eq_getElem (by omega)),Int.natCast_add (Vbdeab.sum _)]
   rfl
  ·have hl':¬(4294967296:Int)*((Vbdeab.sum ((ns.map Int.toNat).take (i+1)):Nat):Int)≤((u*Vbdeab.sum (ns.map Int.toNat):Nat):Int):=fun z=>hl (decide_eq_true z)
   have hl2:u*Vbdeab.sum (ns.map Int.toNat)<Vbdeab.M*Vbdeab.sum ((ns.map Int.toNat).take (i+1)):=by
    rw [←hM]
    refine Int.ofNat_lt.mp ?_
    rw [Int.natCast_mul 4294967296]
    exact Int.not_le.mp hl'
   refine⟨_,rfl,?_⟩
   have e:=sk.stop hl2
   unfold chosen at k
   rw [e] at k
   exact k
theorem wT {l:List Int} {i:Nat} {z:Int}:(l.map V.int).set i (V.int z)=(l.set i z).map V.int:=List.map_set.symm
theorem m7 {n i:Nat} {k:Int} (e:k=(i:Int)) (h:i<n):Jc n k=some i:=by
 subst e
 unfold Jc
 rw [if_pos (Int.natCast_nonneg i),if_pos (by omega)]
 rfl
theorem Ms {l:List Int} {i j:Nat} {x y:Int} (hx:l[i]?=some x) (hy:l[j]?=some y):(l.set i y).set j x=exchange l i j:=by
 unfold exchange
 rw [List.getD_eq_getElem?_getD,List.getD_eq_getElem?_getD,hx,hy]
 rfl
theorem Hz {xs:List V} {m:Nat} {k:Int} (e:k=(m:Int)) (h:m≤xs.length):rq xs none (some k)=xs.take m:=by
 subst e
 unfold rq HT.sIx
 simp only [Int.toNat_natCast]
 rw [if_neg (by omega),Nat.min_eq_left h]
 rfl
def Ay (T:Tx K mg):Sp:=fun vs H Q _=>∃(a r:Addr) (t:Stream) (l:List Int) (m:Nat),vs= [.ref a,.ref r,.int m]∧bD T H a t∧aX K H r (l.map V.int)∧l.length≤1000∧m≤l.length∧∀(H':Hp) (p:Addr),H' p=some (.lst (((shuffled l.length (Vbdeab.raws m t).2 0 l).take m).map V.int))→bD T H' a (Vbdeab.raws m t).1→fZ H H' a→H p=none→Q (.ref p) H'
theorem lM (T:Tx K mg):cM P w base T.kT 2 (Ay T):=by
 refine T.kT.okA ga ?_
 rintro _ A _ s H _ Q E hr ⟨a,r,t,l,m,rfl,⟨da,h1⟩,hs,hl,hm,k⟩
 refine⟨_,(ac (aW 3 ga.nd (mj mT (by rfl) T.Ab (by rfl) (ab (pv 1) ad)))
   (ac (cZ PassesOwn.never rfl (bR rfl T.cr (ab (pv 2) ad)) (i9 4 ga.nd) (ac (aW 5 ga.nd (aB bG (pv 4) (be T.rl (uA T) hr (ab (dm (pv 0) T.br (bF T) hr) (ab (aB bI (a5 aT (by rfl) T.eV PySem.boot_len (ab (pv 3) ad)) (pv 4)) ad)))))
   (ac (aW 6 ga.nd (fP (pv 3) (pv 4)))
   (ac (nJ (fP (pv 3) (pv 5)) (nG (pv 3) (pv 4) gc))
   (ae (nJ (pv 6) (nG (pv 3) (pv 5) gc)))))))
   (ae (aj (uG yk (pv 3) JJ (nI (pv 2))))))),?_⟩
 refine⟨_,rfl,r,_,rfl,.inl hs,fun q hq=> ?_⟩
 have naq:a≠q:=aw h1 hq
 refine⟨_,rfl,m,rfl,by omega,by omega,fy (n:=(m:Int).toNat) (fun i σ H'=>∃v1 v2 v3:Option V,σ= [some (.ref a),some (.ref r),some (.int m),some (.ref q),v1,v2,v3]∧H' q=some (.lst ((shuffled l.length (Vbdeab.raws i t).2 0 l).map V.int))∧bD T H' a (Vbdeab.raws i t).1∧∀b o,H b=some o→b≠a→H' b=some o) ?_ ?_ ?_⟩
 ·refine⟨none,none,none,rfl,?_,⟨da,?_⟩,fun b o e _=> ?_⟩
  ·rw [af,Ch.cy]
   rfl
  ·rw [ak naq,Ch.cy]
   exact h1
  ·rw [ak (aw e hq)]
   exact e
 ·rintro i σ H1 hi ⟨v1,v2,v3,rfl,hq1,⟨d1,ha1⟩,kp⟩
  have hi':i<m:=by omega
  have hlen:(shuffled l.length (Vbdeab.raws i t).2 0 l).length=l.length:=Ch.fF _ _ _ _
  refine⟨_,rfl,_,rfl,a,d1,_,rfl,ha1,rfl,a,_,rfl,⟨d1,ha1⟩,fun H2 ⟨d2,ha2⟩ kp2=> ?_⟩
  have hq2:H2 q=some (.lst ((shuffled l.length (Vbdeab.raws i t).2 0 l).map V.int)):=kp2 _ _ hq1 (Ne.symm naq)
  refine⟨_,rfl,q,_,rfl,.inl (aX.of hq2),_,rfl,_,_,rfl,rfl,_,_,rfl,Ch.sY,_,_,rfl,rfl,?_⟩
  have ej:(0:Int)+(i:Int)+((((Vbdeab.raw (Vbdeab.raws i t).1).2:Nat):Int)*((((shuffled l.length (Vbdeab.raws i t).2 0 l).map V.int).length:Int) - (0+(i:Int))) /4294967296)=((i+(Vbdeab.raw (Vbdeab.raws i t).1).2*(l.length - i) /Vbdeab.M:Nat):Int):=by
   rw [List.length_map,hlen,Int.zero_add,Int.natCast_add,Int.natCast_ediv,Int.natCast_mul,Int.natCast_sub (by omega)]
   rfl
  have hj:=Ch.Iy (n:=l.length) (i:=i) (u:=(Vbdeab.raw (Vbdeab.raws i t).1).2) (by omega) Ch.sY
  have gi:=List.getElem?_eq_getElem (show i<(shuffled l.length (Vbdeab.raws i t).2 0 l).length by omega)
  have gj:=List.getElem?_eq_getElem (show(i+(Vbdeab.raw (Vbdeab.raws i t).1).2*(l.length - i) /Vbdeab.M)<(shuffled l.length (Vbdeab.raws i t).2 0 l).length by omega)
  refine⟨_,rfl,_,rfl,q,_,_,_,rfl,rfl,aX.of hq2,yt (i:=i) (Int.zero_add _) gi,?_⟩
  refine⟨_,rfl,_,rfl,q,_,_,_,rfl,rfl,aX.of hq2,yt ej gj,_,rfl,_,rfl,q,_,_,i,rfl,rfl,hq2,m7 (Int.zero_add _) (by rw [List.length_map];omega),?_⟩
  refine⟨_,rfl,_,rfl,_,rfl,q,_,_,_,rfl,rfl,af,m7 ej (by rw [List.length_set,List.length_map];omega),?_⟩
  refine⟨_,_,_,rfl,?_,⟨d2,?_⟩,fun b o e nb=> ?_⟩
  ·rw [af,wT,wT,Ms gi gj,Ch.eu,Ch.sj,Ch.fc]
   simp only [Nat.zero_add]
  ·rw [ak naq,ak naq,ha2,Ch.eu]
  ·have nbq:b≠q:=aw e hq
   rw [ak nbq,ak nbq]
   exact kp2 _ _ (kp _ _ e nb) nb
 ·rintro σ H1 ⟨v1,v2,v3,rfl,hq1,ha1,kp⟩
  rw [Int.toNat_natCast] at hq1 ha1
  have hlen:(shuffled l.length (Vbdeab.raws m t).2 0 l).length=l.length:=Ch.fF _ _ _ _
  refine⟨_,rfl,_,rfl,m,rfl,q,_,rfl,aX.of hq1,fun p hp=> ?_⟩
  rw [Hz rfl (by rw [List.length_map];omega),←List.map_take]
  obtain⟨d1,ha1⟩:=ha1
  refine k _ p af ⟨d1,?_⟩ (fun b o e nb=> ?_) ?_
  ·rw [ak (aw ha1 hp)]
   exact ha1
  ·have e1:=kp _ _ e nb
   rw [ak (aw e1 hp)]
   exact e1
  ·cases e:H p with
   | none=>rfl
   | some o=>
    by_cases z:p=a
    ·rw [z,ha1] at hp;cases hp
    ·rw [kp _ _ e z] at hp;cases hp
def v7 (T:Tx K mg):Sp:=DH T.bg.C (fun args fs=>∃a:Addr,args= [.ref a]∧fs=rf a 0)
theorem vB (T:Tx K mg):pk mg P w base T.lU 1 (v7 T):=by
 refine T.lU.okA vP ?_ (by rintro _ _ _ _ ⟨p,dx,_,_,rfl,⟨a,rfl,rfl⟩,hp,k⟩;rfl)
 rintro _ A _ s H _ Q E hr ⟨p,dx,_,_,rfl,⟨a,rfl,rfl⟩,hp,k⟩
 refine⟨_,(ac (bS (pv 0) (pv 1) rfl)
   (ae (bS (pv 0) am rfl))),?_⟩
 refine⟨_,rfl,_,rfl,p,_,dx,[],rfl,hp,T.bg.cl,T.bg.no _ (by decide),(by show 0<1000;decide),?_⟩
 refine⟨_,rfl,p,_,dx,_,rfl,af,T.bg.cl,T.bg.no _ (by decide),(by show 1<1000;decide),?_⟩
 exact k _ af fun b o e hb=>by rw [ak hb,ak hb];exact e
def tD (T:Tx K mg):Sp:=fun vs H Q _=>∃(r a:Addr) (pos:Nat) (ns:List Int),vs= [.ref r]∧j3 T H r a pos∧aX K H a (ns.map V.int)∧Q (.bl (decide (ns.length≤pos))) H
theorem sK (T:Tx K mg):pk mg P w base T.jC 1 (tD T):=by
 refine T.jC.okA tm ?_
 rintro _ A _ s H _ Q E hr ⟨r,a,pos,ns,rfl,⟨dx,h1⟩,hs,k⟩
 refine⟨_,(ae (aj (BS Fz (ao (pv 0) rfl) (a5 aT (by rfl) T.eV PySem.boot_len (ab (ao (pv 0) rfl) ad)) (aV _)))),?_⟩
 refine⟨_,rfl,r,_,dx,_,_,rfl,h1,T.bg.cl,T.bg.no _ (by decide),rfl,_,rfl,r,_,dx,_,_,rfl,h1,T.bg.cl,T.bg.no _ (by decide),rfl,a,_,rfl,.inl hs,_,_,rfl,rfl,?_⟩
 have e:decide (((ns.map V.int).length:Int)≤(pos:Int))=decide (ns.length≤pos):=by
  rw [List.length_map]
  by_cases q:ns.length≤pos
  ·rw [decide_eq_true q,decide_eq_true (Int.ofNat_le.mpr q)]
  ·rw [decide_eq_false q,decide_eq_false fun z=>q (Int.ofNat_le.mp z)]
 show Q (.bl _) H
 rw [e]
 exact k
def mG (T:Tx K mg):Sp:=fun vs H Q _=>∃(r a:Addr) (pos:Nat) (ns:List Int) (z:Int),vs= [.ref r]∧j3 T H r a pos∧aX K H a (ns.map V.int)∧ns[pos]?=some z∧∀H':Hp,j3 T H' r a (pos+1)→fZ H H' r→Q (.int z) H'
theorem ah (T:Tx K mg):pk mg P w base T.au 1 (mG T):=by
 refine T.au.okA mB ?_
 rintro _ A _ s H _ Q E hr ⟨r,a,pos,ns,z,rfl,⟨dx,h1⟩,hs,hz,k⟩
 refine⟨_,(ac (aW 1 mB.nd (fP (ao (pv 0) rfl) (ao (pv 0) rfl)))
   (ac (qW (pv 0) am BD)
   (ae (aj (pv 1))))),?_⟩
 refine⟨_,rfl,r,_,dx,_,_,rfl,h1,T.bg.cl,T.bg.no _ (by decide),rfl,_,rfl,r,_,dx,_,_,rfl,h1,T.bg.cl,T.bg.no _ (by decide),rfl,a,_,_,_,rfl,rfl,hs,yt rfl hz,?_⟩
 refine⟨_,rfl,r,_,dx,_,_,rfl,h1,T.bg.cl,T.bg.no _ (by decide),rfl,_,_,rfl,rfl,dx,_,h1,(by show 2<1000;decide),?_⟩
 refine⟨_,rfl,?_⟩
 exact k _ ⟨dx,af⟩ fun b o e hb=>by rw [ak hb];exact e
theorem Jl {xs:List V} {i n:Nat} {k j:Int} (ek:k=(i:Int)) (ej:j=((i+n:Nat):Int)) (h:i+n≤xs.length):rq xs (some k) (some j)=(xs.drop i).take n:=by
 subst ek ej
 unfold rq HT.sIx
 simp only [Int.toNat_natCast]
 rw [if_neg (by omega),if_neg (by omega),Nat.min_eq_left (show i≤xs.length by omega),Nat.min_eq_left h]
 congr 1
 omega
def qx (T:Tx K mg):Sp:=fun vs H Q _=>∃(r a:Addr) (pos n:Nat) (ns:List Int),vs= [.ref r]∧j3 T H r a pos∧aX K H a (ns.map V.int)∧ns[pos]?=some (n:Int)∧pos+1+n≤ns.length∧∀(H':Hp) (p:Addr),j3 T H' r a (pos+1+n)→H' p=some (.lst (((ns.drop (pos+1)).take n).map V.int))→fZ H H' r→H p=none→Q (.ref p) H'
theorem cP (T:Tx K mg):pk mg P w base T.cq 2 (qx T):=by
 refine T.cq.okA fj ?_
 rintro _ A _ s H _ Q E hr ⟨r,a,pos,n,ns,rfl,⟨dx,h1⟩,hs,hz,hn,k⟩
 refine⟨_,(ac (aW 1 fj.nd (dm (pv 0) T.au (ah T) hr))
   (ac (aW 2 fj.nd (ao (pv 0) rfl))
   (ac (qW (pv 0) (pv 1) BD)
   (ae (aj (uG yk (ao (pv 0) rfl) (nI (pv 2)) (nI (ao (pv 0) rfl)))))))),?_⟩
 refine⟨_,rfl,r,dx,_,rfl,h1,rfl,r,a,pos,ns,_,rfl,⟨dx,h1⟩,hs,hz,fun H1 ⟨d1,hr1⟩ kp1=> ?_⟩
 have hs1:aX K H1 a (ns.map V.int):=kp1.seq h1 hs
 refine⟨_,rfl,r,_,d1,_,_,rfl,hr1,T.bg.cl,T.bg.no _ (by decide),rfl,?_⟩
 refine⟨_,rfl,r,_,d1,_,_,rfl,hr1,T.bg.cl,T.bg.no _ (by decide),rfl,_,rfl,_,_,rfl,rfl,d1,_,hr1,(by show 2<1000;decide),?_⟩
 have hs2:aX K (bC H1 r (.ins T.bg.C d1 (jo "position" (.int (((pos+1:Nat):Int)+(n:Int))) (rf a (pos+1))))) a (ns.map V.int):=fZ.seq (fun b o e hb=>by rw [ak hb];exact e) hr1 hs1
 refine⟨_,rfl,r,_,d1,_,_,rfl,af,T.bg.cl,T.bg.no _ (by decide),rfl,_,rfl,_,rfl,_,rfl,r,_,d1,_,_,rfl,af,T.bg.cl,T.bg.no _ (by decide),rfl,_,rfl,a,_,rfl,hs2,fun p hp=> ?_⟩
 rw [Jl rfl (show(((pos+1:Nat):Int)+(n:Int))=((pos+1+n:Nat):Int) by omega) (by rw [List.length_map];exact hn),←List.map_drop,←List.map_take]
 have nrp:r≠p:=aw af hp
 refine k _ p ⟨d1,?_⟩ af (fun b o e hb=> ?_) ?_
 ·rw [ak nrp,af]
  have e:jo "position" (.int (((pos+1:Nat):Int)+(n:Int))) (rf a (pos+1))=rf a (pos+1+n):=by
   rw [show(((pos+1:Nat):Int)+(n:Int))=((pos+1+n:Nat):Int) by omega]
   rfl
  rw [e]
 ·have e1:bC H1 r (.ins T.bg.C d1 (jo "position" (.int (((pos+1:Nat):Int)+(n:Int))) (rf a (pos+1)))) b=some o:=by rw [ak hb];exact kp1 _ _ e hb
  rw [ak (aw e1 hp)]
  exact e1
 ·cases e:H p with
  | none=>rfl
  | some o=>
   rw [ak (Ne.symm nrp),kp1 _ _ e (Ne.symm nrp)] at hp
   cases hp
def je (T:Tx K mg) (H:Hp) (rs:List Addr) (l:List (Int×Int)):Prop:=rs.length=l.length∧∀(j:Nat) r q,rs[j]?=some r→l[j]?=some q→dW T H r q.1 q.2
theorem je.si {T:Tx K mg} {H H':Hp} {rs:List Addr} {l:List (Int×Int)} (h:je T H rs l) (s:fH H H'):je T H' rs l:=⟨h.1,fun j r q a b=>(h.2 j r q a b).si s⟩
theorem Mr {xs:List V} {i n:Nat} {k j:Int} (ek:k=(i:Int)) (ej:j=((i+n:Nat):Int)) (h:i≤xs.length):rq xs (some k) (some j)=(xs.drop i).take n:=by
 subst ek ej
 unfold rq HT.sIx
 simp only [Int.toNat_natCast]
 rw [if_neg (by omega),if_neg (by omega),Nat.min_eq_left h]
 rcases Nat.lt_or_ge (i+n) xs.length with q | q
 ·rw [Nat.min_eq_left (by omega)]
  congr 1
  omega
 ·rw [Nat.min_eq_right (by omega),List.take_of_length_le (by rw [List.length_drop];omega),List.take_of_length_le (by rw [List.length_drop];omega)]
def eQ (l:List (Int×Int)) (j:Nat):Int:=(l.getD j (0,1)).2
def FO (l:List (Int×Int)) (j:Nat):Int:=(l.getD j (0,1)).1
theorem zd {T:Tx K mg} {H:Hp} {rs:List Addr} {l:List (Int×Int)} (h:je T H rs l) {j:Nat} (hj:j<l.length):∃r,rs[j]?=some r∧dW T H r (FO l j) (eQ l j):=by
 obtain⟨r,hr⟩:∃r,rs[j]?=some r:=⟨_,List.getElem?_eq_getElem (by rw [h.1];exact hj)⟩
 refine⟨r,hr,?_⟩
 have e:l[j]?=some (l.getD j (0,1)):=by rw [List.getD_eq_getElem?_getD,List.getElem?_eq_getElem hj];rfl
 exact h.2 j r _ hr e
def My:Str:="all_lowest.<locals>.<lambda>"
def TB (P:Addr) (H:Hp):Prop:=H P=some (.tbl #[])∨∃c':Addr,H P=some (.tbl #[rawInt 318,rawInt 44,.ref c'])∧H c'=some (.ext fun h=>h.CodeRec (.ref c') My)
theorem TB.keep {P:Addr} {H H':Hp} (h:TB P H) (k1:∀b ps,H b=some (.tbl ps)→H' b=some (.tbl ps)) (k2:∀b φ,H b=some (.ext φ)→H' b=some (.ext φ)):TB P H':=by
 rcases h with h | ⟨c',h1,h2⟩
 ·exact .inl (k1 _ _ h)
 ·exact .inr ⟨c',k1 _ _ h1,k2 _ _ h2⟩
def E7 (T:Tx K mg) (P:Addr):Prop:=∃c,T.cJ.fd.code= .ref c∧∀h:Heap,K.In h→PySem.W.CodeHd h c P
structure KQ (av:List Addr) (H H':Hp):Prop extends KP av H H' where
 t:∀P,TB P H→TB P H'
 x:∀b o u,H b=some (.frz o u)→H' b=some (.frz o u)
theorem KQ.same {av:List Addr} {H H':Hp} (s:aC H H'):KQ av H H':=⟨.same s,fun _ h=>h.keep (fun _ _ e=>s _ _ e) fun _ _ e=>s _ _ e,fun _ _ _ e=>s _ _ e⟩
theorem KQ.tab {av:List Addr} {H H':Hp} {P:Addr} (k:fZ H H' P) (h:TB P H) (h':TB P H'):KQ av H H':=by
 obtain⟨ps,hP⟩:∃ps,H P=some (.tbl ps):=by
  rcases h with h | ⟨c',h,_⟩
  ·exact⟨_,h⟩
  ·exact⟨_,h⟩
 refine⟨⟨fun b C dx fs e _=>k _ _ e (bb e hP (by intro z;cases z)),fun b xs e _=>k _ _ e (bb e hP (by intro z;cases z))⟩,fun P2 h2=> ?_,fun b o u e=>k _ _ e (bb e hP (by intro z;cases z))⟩
 by_cases q:P2=P
 ·rw [q];exact h'
 ·rcases h2 with h2 | ⟨c',h2,h3⟩
  ·exact .inl (k _ _ h2 q)
  ·exact .inr ⟨c',k _ _ h2 q,k _ _ h3 (bb h3 hP (by intro z;cases z))⟩
def kW (T:Tx K mg):Sp:=fun vs H Q _=>∃(a c:Addr) (rs:List Addr) (l:List (Int×Int)) (ps:List Nat) (st:Nat),vs= [.ref a,.ref c,.int st]∧H a=some (.lst (rs.map V.ref))∧je T H rs l∧H c=some (.lst (cH ps))∧(∀p∈ps,p<l.length)∧st<ps.length∧∀(H':Hp) (p:Addr),H' p=some (.lst (cH (((ps.drop st).take 16).filter fun j=>decide (eQ l j=eQ l (ps.getD st 0)))))→aC H H'→H p=none→Q (.ref p) H'
theorem kU (T:Tx K mg):cM P w base T.d6 1 (kW T):=by
 refine T.d6.okA cx ?_
 rintro _ A _ s H _ Q E hr ⟨a,c,rs,l,ps,st,rfl,ha,hx,hc,hlt,hst,k⟩
 refine⟨_,(ac (aW 3 cx.nd (ao (fP (pv 0) (fP (pv 1) (pv 2))) rfl))
   (ae (aj (iB (own:= [("place",4)]) rfl cx.nd (bW (uG yk (pv 1) (nI (pv 2)) (nI (aB bG (pv 2) (dI T.JZ))))) (bK (N:= ["ratios","places","start","bottom","place"]) (sc:=ag dG) (by decide+kernel)) (fun _ _ _ _ _=>(i9 4 cx.nd)) (fun _ _ _ _ _=>(BW (aO oR (uE (K':=K) (Dg (ul (K':=K) rfl) (pv 0) (pv 4) (fun _ _=>rfl)) (by rfl) rfl) (pv 3) (aV _)))) (fun _ _ _ _ _=>(pv 4)))))),?_⟩
 have e0:ps[st]?=some (ps.getD st 0):=by rw [List.getD_eq_getElem?_getD,List.getElem?_eq_getElem hst];rfl
 obtain⟨r0,hr0,⟨d0,h0⟩⟩:=zd hx (hlt _ (List.mem_of_getElem? e0))
 refine⟨_,rfl,_,rfl,_,rfl,c,_,_,_,rfl,rfl,aX.of hc,m6 rfl e0,a,_,_,_,rfl,rfl,aX.of ha,lh rfl hr0,r0,_,d0,_,_,rfl,h0,T.aA.cl,T.aA.no _ (by decide),rfl,?_⟩
 refine⟨_,rfl,_,rfl,st,rfl,_,rfl,_,_,rfl,rfl,_,rfl,c,_,rfl,aX.of hc,fun G hG=> ?_⟩
 have ec:rq (cH ps) (some (st:Int)) (some ((st:Int)+16))=cH ((ps.drop st).take 16):=by
  rw [Mr (i:=st) (n:=16) rfl (by omega) (by rw [a9];omega)]
  unfold cH nats
  rw [←List.map_drop,←List.map_drop,←List.map_take,←List.map_take]
 have sG:=aC.laid (o:= .lst (cH ((ps.drop st).take 16))) hG
 have hGv:bC H G (.lst (rq (cH ps) (some (st:Int)) (some ((st:Int)+16))))=bC H G (.lst (cH ((ps.drop st).take 16))):=by rw [ec]
 refine⟨G,rfl,⟨cH ((ps.drop st).take 16),aX.of (by show bC H G (.lst (rq (cH ps) (some (st:Int)) (some ((st:Int)+16)))) G=_;rw [af,ec])⟩,fun L hL=> ?_⟩
 have hL':bC H G (.lst (cH ((ps.drop st).take 16))) L=none:=by rw [←hGv];exact hL
 generalize hg:(ps.drop st).take 16=g at*
 have hglt:∀p∈g,p<l.length:=fun p hp=>hlt p (by rw [←hg] at hp;exact List.mem_of_mem_drop (List.mem_of_mem_take hp))
 have gl:g.length≤16:=by rw [←hg,List.length_take];omega
 have nL:H L=none:=sG.free hL'
 refine gZ (xs:=cH g) (fun i H'=>H' L=some (.lst (cH ((g.take i).filter fun j=>decide (eQ l j=eQ l (ps.getD st 0)))))∧H' G=some (.lst (cH g))∧aC H H') ?_ (fun i H' _ h=>aX.of h.2.1) ?_ ?_
 ·show bC (bC H G (.lst (rq (cH ps) (some (st:Int)) (some ((st:Int)+16))))) L _ L=_∧_∧_
  rw [hGv]
  refine⟨af,?_,sG.trans (aC.laid hL')⟩
  rw [ak (aw af hL'),af]
 ·rintro i v H1 hv ⟨hL1,hG1,s1⟩
  obtain⟨j,hj,rfl⟩:=m5 hv
  have hi':=(List.getElem?_eq_some_iff.mp hj).1
  obtain⟨r,hrj,⟨dr,hrr⟩⟩:=zd hx (hglt j (List.mem_of_getElem? hj))
  have fl:∀i,((g.take i).filter fun j=>decide (eQ l j=eQ l (ps.getD st 0))).length≤16:=fun i=>Nat.le_trans (List.length_filter_le _ _) (by rw [List.length_take];omega)
  refine⟨rfl,_,rfl,_,rfl,a,_,_,_,rfl,rfl,aX.of (s1 _ _ ha),lh rfl hrj,r,_,dr,_,_,rfl,s1 _ _ hrr,T.aA.cl,T.aA.no _ (by decide),rfl,_,rfl,rfl,_,rfl,aU (fun h1=> ?_) (fun h1=> ?_)⟩
  ·have h1':eQ l j=eQ l (ps.getD st 0):=V.int.inj (of_decide_eq_true h1)
   refine⟨_,rfl,_,hL1,?_,?_,?_,fun q o e=> ?_⟩
   ·rw [a9]
    have:=fl i
    show _<2 ^ 24
    omega
   ·rw [af,eX,Ch.bj hj,List.filter_append,List.filter_cons,if_pos (decide_eq_true h1')]
    rfl
   ·rw [ak (fun q=>by rw [←q] at hL';rw [af] at hL';cases hL')]
    exact hG1
   ·rw [ak (aw e nL)]
    exact s1 q o e
  ·have h1':¬eQ l j=eQ l (ps.getD st 0):=fun q=>h1 (decide_eq_true (congrArg V.int q))
   refine⟨?_,hG1,s1⟩
   rw [Ch.bj hj,List.filter_append,List.filter_cons,if_neg (fun q=>h1' (of_decide_eq_true q))]
   rw [List.filter_nil,List.append_nil]
   exact hL1
 ·rintro H1 ⟨hL1,hG1,s1⟩
  rw [a9,List.take_length] at hL1
  exact k H1 L hL1 s1 nL
def ci (b:Int):List Int→Int→Int
 | [],x=>x
 | t::r,x=>ci b r (x*t%b)
theorem uH (b t:Int):∀(l:List Int) (x:Int),ci b (l++ [t]) x=ci b l x*t%b
 | [],x=>rfl
 | a::r,x=>uH b t r _
theorem wV {b:Int} (hb:0<b):∀(l:List Int) (x:Int),∃P,ci b l x%b=P%b∧x∣P∧∀t∈l,t∣P
 | [],x=>⟨x,rfl,Int.dvd_refl x,fun t h=>nomatch h⟩
 | a::r,x=>by
  obtain⟨P,e,h1,h2⟩:=wV hb r (x*a%b)
  have key:∀(r:List Int) (y z:Int),y%b=z%b→ci b r y%b=ci b r z%b:=fun r=>by
   induction r with
   | nil=>intro y z h;exact h
   | cons c r ih=>
    intro y z h
    exact ih _ _ (by rw [Int.emod_emod_of_dvd _ (Int.dvd_refl b),Int.emod_emod_of_dvd _ (Int.dvd_refl b),Int.mul_emod,h,←Int.mul_emod])
  have prod:∀(r:List Int) (y:Int),ci b r y%b=(r.foldl (fun u v=>u*v) y)%b:=fun r=>by
   induction r with
   | nil=>intro y;rfl
   | cons c r ih=>
    intro y
    show ci b r (y*c%b)%b=_
    rw [key r (y*c%b) (y*c) (by rw [Int.emod_emod_of_dvd _ (Int.dvd_refl b)]),ih]
    rfl
  have fd:∀(r:List Int) (y:Int),y∣r.foldl (fun u v=>u*v) y∧∀t∈r,t∣r.foldl (fun u v=>u*v) y:=fun r=>by
   induction r with
   | nil=>intro y;exact⟨Int.dvd_refl y,fun t h=>nomatch h⟩
   | cons c r ih=>
    intro y
    obtain⟨i1,i2⟩:=ih (y*c)
    refine⟨Int.dvd_trans (Int.dvd_mul_right y c) i1,fun t h=> ?_⟩
    rcases List.mem_cons.mp h with q | q
    ·rw [q];exact Int.dvd_trans (Int.dvd_mul_left y c) i1
    ·exact i2 t q
  refine⟨(a::r).foldl (fun u v=>u*v) x,prod (a::r) x,(fd (a::r) x).1,(fd (a::r) x).2⟩
def rH (T:Tx K mg):Sp:=fun vs H Q _=>∃(a:Addr) (rs:List Addr) (l:List (Int×Int)) (b:Int),vs= [.ref a]∧H a=some (.lst (rs.map V.ref))∧je T H rs l∧0<l.length∧l.length≤16∧0<b∧(∀q∈l,q.2=b)∧Sz 600 b∧(∀q∈l,Sz 600 q.1)∧∀(S:Nat),0<S→(∀q∈l,Nat.gcd q.1.natAbs S=Nat.gcd q.1.natAbs b.toNat)→Q (.int (S:Nat)) H
theorem rB (T:Tx K mg):cM P w base T.i5 2 (rH T):=by
 refine T.i5.okA cX ?_
 rintro _ A _ s H _ Q E hr ⟨a,rs,l,b,rfl,ha,hx,hl0,hl,hb,hbs,bz,tz,k⟩
 refine⟨_,(ac (aW 1 cX.nd (ao (fP (pv 0) am) rfl))
   (ac (aW 2 cX.nd am)
   (ac (cZ PassesOwn.never rfl (bW (pv 0)) (i9 3 cX.nd) (ae (aW 2 cX.nd (aB sU (aB aH (pv 2) (ao (pv 3) rfl)) (pv 1)))))
   (ae (aj (be T.cf (cu T) hr (ab (pv 2) (ab (pv 1) ad)))))))),?_⟩
 obtain⟨r0,hr0,⟨d0,h0⟩⟩:=zd hx hl0
 have eb:eQ l 0=b:=hbs _ (by
  have:l[0]?=some (l.getD 0 (0,1)):=by rw [List.getD_eq_getElem?_getD,List.getElem?_eq_getElem hl0];rfl
  exact List.mem_of_getElem? this)
 rw [eb] at h0
 refine⟨_,rfl,a,_,_,_,rfl,rfl,aX.of ha,lh (i:=0) rfl hr0,r0,_,d0,_,_,rfl,h0,T.aA.cl,T.aA.no _ (by decide),rfl,?_⟩
 refine⟨_,rfl,a,rfl,⟨_,aX.of ha⟩,c9 (xs:=rs.map V.ref) (fun i σ H'=>H'=H∧∃v:Option V,σ= [some (.ref a),some (.int b),some (.int (ci b ((l.take i).map fun q=>q.1) 1)),v]∧Sz 601 (ci b ((l.take i).map fun q=>q.1) 1)) ⟨rfl,none,rfl,by show(1:Int).natAbs<_;exact Nat.one_lt_two_pow (by decide)⟩ (fun i σ H' _ h=>by rw [h.1];exact aX.of ha) ?_ ?_⟩
 ·rintro i v σ H1 hv ⟨rfl,v1,rfl,pz⟩
  rw [List.getElem?_map] at hv
  obtain⟨r,hrr,rfl⟩:=Option.map_eq_some_iff.mp hv
  have hi':i<l.length:=by rw [←hx.1];exact(List.getElem?_eq_some_iff.mp hrr).1
  obtain⟨q,hq⟩:∃q,l[i]?=some q:=⟨_,List.getElem?_eq_getElem hi'⟩
  obtain⟨dr,hra⟩:=hx.2 i r q hrr hq
  have e:ci b ((l.take (i+1)).map fun q=>q.1) 1=ci b ((l.take i).map fun q=>q.1) 1*q.1%b:=by rw [Ch.bj hq,List.map_append];exact uH _ _ _ _
  refine⟨_,rfl,_,rfl,r,_,dr,_,_,rfl,hra,T.aA.cl,T.aA.no _ (by decide),rfl,_,_,rfl,rfl,bo pz (tz q (List.mem_of_getElem? hq)),_,rfl,_,_,rfl,rfl,hb,rfl,_,(by rw [e];rfl),?_⟩
  rw [e]
  exact(bz.emod hb).mono (by decide)
 ·rintro σ H1 ⟨rfl,v1,rfl,pz⟩
  rw [List.length_map,hx.1,List.take_length]
  obtain⟨PP,e1,e2,e3⟩:=wV hb (l.map fun q=>q.1) 1
  refine⟨_,rfl,_,rfl,_,_,rfl,hb,k _ (Nat.gcd_pos_of_pos_right _ (by omega)) fun q hq=> ?_⟩
  refine Kd.Ge hb (e3 _ (List.mem_map.mpr ⟨q,hq,rfl⟩)) ?_
  have ep:(ci b (l.map fun q=>q.1) 1)%b=PP%b:=e1
  rw [←ep]
  apply Nat.dvd_antisymm
  ·refine Nat.dvd_gcd ?_ (Nat.gcd_dvd_right _ _)
   have h1:=Fr.c6 (ci b (l.map fun q=>q.1) 1) b.toNat
   have h2:((Nat.gcd (ci b (l.map fun q=>q.1) 1).natAbs b.toNat:Nat):Int)∣b:=by
    have:=Int.ofNat_dvd.mpr (Nat.gcd_dvd_right (ci b (l.map fun q=>q.1) 1).natAbs b.toNat)
    rwa [Int.toNat_of_nonneg (Int.le_of_lt hb)] at this
   have h3:((Nat.gcd (ci b (l.map fun q=>q.1) 1).natAbs b.toNat:Nat):Int)∣ci b (l.map fun q=>q.1) 1%b:=by
    rw [Int.emod_def]
    exact Int.dvd_sub h1 (Int.dvd_mul_of_dvd_left h2)
   have h4:=Int.natAbs_dvd_natAbs.mpr h3
   rwa [Int.natAbs_natCast] at h4
  ·refine Nat.dvd_gcd ?_ (Nat.gcd_dvd_right _ _)
   have h1:=Fr.c6 (ci b (l.map fun q=>q.1) 1%b) b.toNat
   have h2:((Nat.gcd (ci b (l.map fun q=>q.1) 1%b).natAbs b.toNat:Nat):Int)∣b:=by
    have:=Int.ofNat_dvd.mpr (Nat.gcd_dvd_right (ci b (l.map fun q=>q.1) 1%b).natAbs b.toNat)
    rwa [Int.toNat_of_nonneg (Int.le_of_lt hb)] at this
   have h3:((Nat.gcd (ci b (l.map fun q=>q.1) 1%b).natAbs b.toNat:Nat):Int)∣ci b (l.map fun q=>q.1) 1:=by
    have e:=Int.emod_add_mul_ediv (ci b (l.map fun q=>q.1) 1) b
    conv=>rhs;rw [←e]
    exact Int.dvd_add h1 (Int.dvd_mul_of_dvd_left h2)
   have h4:=Int.natAbs_dvd_natAbs.mpr h3
   rwa [Int.natAbs_natCast] at h4
theorem rN (f:Nat→Int) (k:Int):∀(L:List Nat),L.Pairwise (fun i j=>f i≤f j)→(∀j∈L,k≤f j)→L.filter (fun j=>decide (f j=k))=L.take (L.filter (fun j=>decide (f j=k))).length
 | [],_,_=>rfl
 | a::L,hp,hk=>by
  obtain⟨h1,h2⟩:=List.pairwise_cons.mp hp
  by_cases q:f a=k
  ·rw [List.filter_cons,if_pos (decide_eq_true q),List.length_cons,List.take_succ_cons,←rN f k L h2 fun j hj=>hk j (List.mem_cons_of_mem _ hj)]
  ·have e:(a::L).filter (fun j=>decide (f j=k))= []:=by
    rw [List.filter_eq_nil_iff]
    intro j hj
    have ha:=hk a List.mem_cons_self
    rcases List.mem_cons.mp hj with z | z
    ·rw [z];exact fun w=>q (of_decide_eq_true w)
    ·have:=h1 j z
     exact fun w=>by have:=of_decide_eq_true w;omega
   rw [e]
   rfl
theorem KC (js:List Nat):(js.map fun j:Nat=>V.int (j:Int))=cH js:=by
 unfold cH nats
 rw [List.map_map]
 rfl
structure wL (T:Tx K mg) (H:Hp) (a p D Pl:Addr) (l:List (Int×Int)) (js:List Nat) (st:Nat) (Hc:Hp):Prop where
 res:∃xs:List Addr,Hc p=some (.lst (xs.map V.ref))∧xs.length=l.length∧∀(m:Nat) (j:Nat) x q,m<st→js[m]?=some j→xs[j]?=some x→l[j]?=some q→ir T Hc x (Vbdeab.mkQ q.1 q.2.toNat)
 pl:Hc D=some (.lst (cH js))
 kp:fZ H Hc Pl
 tb:TB Pl Hc
 le:st≤l.length
theorem wL.same {T:Tx K mg} {H Hc Hd:Hp} {a p D Pl:Addr} {l:List (Int×Int)} {js:List Nat} {st:Nat} (I:wL T H a p D Pl l js st Hc) (s:aC Hc Hd):wL T H a p D Pl l js st Hd:=
 let ⟨⟨xs,h1,h2,h3⟩,h4,h5,h6,h7⟩:=I
 ⟨⟨xs,s _ _ h1,h2,fun m j x q a b c d=>(h3 m j x q a b c d).same s⟩,s _ _ h4,fun b o e hb=>s _ _ (h5 b o e hb),h6.keep (fun _ _ e=>s _ _ e) fun _ _ e=>s _ _ e,h7⟩
theorem wL.put {T:Tx K mg} {H Hc:Hp} {a p D Pl x:Addr} {l:List (Int×Int)} {js:List Nat} {st j:Nat} {q:Int×Int} {xs:List Addr} (I:wL T H a p D Pl l js st Hc) (hp:H p=none) (hD:D≠p) (hP:Pl≠p) (nd:js.Nodup) (hj:js[st]?=some j) (hlt:st<l.length) (hjl:j<l.length) (hq:l[j]?=some q) (hx:ir T Hc x (Vbdeab.mkQ q.1 q.2.toNat))
  (hxs:Hc p=some (.lst (xs.map V.ref))):wL T H a p D Pl l js (st+1) (bC Hc p (.lst ((xs.set j x).map V.ref))):=by
 obtain⟨⟨ys,h1,h2,h3⟩,h4,h5,h6,h7⟩:=I
 have e:ys=xs:=by
  rw [hxs] at h1
  have:=HO.lst.inj (Option.some.inj h1)
  exact((List.map_inj_right (fun a b z=>V.ref.inj z)).mp this).symm
 subst e
 have si:fH Hc (bC Hc p (.lst ((ys.set j x).map V.ref))):=fun b C dx fs z=>by rw [ak (bb z hxs (by intro w;cases w))];exact z
 refine⟨⟨_,af,by rw [List.length_set];exact h2,fun m j' x' q' hm e1 e2 e3=> ?_⟩,by rw [ak hD];exact h4,fun b o z hb=>by rw [ak (aw z hp)];exact h5 b o z hb,h6.keep (fun b ps z=>by rw [ak (bb z hxs (by intro w;cases w))];exact z) (fun b φ z=>by rw [ak (bb z hxs (by intro w;cases w))];exact z),by omega⟩
 by_cases hm':m=st
 ·rw [hm',hj] at e1
  cases e1
  rw [List.getElem?_set_self (by omega)] at e2
  cases e2
  rw [hq] at e3
  cases e3
  exact hx.si si
 ·have ne:j≠j':=fun z=>by
   rw [←z] at e1
   exact hm' ((List.getElem?_inj (List.getElem?_eq_some_iff.mp e1).1 nd).mp (e1.trans hj.symm))
  rw [List.getElem?_set_ne ne] at e2
  exact(h3 m j' x' q' (by omega) e1 e2 e3).si si
def xQ (T:Tx K mg):Sp:=fun vs H Q _=>∃(a Pl:Addr) (rs:List Addr) (l:List (Int×Int)),vs= [.ref a]∧H a=some (.lst (rs.map V.ref))∧je T H rs l∧l.length≤100000∧(∀q∈l,0<q.2∧Sz 600 q.2∧Sz 600 q.1)∧E7 T Pl∧Ac K mg Pl H∧TB Pl H∧∀(H':Hp) (p:Addr) (xs:List Addr),H' p=some (.lst (xs.map V.ref))→xs.length=l.length→(∀(j:Nat) x q,xs[j]?=some x→l[j]?=some q→ir T H' x (Vbdeab.mkQ q.1 q.2.toNat))→fZ H H' Pl→TB Pl H'→H p=none→Q (.ref p) H'
theorem xy (T:Tx K mg):iq P w K mg base x8 4 T.cJ.f T.cJ.fd ["ratios"] (xQ T):=by
 refine T.cJ.F.okC bO (fun vs H Q E h=> ?_) (fun cdv A outer s H vs Q E hcv hr h=> ?_)
 ·obtain⟨a,Pl,rs,l,rfl,ha,hx,hl,hz,⟨c,hc,hC⟩,bm,tb,k⟩:=h
  rfl
 ·obtain⟨a,Pl,rs,l,rfl,ha,hx,hl,hz,⟨c,hc,hC⟩,bm,tb,k⟩:=h
  refine⟨_,(ac (aW 1 bO.nd (mj mT (by rfl) T.Ab (by rfl) (ab (pv 0) ad)))
   (ac (aW 2 bO.nd (EC (i:=0) hr rfl T.Ja (ab (vK rfl T.cr (ab (a5 aT (by rfl) T.eV PySem.boot_len (ab (pv 0) ad)) ad)) ad) rfl rfl rfl rfl rfl (fun _ _ _ _=>rfl) rfl rfl rfl (by decide) rfl rfl (by decide) (by decide) (by decide)))
   (ac (aW 3 bO.nd am)
   (ac (jk PassesOwn.never (aO jj (pv 3) (a5 aT (by rfl) T.eV PySem.boot_len (ab (pv 2) ad)) (aV _)) (ac (aW 4 bO.nd (be T.d6 (kU T) hr (ab (pv 0) (ab (pv 2) (ab (pv 3) ad)))))
   (ac (aW 6 bO.nd (be T.i5 (rB T) hr (ab (iB (own:= [("place",5)]) rfl bO.nd (bW (pv 4)) (bK (N:= ["ratios","results","places","start","group","place","shared"]) (sc:=ag kl) (by decide+kernel)) (fun _ _ _ _ _=>(i9 5 bO.nd)) (fun _ _ _ _ _=>cQ) (fun _ _ _ _ _=>(Dg (ul (K':=K) rfl) (pv 0) (pv 5) (fun _ _=>rfl)))) ad)))
   (ac (cZ PassesOwn.never rfl (bW (pv 4)) (i9 5 bO.nd) (ae (nJ (be T.jF (sP T) hr (ab (fP (pv 0) (pv 5)) (ab (pv 6) ad))) (nG (pv 1) (pv 5) gc))))
   (ae (lN (i:=3) bO.nd rfl (Or.inl rfl) (a5 aT (by rfl) T.eV PySem.boot_len (ab (pv 4) ad)) j8))))))
   (ae (aj (pv 1))))))),?_⟩
  refine⟨_,rfl,a,_,rfl,.inl (aX.of ha),fun p hp=> ?_⟩
  have h1a:bC H p (.lst (rs.map V.ref)) a=some (.lst (rs.map V.ref)):=by rw [ak (aw ha hp)];exact ha
  refine⟨_,rfl,a,_,rfl,.inl (aX.of h1a),((rs.map V.ref).length:Int),rfl,by omega,by rw [List.length_map,hx.1];omega,fun rg hrg=> ?_⟩
  have nPl:∀b o,H b=some o→(∀ps,o≠ .tbl ps)→b≠Pl:=fun b o e hn z=>by
   rcases tb with tb | ⟨_,tb,_⟩
   ·rw [z,tb] at e;exact hn _ (Option.some.inj e).symm
   ·rw [z,tb] at e;exact hn _ (Option.some.inj e).symm
  have s1:aC H (bC H p (.lst (rs.map V.ref))):=aC.laid hp
  have s2:aC H (bC (bC H p (.lst (rs.map V.ref))) rg (.rng 0 ((rs.map V.ref).length:Int))):=s1.trans (aC.laid hrg)
  have e2:(rs.map V.ref).length=l.length:=by rw [List.length_map,hx.1]
  refine⟨rg,a,Pl,c,l.length,rs.map V.ref,l.map (·.2),rfl,by rw [af,e2],by omega,rfl,s2 _ _ ha,List.length_map _,fun j kk hj=> ?_,hcv.symm.trans hc,hC,bm.keep fun _ _ _ e=>s2 _ _ e,tb.keep (fun _ _ e=>s2 _ _ e) (fun _ _ e=>s2 _ _ e),fun G D js k2 tb2 nD v2 v3=> ?_⟩
  ·rw [List.getElem?_map] at hj
   obtain⟨q,hq,rfl⟩:=Option.map_eq_some_iff.mp hj
   obtain⟨r,hr1,⟨dr,hr2⟩⟩:=zd hx (List.getElem?_eq_some_iff.mp hq).1
   have eb:eQ l j=q.2:=by unfold eQ;rw [List.getD_eq_getElem?_getD,hq];rfl
   rw [eb] at hr2
   exact⟨r,_,dr,_,by rw [List.getElem?_map,hr1];rfl,s2 _ _ hr2,T.aA.cl,T.aA.no _ (by decide),rfl⟩
  rw [KC]
  have pPl:p≠Pl:=fun z=>by
   rcases tb with tb | ⟨_,tb,_⟩
   ·rw [←z,hp] at tb;cases tb
   ·rw [←z,hp] at tb;cases tb
  have prg:p≠rg:=fun z=>by rw [←z,af] at hrg;cases hrg
  have eGp:G p=some (.lst (rs.map V.ref)):=k2 p _ (by rw [ak prg,af]) pPl
  have nDp:D≠p:=fun z=>by rw [z,eGp] at nD;cases nD
  have tb3:TB Pl G:=tb2
  have jl:js.length=l.length:=by rw [v2.length_eq,List.length_range]
  have jlt:∀j∈js,j<l.length:=fun j hj=>List.mem_range.mp (v2.mem_iff.mp hj)
  have jnd:js.Nodup:=v2.nodup_iff.mpr List.nodup_range
  refine⟨fun m σ H'=>∃(st:Nat) (x4 x5 x6:Option V),m+st=l.length∧σ= [some (.ref a),some (.ref p),some (.ref D),some (.int (st:Int)),x4,x5,x6]∧wL T H a p D Pl l js st H',⟨l.length,0,none,none,none,rfl,rfl,?_⟩,?_⟩
  ·refine⟨⟨rs,by rw [ak (Ne.symm nDp)];exact eGp,hx.1,fun m j x q hm=>absurd hm (Nat.not_lt_zero _)⟩,af,fun b o e hb=> ?_,tb3.keep (fun b ps e=>by rw [ak (aw e nD)];exact e) (fun b ps e=>by rw [ak (aw e nD)];exact e),Nat.zero_le _⟩
   have gb:=k2 b o (s2 _ _ e) hb
   rw [ak (aw gb nD)]
   exact gb
  ·rintro m σ Hc ⟨st,x4,x5,x6,hm,rfl,I⟩
   refine⟨_,rfl,_,rfl,D,_,rfl,.inl (aX.of I.pl),_,_,rfl,rfl,_,rfl,aU (fun h1=>⟨_,fun _ _ z=>z,?_⟩) (fun h1=> ?_)⟩
   ·have h1':(st:Int)<((cH js).length:Int):=of_decide_eq_true h1
    rw [a9] at h1'
    have hst:st<js.length:=by omega
    have aPl:a≠Pl:=nPl _ _ ha (by intro ps z;cases z)
    have haC:=I.kp _ _ ha aPl
    have hxC:je T Hc rs l:=⟨hx.1,fun j r q h1 h2=>let ⟨dx,e⟩:=hx.2 j r q h1 h2;⟨dx,I.kp _ _ e (nPl _ _ e (by intro ps z;cases z))⟩⟩
    refine⟨_,rfl,_,rfl,_,rfl,a,D,rs,l,js,st,rfl,haC,hxC,I.pl,jlt,hst,fun H1 gp hg sg ng=> ?_⟩
    generalize hk0:eQ l (js.getD st 0)=k0 at hg
    generalize hgg:(((js.drop st).take 16).filter fun j=>decide (eQ l j=k0))=g at hg
    have bk:∀j,j<l.length→(l.map fun x=>x.2).getD j 0=eQ l j:=fun j hj=>by
     unfold eQ
     rw [List.getD_eq_getElem?_getD,List.getD_eq_getElem?_getD,List.getElem?_map,List.getElem?_eq_getElem hj]
     rfl
    have hsub:List.Sublist ((js.drop st).take 16) js:=(List.take_sublist _ _).trans (List.drop_sublist _ _)
    have hpw:((js.drop st).take 16).Pairwise (fun i j=>eQ l i≤eQ l j):=(v3.sublist hsub).imp_of_mem fun {x y} hx' hy' h=>by
     rw [bk x (jlt x (hsub.subset hx')),bk y (jlt y (hsub.subset hy'))] at h
     exact h
    have hcons:(js.drop st).take 16=js.getD st 0::(js.drop (st+1)).take 15:=by
     rw [List.drop_eq_getElem_cons hst,List.take_succ_cons,List.getD_eq_getElem?_getD,List.getElem?_eq_getElem hst]
     rfl
    have gpre:g=((js.drop st).take 16).take g.length:=by
     have:=rN (eQ l) k0 ((js.drop st).take 16) hpw (fun j hj=>by
      rw [hcons] at hpw hj
      rcases List.mem_cons.mp hj with z | z
      ·rw [z,hk0];exact Int.le_refl _
      ·rw [←hk0];exact(List.pairwise_cons.mp hpw).1 j z)
     rw [hgg] at this
     exact this
    have g1:0<g.length:=by
     rw [←hgg]
     exact List.length_pos_of_mem (List.mem_filter.mpr ⟨by rw [hcons];exact List.mem_cons_self,decide_eq_true hk0⟩)
    have g16:g.length≤16:=by rw [←hgg];exact Nat.le_trans (List.length_filter_le _ _) (by rw [List.length_take];omega)
    have gb:∀j∈g,eQ l j=k0:=fun j hj=>by rw [←hgg] at hj;exact of_decide_eq_true (List.mem_filter.mp hj).2
    have gat:∀(i j:Nat),g[i]?=some j→js[st+i]?=some j:=fun i j e=>by
     have hi:=(List.getElem?_eq_some_iff.mp e).1
     rw [gpre,List.getElem?_take_of_lt hi,List.getElem?_take_of_lt (by omega),List.getElem?_drop] at e
     exact e
    have glt:∀j∈g,j<l.length:=fun j hj=>by
     obtain⟨i,e⟩:=List.getElem?_of_mem hj
     exact jlt j (List.mem_of_getElem? (gat i j e))
    refine⟨_,rfl,gp,rfl,⟨_,aX.of hg⟩,fun L hL=> ?_⟩
    refine gZ (xs:=cH g) (fun i H'=>∃gs:List Addr,H' L=some (.lst (gs.map V.ref))∧gs.length=i∧(∀(u:Nat) x j,gs[u]?=some x→g[u]?=some j→rs[j]?=some x)∧H' gp=some (.lst (cH g))∧aC H1 H') ?_ (fun i H' _ h=>let ⟨_,_,_,_,q,_⟩:=h;aX.of q) ?_ ?_
    ·refine⟨[],af,rfl,fun u x j e=>by simp at e,?_,aC.laid hL⟩
     rw [ak (aw hg hL)]
     exact hg
    ·rintro i v H2 hv ⟨gs,q1,q2,q3,q4,q5⟩
     obtain⟨j,hj,rfl⟩:=m5 hv
     obtain⟨r,hrj,_⟩:=zd hx (glt j (List.mem_of_getElem? hj))
     refine⟨rfl,_,rfl,_,rfl,a,_,_,_,rfl,rfl,aX.of (q5 _ _ (sg _ _ haC)),lh rfl hrj,_,q1,?_,gs++ [r],?_,?_,fun u x j' e1 e2=> ?_,?_,fun b o e=> ?_⟩
     ·rw [List.length_map]
      have:=(List.getElem?_eq_some_iff.mp hj).1
      show _<2 ^ 24
      omega
     ·rw [af,List.map_append]
      rfl
     ·rw [List.length_append,q2]
      rfl
     ·rcases Nat.lt_or_ge u gs.length with z | z
      ·rw [List.getElem?_append_left z] at e1
       exact q3 u x j' e1 e2
      ·rw [List.getElem?_append_right z] at e1
       have e0:u - gs.length=0:=by
        rcases Nat.eq_zero_or_pos (u - gs.length) with w | w
        ·exact w
        ·rw [List.getElem?_eq_none (by simp;omega)] at e1;cases e1
       have e3:u=i:=by omega
       rw [e0] at e1
       cases e1
       rw [e3,hj] at e2
       cases e2
       exact hrj
     ·rw [ak (aw hg hL)]
      exact q4
     ·rw [ak (aw e hL)]
      exact q5 _ _ e
    ·rintro H2 ⟨gs,q1,q2,q3,q4,q5⟩
     rw [a9] at q2
     have sT:aC Hc H2:=fun b o e=>q5 _ _ (sg _ _ e)
     have hgl:(g.map fun j=>l.getD j (0,1)).length=g.length:=List.length_map _
     have hgr:je T H2 gs (g.map fun j=>l.getD j (0,1)):=⟨by rw [hgl];exact q2,fun u x q e1 e2=>by
      rw [List.getElem?_map] at e2
      obtain⟨j,e3,rfl⟩:=Option.map_eq_some_iff.mp e2
      obtain⟨r,hrj,⟨dr,hrr⟩⟩:=zd hxC (glt j (List.mem_of_getElem? e3))
      have:=q3 u x j e1 e3
      rw [hrj] at this
      cases this
      exact⟨dr,sT _ _ hrr⟩⟩
     have lmem:∀j∈g,l.getD j (0,1)∈l:=fun j hj=>by
      rw [List.getD_eq_getElem?_getD,List.getElem?_eq_getElem (glt j hj)]
      exact List.getElem_mem _
     obtain⟨j0,hj0⟩:∃j,j∈g:=⟨g[0],List.getElem_mem _⟩
     have hk0p:0<k0∧Sz 600 k0:=by
      have z:=hz _ (lmem j0 hj0)
      have e:(l.getD j0 (0,1)).2=k0:=gb j0 hj0
      rw [e] at z
      exact⟨z.1,z.2.1⟩
     refine⟨L,gs,(g.map fun j=>l.getD j (0,1)),k0,rfl,q1,hgr,by rw [hgl];exact g1,by rw [hgl];exact g16,hk0p.1,fun q hq=> ?_,hk0p.2,fun q hq=> ?_,fun S hS hgcd=> ?_⟩
     ·obtain⟨j,hj,rfl⟩:=List.mem_map.mp hq
      exact gb j hj
     ·obtain⟨j,hj,rfl⟩:=List.mem_map.mp hq
      exact(hz _ (lmem j hj)).2.2
     ·have hg2:=q4
      have gpp:gp≠p:=fun z=>by
       obtain⟨xs,x1,_⟩:=I.res
       rw [z,x1] at ng
       cases ng
      refine⟨_,rfl,gp,rfl,⟨_,aX.of hg2⟩,c9 (xs:=cH g) (fun i σ H'=>∃x5:Option V,σ= [some (.ref a),some (.ref p),some (.ref D),some (.int (st:Int)),some (.ref gp),x5,some (.int (S:Nat))]∧wL T H a p D Pl l js (st+i) H'∧H' gp=some (.lst (cH g))) ⟨x5,rfl,I.same sT,hg2⟩ (fun i σ H' _ h=>let ⟨_,_,_,q⟩:=h;aX.of q) ?_ ?_⟩
      ·rintro i v σ H3 hv ⟨y5,rfl,I3,hg3⟩
       obtain⟨j,hj,rfl⟩:=m5 hv
       have jm:=List.mem_of_getElem? hj
       obtain⟨r,hrj,⟨dr,hrr⟩⟩:=zd hx (glt j jm)
       have hq:l[j]?=some (l.getD j (0,1)):=by rw [List.getD_eq_getElem?_getD,List.getElem?_eq_getElem (glt j jm)];rfl
       have hzj:=hz _ (lmem j jm)
       obtain⟨xs,x1,x2,x3⟩:=I3.res
       have hgc:Nat.gcd (FO l j).natAbs S=Nat.gcd (FO l j).natAbs (eQ l j).toNat:=by
        rw [gb j jm]
        exact hgcd _ (List.mem_map.mpr ⟨j,jm,rfl⟩)
       refine⟨_,rfl,_,rfl,a,_,_,_,rfl,rfl,aX.of (I3.kp _ _ ha aPl),lh rfl hrj,_,rfl,r,FO l j,eQ l j,S,rfl,⟨dr,I3.kp _ _ hrr (nPl _ _ hrr (by intro ps z;cases z))⟩,hzj.1,Sz.mono hzj.2.1 (by decide),hS,hgc,fun x H4 hQ s4=> ?_⟩
       refine⟨_,rfl,_,rfl,p,_,_,j,rfl,rfl,s4 _ _ x1,m7 rfl (by rw [List.length_map,x2];exact glt j jm),?_⟩
       refine⟨_,rfl,?_,?_⟩
       ·rw [←List.map_set]
        exact(I3.same s4).put hp nDp (Ne.symm pPl) jnd (gat i j hj) (by have:=(List.getElem?_eq_some_iff.mp (gat i j hj)).1;omega) (glt j jm) hq hQ (s4 _ _ x1)
       ·rw [ak gpp]
        exact s4 _ _ hg3
      ·rintro σ H3 ⟨y5,rfl,I3,hg3⟩
       rw [a9] at I3
       refine⟨_,rfl,_,rfl,gp,_,rfl,.inl (aX.of hg3),_,_,rfl,rfl,l.length - (st+g.length),?_,st+g.length,_,_,_,?_,(by rw [a9];rfl),I3⟩
       ·have:=I3.le
        omega
       ·have:=I3.le
        omega
   ·have h1':¬((st:Int)<((cH js).length:Int)):=fun q=>h1 (decide_eq_true q)
    rw [a9] at h1'
    obtain⟨xs,x1,x2,x3⟩:=I.res
    refine⟨_,rfl,k Hc p xs x1 x2 (fun j x q e1 e2=> ?_) I.kp I.tb hp⟩
    obtain⟨mm,hmm⟩:=List.getElem?_of_mem (v2.mem_iff.mpr (List.mem_range.mpr (List.getElem?_eq_some_iff.mp e2).1))
    exact x3 mm j x q (by have:=(List.getElem?_eq_some_iff.mp hmm).1;omega) hmm e1 e2
theorem BE {C D x y:Addr} {fs gs:List (Str×V)} (h:¬fs.length=gs.length):HO.ins C x fs≠HO.ins D y gs:=fun z=>h (congrArg List.length (HO.ins.inj z).2.2)
theorem AZ {α:Type}:∀{l:List α} {k:Nat} {y:α},l.Nodup→y ∉ l→(l.set k y).Nodup
 | [],_,_,_,_=>List.nodup_nil
 | x::l,0,y,h,hy=>List.nodup_cons.mpr ⟨fun m=>hy (List.mem_cons_of_mem _ m),(List.nodup_cons.mp h).2⟩
 | x::l,k+1,y,h,hy=>by
  obtain⟨h1,h2⟩:=List.nodup_cons.mp h
  refine List.nodup_cons.mpr ⟨fun m=> ?_,AZ h2 fun m=>hy (List.mem_cons_of_mem _ m)⟩
  rcases List.mem_or_eq_of_mem_set m with q | q
  ·exact h1 q
  ·exact hy (by rw [←q];exact List.mem_cons_self)
def Mq (l l2:Addr):List (Str×V):= [("streams",.ref l),("distributions",.ref l2)]
theorem HN {C D x y:Addr} {n m:Str} {u v:V} {fs gs:List (Str×V)} (h:n≠m):HO.ins C x ((n,u)::fs)≠HO.ins D y ((m,v)::gs):=fun z=>by
 have e:=(HO.ins.inj z).2.2
 injection e with e1 _
 injection e1 with e2 _
 exact h e2
structure Gh where
 o:Addr
 l2:Addr
 P:Addr
def Gh.av (G:Gh) (l:Addr):List Addr:= [G.o,l,G.l2]
variable {G:Gh}
theorem KQ.keep1 {av:List Addr} {H H':Hp} {a C dx:Addr} {fs:List (Str×V)} (k:fZ H H' a) (h:H a=some (.ins C dx fs)) (hf:Mt fs=false):KQ av H H':=by
 refine⟨⟨fun b C' dx' fs' e h'=>k _ _ e fun q=> ?_,fun b xs e _=>k _ _ e (bb e h (by intro z;cases z))⟩,fun P h2=>h2.keep (fun b ps e=>k _ _ e (bb e h (by intro z;cases z))) fun b φ e=>k _ _ e (bb e h (by intro z;cases z)),fun b o u e=>k _ _ e (bb e h (by intro z;cases z))⟩
 subst q
 rw [h] at e
 cases e
 rw [hf] at h'
 cases h'
theorem KQ.set {av:List Addr} {H:Hp} {l:Addr} {xs:List V} {o:HO} (hl:l∈av) (h:H l=some (.lst xs)):KQ av H (bC H l o):=
 ⟨⟨fun b C dx fs e _=>by rw [ak (bb e h (by intro z;cases z))];exact e,fun b ys e hb=>by rw [ak fun q=>hb (by rw [q];exact hl)];exact e⟩,fun P h2=>h2.keep (fun b ps e=>by rw [ak (bb e h (by intro z;cases z))];exact e) fun b φ e=>by rw [ak (bb e h (by intro z;cases z))];exact e,fun b o u e=>by rw [ak (bb e h (by intro z;cases z))];exact e⟩
structure DW (T:Tx K mg) (G:Gh) (l:Addr) (H:Hp) (ds:List (Option Vbdeab.Dist)):Prop where
 vs:∃vs:List V,H G.l2=some (.lst vs)∧vs.length=64∧∀(j:Nat) v x,vs[j]?=some v→ds[j]?=some x→gG T (G.av l) H v x
 dlen:ds.length=64
 oo:∃xs,H G.o=some (.lst xs)
 n1:l≠G.o
 n2:G.l2≠G.o
 n3:l≠G.l2
 tb:TB G.P H
 to:E7 T G.P
 bm:Ac K mg G.P H
theorem DW.keep {T:Tx K mg} {l:Addr} {H H':Hp} {ds:List (Option Vbdeab.Dist)} (h:DW T G l H ds) (kp:KQ (G.av l) H H') (lk:∀c xs,H c=some (.lst xs)→c≠l→H' c=some (.lst xs)):DW T G l H' ds:=by
 obtain⟨⟨vs,h1,h2,h3⟩,dlen,⟨xs,oo⟩,n1,n2,n3,tb,to,bm⟩:=h
 exact⟨⟨vs,lk _ _ h1 (Ne.symm n3),h2,fun j v x a b=>(h3 j v x a b).kp kp.toKP⟩,dlen,⟨xs,lk _ _ oo (Ne.symm n1)⟩,n1,n2,n3,kp.t _ tb,to,bm.keep kp.x⟩
theorem DW.same {T:Tx K mg} {l:Addr} {H H':Hp} {ds:List (Option Vbdeab.Dist)} (h:DW T G l H ds) (s:aC H H'):DW T G l H' ds:=h.keep (.same s) fun _ _ e _=>s _ _ e
theorem DW.keep1 {T:Tx K mg} {l a C dx:Addr} {fs:List (Str×V)} {H H':Hp} {ds:List (Option Vbdeab.Dist)} (h:DW T G l H ds) (k:fZ H H' a) (e:H a=some (.ins C dx fs)) (hf:Mt fs=false):DW T G l H' ds:=h.keep (.keep1 k e hf) fun _ _ q _=>k _ _ q (bb q e (by intro z;cases z))
def wN (K:PySem.W.Frag) (H:Hp) (a:Addr) (ns:List Int):Prop:=(∃q,H a=some (.frz q (.lst (ns.map V.int))))∨((∀H':Hp,aX K H' a (ns.map V.int)))
theorem wN.sq {H:Hp} {a:Addr} {ns:List Int} (h:wN K H a ns):aX K H a (ns.map V.int):=by
 rcases h with⟨q,h⟩ | h
 ·exact .inl (.inr ⟨q,h⟩)
 ·exact h H
theorem wN.keep {H H':Hp} {a:Addr} {ns:List Int} (k:∀c q u,H c=some (.frz q u)→H' c=some (.frz q u)) (h:wN K H a ns):wN K H' a ns:=by
 rcases h with⟨q,h⟩ | h
 ·exact .inl ⟨q,k _ _ _ h⟩
 ·exact .inr h
structure Wd (G:Gh) (T:Tx K mg) (H:Hp) (b r l a:Addr) (as:List Addr) (S:State) (ns:List Int) (pos:Nat):Prop where
 bank:∃dx,H b=some (.ins T.aN.C dx (Mq l G.l2))
 rd:j3 T H r a pos
 req:wN K H a ns
 lst:H l=some (.lst (as.map V.ref))
 nd:as.Nodup
 len:as.length=64
 slen:S.streams.length=64
 at_:∀(j:Nat) (x:Addr) (t:Stream),as[j]?=some x→S.streams[j]?=some t→bD T H x t
 ok:∀t∈S.streams,t.state<Vbdeab.P
 dw:DW T G l H S.dists
def KI (H H':Hp):Prop:=∀(x:Addr) (xs:List Int),H x=some (.lst (xs.map V.int))→H' x=some (.lst (xs.map V.int))
theorem KI.refl (H:Hp):KI H H:=fun _ _ h=>h
theorem KI.trans {H H1 H2:Hp} (a:KI H H1) (b:KI H1 H2):KI H H2:=fun x xs h=>b x xs (a x xs h)
def NF (H:Hp) (p:Addr):Prop:=∀(x:Addr) (xs:List Int),H x=some (.lst (xs.map V.int))→x≠p
theorem KI.nf {H H1:Hp} {p:Addr} (ki:KI H H1) (hp:H1 p=none):NF H p:=fun x xs h q=>by
 have z:=ki x xs h
 rw [q,hp] at z
 cases z
theorem KI.same {H H':Hp} (s:aC H H'):KI H H':=fun _ _ h=>s _ _ h
theorem KI.keep1 {H H':Hp} {a C dx:Addr} {fs:List (Str×V)} (k:fZ H H' a) (h:H a=some (.ins C dx fs)):KI H H':=fun _ _ e=>k _ _ e (bb e h (by intro z;cases z))
section
variable {T:Tx K mg} {H H':Hp} {b r l a:Addr} {as:List Addr} {S:State} {ns:List Int} {pos:Nat}
theorem Wd.sq (W:Wd G T H b r l a as S ns pos):aX K H a (ns.map V.int):=W.req.sq
theorem Wd.same (W:Wd G T H b r l a as S ns pos) (s:aC H H'):Wd G T H' b r l a as S ns pos:=by
 obtain⟨⟨dx,hb⟩,⟨dr,hr⟩,hq,hl,nd,len,sl,at_,ok,dw⟩:=W
 exact⟨⟨dx,s _ _ hb⟩,⟨dr,s _ _ hr⟩,hq.keep (fun _ _ _ e=>s _ _ e),s _ _ hl,nd,len,sl,fun j x t h1 h2=>let ⟨d,h⟩:=at_ j x t h1 h2;⟨d,s _ _ h⟩,ok,dw.same s⟩
theorem Wd.sGet (W:Wd G T H b r l a as S ns pos) {k:Nat} (h:k<64):∃x t,as[k]?=some x∧S.streams[k]?=some t∧S.stream k=t∧bD T H x t∧t.state<Vbdeab.P:=by
 have h1:k<as.length:=by rw [W.len];exact h
 have h2:k<S.streams.length:=by rw [W.slen];exact h
 refine⟨as[k],S.streams[k],List.getElem?_eq_getElem h1,List.getElem?_eq_getElem h2,?_,W.at_ k _ _ (List.getElem?_eq_getElem h1) (List.getElem?_eq_getElem h2),W.ok _ (List.getElem_mem h2)⟩
 unfold State.stream
 rw [List.getD_eq_getElem?_getD,List.getElem?_eq_getElem h2]
 rfl
theorem Wd.reader (W:Wd G T H b r l a as S ns pos) {pos':Nat} (h1:j3 T H' r a pos') (kp:fZ H H' r):Wd G T H' b r l a as S ns pos':=by
 obtain⟨⟨dx,hb⟩,⟨dr,hr⟩,hq,hl,nd,len,sl,at_,ok,dw⟩:=W
 refine⟨⟨dx,kp _ _ hb (bb hb hr (HN (by decide)))⟩,h1,hq.keep (fun _ _ _ e=>kp _ _ e (bb e hr (by intro z;cases z))),kp _ _ hl (bb hl hr (by intro z;cases z)),nd,len,sl,fun j x t h2 h3=> ?_,ok,dw.keep1 kp hr rfl⟩
 obtain⟨d,h⟩:=at_ j x t h2 h3
 exact⟨d,kp _ _ h (bb h hr (BE (by show ¬4=2;decide)))⟩
theorem IC {k:Nat} {t:Stream} (ok:∀t∈S.streams,t.state<Vbdeab.P) (h:t.state<Vbdeab.P):∀u∈(S.put k t).streams,u.state<Vbdeab.P:=fun u hu=>by
 rcases List.mem_or_eq_of_mem_set (show u∈S.streams.set k t from hu) with q | q
 ·exact ok u q
 ·rw [q];exact h
theorem Wd.stream (W:Wd G T H b r l a as S ns pos) {k:Nat} {x:Addr} {t t':Stream} (hx:as[k]?=some x) (h0:bD T H x t) (h1:bD T H' x t') (kp:fZ H H' x) (hlt:t'.state<Vbdeab.P):Wd G T H' b r l a as (S.put k t') ns pos:=by
 obtain⟨⟨dx,hb⟩,⟨dr,hr⟩,hq,hl,nd,len,sl,at_,ok,dw⟩:=W
 obtain⟨d0,h0⟩:=h0
 refine⟨⟨dx,kp _ _ hb (bb hb h0 (BE (by show ¬2=4;decide)))⟩,⟨dr,kp _ _ hr (bb hr h0 (BE (by show ¬2=4;decide)))⟩,hq.keep (fun _ _ _ e=>kp _ _ e (bb e h0 (by intro z;cases z))),kp _ _ hl (bb hl h0 (by intro z;cases z)),nd,len,?_,fun j y u h2 h3=> ?_,IC ok hlt,dw.keep1 kp h0 rfl⟩
 ·show(S.streams.set k t').length=64
  rw [List.length_set]
  exact sl
 ·have h3':(S.streams.set k t')[j]?=some u:=h3
  by_cases hj:j=k
  ·subst hj
   have e1:y=x:=Option.some.inj (h2.symm.trans hx)
   subst e1
   have hk:j<S.streams.length:=by rw [sl,←len];exact(List.getElem?_eq_some_iff.mp hx).1
   rw [List.getElem?_set_self hk] at h3'
   cases h3'
   exact h1
  ·rw [List.getElem?_set_ne (fun q=>hj q.symm)] at h3'
   obtain⟨d,h⟩:=at_ j y u h2 h3'
   exact⟨d,kp _ _ h fun q=>hj (LI nd h2 (by rw [q];exact hx))⟩
theorem Wd.replace (W:Wd G T H b r l a as S ns pos) {k:Nat} {y:Addr} {t':Stream} (hk:k<64) (hy:y ∉ as) (h1:bD T H y t') (hlt:t'.state<Vbdeab.P):
  Wd G T (bC H l (.lst ((as.set k y).map V.ref))) b r l a (as.set k y) (S.put k t') ns pos:=by
 obtain⟨⟨dx,hb⟩,⟨dr,hr⟩,hq,hl,nd,len,sl,at_,ok,dw⟩:=W
 obtain⟨d1,h1⟩:=h1
 have kp:∀c o,H c=some o→c≠l→bC H l (.lst ((as.set k y).map V.ref)) c=some o:=fun c o e n=>by rw [ak n];exact e
 refine⟨⟨dx,kp _ _ hb (bb hb hl (by intro z;cases z))⟩,⟨dr,kp _ _ hr (bb hr hl (by intro z;cases z))⟩,hq.keep (fun _ _ _ e=>kp _ _ e (bb e hl (by intro z;cases z))),af,?_,?_,?_,fun j z u h2 h3=> ?_,IC ok hlt,dw.keep (.set (by unfold Gh.av;simp) hl) (fun c xs e n=>kp _ _ e n)⟩
 ·exact AZ nd hy
 ·rw [List.length_set];exact len
 ·show(S.streams.set k t').length=64
  rw [List.length_set]
  exact sl
 ·have h3':(S.streams.set k t')[j]?=some u:=h3
  by_cases hj:j=k
  ·subst hj
   rw [List.getElem?_set_self (by omega)] at h2 h3'
   cases h2
   cases h3'
   exact⟨d1,kp _ _ h1 (bb h1 hl (by intro z;cases z))⟩
  ·rw [List.getElem?_set_ne (fun q=>hj q.symm)] at h2 h3'
   obtain⟨d,h⟩:=at_ j z u h2 h3'
   exact⟨d,kp _ _ h (bb h hl (by intro z;cases z))⟩
theorem Wd.kiSet (W:Wd G T H b r l a as S ns pos) (o:HO):KI H (bC H l o):=fun x xs h=>by
 refine(ak fun q=> ?_).trans h
 rw [q,W.lst] at h
 have e:=HO.lst.inj (Option.some.inj h)
 have len:=W.len
 match as,len,xs,e with
 | x::_,_,[],e=>simp at e
 | x::_,_,z::_,e=>simp at e
end
def cp (T:Tx K mg) (R:List Int→Vbdeab.Call→List Int→Prop):Sp:=fun vs H Q _=>∃(G:Gh) (b r l a:Addr) (as:List Addr) (S:State) (ns:List Int) (pos:Nat) (c:Vbdeab.Call) (rest:List Int),vs= [.ref b,.ref r]∧Wd G T H b r l a as S ns pos∧R (ns.drop pos) c rest∧
 ∀(H':Hp) (p:Addr) (as':List Addr) (pos':Nat),Wd G T H' b r l a as' (Vbdeab.step S c).1 ns pos'→ns.drop pos'=rest→H' p=some (.lst ((Vbdeab.step S c).2.map V.int))→KI H H'→NF H p→Q (.ref p) H'
theorem aD {T:Tx K mg} {H H1:Hp} {b r l a:Addr} {as1:List Addr} {S S1:State} {ns:List Int} {pos1:Nat} {c:Vbdeab.Call} {rest zs:List Int} {Q:VK}
  (k:∀(H':Hp) (p:Addr) (as':List Addr) (pos':Nat),Wd G T H' b r l a as' (Vbdeab.step S c).1 ns pos'→ns.drop pos'=rest→H' p=some (.lst ((Vbdeab.step S c).2.map V.int))→KI H H'→NF H p→Q (.ref p) H')
  (W:Wd G T H1 b r l a as1 S1 ns pos1) (hd:ns.drop pos1=rest) (ki:KI H H1) (es:Vbdeab.step S c=(S1,zs)):∀p,H1 p=none→Q (.ref p) (bC H1 p (.lst (zs.map V.int))):=fun p hp=>by
 rw [es] at k
 exact k _ p as1 pos1 (W.same (aC.laid hp)) hd af (ki.trans (KI.same (aC.laid hp))) (ki.nf hp)
theorem jf {ns:List Int} {pos:Nat} {z:Int} {rest:List Int} (h:ns.drop pos=z::rest):ns[pos]?=some z∧ns.drop (pos+1)=rest:=by
 constructor
 ·have:=congrArg List.head? h
  rwa [List.head?_drop] at this
 ·rw [←List.drop_drop,h]
  rfl
theorem aK {T:Tx K mg} {H0 H:Hp} {b r l a:Addr} {as:List Addr} {S:State} {ns rest:List Int} {pos:Nat} {z:Int} {σ:L2.St} {Q:V→Hp→Prop} (W:Wd G T H b r l a as S ns pos) (hd:ns.drop pos=z::rest) (ki:KI H0 H) (hσ:σ[1]?=some (some (.ref r)))
  (k:∀H1,Wd G T H1 b r l a as S ns (pos+1)→ns.drop (pos+1)=rest→KI H0 H1→Q (.int z) H1):DU T.bg.C "take" (mG T) [] E0 (Lb 1) IM σ H Q:=by
 obtain⟨g1,hd1⟩:=jf hd
 obtain⟨dr,hr⟩:=id W.rd
 exact⟨_,hσ,r,dr,_,rfl,hr,rfl,r,a,_,ns,_,rfl,⟨dr,hr⟩,W.sq,g1,fun H1 hr1 kp1=>k H1 (W.reader hr1 kp1) hd1 (ki.trans (KI.keep1 kp1 hr))⟩
theorem bX (k:Int):streamOk k=decide (0≤k∧k≤63):=by
 unfold streamOk within
 by_cases h1:0≤k<;>by_cases h2:k≤63<;>simp [h1,h2]
theorem dH (k:Int):stateOk k=decide (0≤k∧k≤18446744073709551615):=by
 have e:(Vbdeab.P:Int)=18446744073709551616:=rfl
 unfold stateOk
 rw [e]
 by_cases h1:0≤k<;>by_cases h2:k<18446744073709551616<;>simp [h1,h2]<;>omega
theorem bT (n a b:Int):within n a b=decide (a≤n∧n≤b):=by
 unfold within
 by_cases h1:a≤n<;>by_cases h2:n≤b<;>simp [h1,h2]
theorem df {p:Prop} [Decidable p] (h:(!decide p)=true):¬p:=fun q=>by rw [decide_eq_true q] at h;cases h
theorem bL {p:Prop} [Decidable p] (h:¬(!decide p)=true):p:=by
 by_cases q:p
 ·exact q
 ·exact absurd (by rw [decide_eq_false q];rfl) h
theorem gw {S:State} {k:Int} {f:Stream→Except Int (Stream×List Int)} (h:¬(0≤k∧k≤63)):onStream S k f=(S,[-1]):=by
 unfold onStream
 rw [bX,decide_eq_false h,if_pos rfl]
theorem gx {S:State} {k e:Int} {f:Stream→Except Int (Stream×List Int)} (h:0≤k∧k≤63) (hf:f (S.stream k.toNat)= .error e):onStream S k f=(S,[e]):=by
 unfold onStream
 rw [bX,decide_eq_true h,if_neg (by decide),hf]
theorem kf {S:State} {k:Int} {r:Stream×List Int} {f:Stream→Except Int (Stream×List Int)} (h:0≤k∧k≤63) (hf:f (S.stream k.toNat)= .ok r):onStream S k f=(S.put k.toNat r.1,0::r.2):=by
 unfold onStream
 rw [bX,decide_eq_true h,if_neg (by decide),hf]
theorem DQ (S:State) (k:Int):Vbdeab.step S (.raw k)=onStream S k fun t=> .ok ((Vbdeab.raw t).1,[((Vbdeab.raw t).2:Int)]):=by rw [Vbdeab.step]
def zQ (T:Tx K mg):Sp:=cp T (fun d c rest=>∃k,d=k::rest∧c= .raw k)
theorem Ij (T:Tx K mg):cM P w base T.z5 3 (zQ T):=by
 refine T.z5.okA Dz ?_
 rintro _ A _ s H _ Q E hr ⟨G,b,r,l,a,as,S,ns,pos,c,rest,rfl,W,⟨k,hd,rfl⟩,kk⟩
 refine⟨_,(ac (aW 2 Dz.nd (dm (pv 1) T.au (ah T) hr))
   (ac (aQ (aS (aP (be T.bn (aY T) hr (ab (pv 2) ad)))) (ae (aj (aG (ab (dI T.a7) ad)))) aE)
   (ae (aj (aG (ab am (ab (dm (fP (ao (pv 0) rfl) (pv 2)) T.br (bF T) hr) ad))))))),?_⟩
 obtain⟨g1,hd1⟩:=jf hd
 obtain⟨dr,hr⟩:=id W.rd
 refine⟨_,rfl,r,dr,_,rfl,hr,rfl,r,a,pos,ns,_,rfl,⟨dr,hr⟩,W.sq,g1,fun H1 hr1 kp1=> ?_⟩
 have W1:=W.reader hr1 kp1
 have ki1:=KI.keep1 kp1 hr
 refine⟨_,rfl,k,rfl,_,rfl,aU (fun h1=> ?_) (fun h1=> ?_)⟩
 ·exact⟨(by show 1≤sizeLine;decide),aD kk W1 hd1 ki1 ((DQ S k).trans (gw (df h1)))⟩
 ·have hk:=bL h1
  obtain⟨x,t,hx,ht,est,hst,hlt⟩:=W1.sGet (k:=k.toNat) (by omega)
  obtain⟨db,hb⟩:=id W1.bank
  obtain⟨dx,hxo⟩:=id hst
  refine⟨_,rfl,b,_,db,_,_,rfl,hb,T.aN.cl,T.aN.no _ (by decide),rfl,_,rfl,l,_,_,_,rfl,rfl,aX.of W1.lst,rL (j:=k.toNat) (v:=V.ref x) (by omega) (by rw [List.getElem?_map,hx];rfl),x,dx,_,rfl,hxo,rfl,x,t,rfl,hst,fun H2 hs2 kp2=> ?_⟩
  have W2:=W1.stream (t':=(Vbdeab.raw t).1) hx hst hs2 kp2 (by rw [uJ];exact Nat.mod_lt _ Lc.Ad)
  exact⟨(by show 2≤sizeLine;decide),aD (zs:= [0,((Vbdeab.raw t).2:Nat)]) kk W2 hd1 (ki1.trans (KI.keep1 kp2 hxo)) ((DQ S k).trans (kf (r:=((Vbdeab.raw t).1,[((Vbdeab.raw t).2:Int)])) hk (by rw [est])))⟩
end
end Pf
namespace Pf
open PySem PySem.Spec PyProof.Rows L2
section
variable {P:Program} {w:World} {K:PySem.W.Frag} {mg:Str→Option Value} {base:Heap} {G:Gh}
theorem Gj {as:List Addr} {k:Int} {x:Addr} (h:0≤k) (hx:as[k.toNat]?=some x):He (as.map V.ref) k=some (V.ref x):=rL (j:=k.toNat) (v:=V.ref x) (by omega) (by rw [List.getElem?_map,hx];rfl)
theorem Et {T:Tx K mg} {H:Hp} {b r l a:Addr} {as:List Addr} {S:State} {ns:List Int} {pos:Nat} (W:Wd G T H b r l a as S ns pos) {y:Addr} (hy:H y=none):y ∉ as:=fun m=>by
 obtain⟨j,hj,e⟩:=List.getElem_of_mem m
 have h2:j<S.streams.length:=by rw [W.slen,←W.len];exact hj
 obtain⟨d,h⟩:=W.at_ j y _ (by rw [List.getElem?_eq_getElem hj,e]) (List.getElem?_eq_getElem h2)
 rw [hy] at h
 cases h
theorem G5 (S:State) (k x:Int):Vbdeab.step S (.seed k x)=if streamOk k=false then(S,[-1]) else if stateOk x=false then(S,[-2]) else(S.put k.toNat ⟨x.toNat,x.toNat,0,false⟩,[0]):=by rw [Vbdeab.step]
theorem G4 (S:State) (k n:Int):Vbdeab.step S (.raws k n)=onStream S k fun t=>if within n 0 1000=false then .error (-3) else .ok ((Vbdeab.raws n.toNat t).1,shownRow (nats (Vbdeab.raws n.toNat t).2)):=by rw [Vbdeab.step]
theorem G6 (S:State) (k n:Int):Vbdeab.step S (.skip k n)=onStream S k fun t=>if stateOk n=false then .error (-2) else .ok (t.moved n.toNat,[]):=by rw [Vbdeab.step]
theorem GX (S:State) (k n:Int):Vbdeab.step S (.back k n)=onStream S k fun t=>if stateOk n=false then .error (-2) else .ok ({t with state:=Vbdeab.back n.toNat t.state,count:=t.count - n},[]):=by rw [Vbdeab.step]
theorem DP (S:State) (k n:Int):Vbdeab.step S (.mirror k n)=onStream S k fun t=>if within n 0 1=false then .error (-4) else .ok ({t with mirror:=decide (n=1)},[]):=by rw [Vbdeab.step]
theorem EW (S:State) (k:Int):Vbdeab.step S (.where_ k)=onStream S k fun t=> .ok (t,[(t.state:Int),(t.seed:Int),t.count,if t.mirror=true then 1 else 0]):=by rw [Vbdeab.step]
theorem IJ (S:State) (x y:Int):Vbdeab.step S (.far x y)=if stateOk x=false∨stateOk y=false then(S,[-2]) else(S,[0,((Vbdeab.far x.toNat y.toNat:Nat):Int)]):=by rw [Vbdeab.step]
theorem G1 (S:State) (k y:Int):Vbdeab.step S (.goto k y)=onStream S k fun t=>if stateOk y=false then .error (-2) else .ok (t.moved (Vbdeab.far t.state y.toNat),[(Vbdeab.far t.state y.toNat:Int)]):=by rw [Vbdeab.step]
theorem GZ (S:State) (k j:Int):Vbdeab.step S (.copy k j)=if streamOk k=false∨streamOk j=false then(S,[-1]) else(S.put k.toNat (S.stream j.toNat),[0]):=by rw [Vbdeab.step]
theorem cN {p:Prop} [Decidable p] (h:¬p):(decide p=false):=decide_eq_false h
def wu (T:Tx K mg):Sp:=cp T (fun d c rest=>∃k s,d=k::s::rest∧c= .seed k s)
theorem GM (T:Tx K mg):cM P w base T.t8 3 (wu T):=by
 refine T.t8.okA vW ?_
 rintro _ A _ s H _ Q E hr ⟨G,b,r,l,a,as,S,ns,pos,c,rest,rfl,W,⟨k,s,hd,rfl⟩,kk⟩
 refine⟨_,(ac (aW 2 vW.nd (dm (pv 1) T.au (ah T) hr))
   (ac (aW 3 vW.nd (dm (pv 1) T.au (ah T) hr))
   (ac (aQ (aS (aP (be T.bn (aY T) hr (ab (pv 2) ad)))) (ae (aj (aG (ab (dI T.a7) ad)))) aE)
   (ac (aQ (aS (aP (be T.fw (er T) hr (ab (pv 3) ad)))) (ae (aj (aG (ab (dI T.gk) ad)))) aE)
   (ac (nJ (xq T.dJ (fz T) hr (ab (pv 3) ad)) (nG (ao (pv 0) rfl) (pv 2) gc))
   (ae (aj (aG (ab am ad))))))))),?_⟩
 have W0:=W;have ki0:=KI.refl H;have hd0:=hd
 refine aK W0 hd0 ki0 rfl fun H1 W1 hd1 ki1=> ?_
 refine aK W1 hd1 ki1 rfl fun H2 W2 hd2 ki2=> ?_
 have es:=G5 S k s
 rw [bX,dH] at es
 refine⟨_,rfl,k,rfl,_,rfl,aU (fun h1=> ?_) (fun h1=> ?_)⟩
 ·rw [if_pos (cN (df h1))] at es
  exact⟨(by show 1≤sizeLine;decide),aD kk W2 hd2 ki2 es⟩
 ·have hk:=bL h1
  rw [decide_eq_true hk,if_neg (by decide)] at es
  refine⟨_,rfl,s,rfl,_,rfl,aU (fun h2=> ?_) (fun h2=> ?_)⟩
  ·rw [if_pos (cN (df h2))] at es
   exact⟨(by show 1≤sizeLine;decide),aD kk W2 hd2 ki2 es⟩
  ·have hs:=bL h2
   rw [decide_eq_true hs,if_neg (by decide)] at es
   refine⟨_,rfl,?_⟩
   intro y dy ny nd _
   refine cn ny nd (fun H3 hy s3=> ?_) ⟨s.toNat,by rw [Int.toNat_of_nonneg hs.1],rfl⟩
   have W3:=W2.same s3
   obtain⟨db,hb⟩:=id W3.bank
   have W4:=W3.replace (k:=k.toNat) (t':=⟨s.toNat,s.toNat,0,false⟩) (by omega) (Et W2 ny) ⟨dy,hy⟩ (by show s.toNat<18446744073709551616;omega)
   refine⟨_,rfl,b,_,db,_,_,rfl,hb,T.aN.cl,T.aN.no _ (by decide),rfl,_,rfl,l,_,_,k.toNat,rfl,rfl,W3.lst,m7 (by omega) (by rw [List.length_map,W3.len];omega),?_⟩
   rw [←List.map_set]
   exact⟨(by show 1≤sizeLine;decide),aD kk W4 hd2 ((ki2.trans (KI.same s3)).trans (W3.kiSet _)) es⟩
theorem pO (l:List Nat):(nats l).length=l.length:=by unfold nats;rw [List.length_map]
theorem qX {t:Stream} (h:t.state<Vbdeab.P):∀n,(Vbdeab.raws n t).1.state<Vbdeab.P
 | 0=>by rw [Ch.cy];exact h
 | n+1=>by rw [Ch.eu,uJ];exact Nat.mod_lt _ Lc.Ad
def wr (T:Tx K mg):Sp:=cp T (fun d c rest=>∃k n,d=k::n::rest∧c= .raws k n)
theorem GK (T:Tx K mg):cM P w base T.t7 3 (wr T):=by
 refine T.t7.okA jW ?_
 rintro _ A _ s H _ Q E hr ⟨G,b,r,l,a,as,S,ns,pos,c,rest,rfl,W,⟨k,n,hd,rfl⟩,kk⟩
 refine⟨_,(ac (aW 2 jW.nd (dm (pv 1) T.au (ah T) hr))
   (ac (aW 3 jW.nd (dm (pv 1) T.au (ah T) hr))
   (ac (aQ (aS (aP (be T.bn (aY T) hr (ab (pv 2) ad)))) (ae (aj (aG (ab (dI T.a7) ad)))) aE)
   (ac (aQ (aS (aP (be T.fv (e9 T) hr (ab (pv 3) ad)))) (ae (aj (aG (ab (dI T.dU) ad)))) aE)
   (ac (aW 4 jW.nd (fP (ao (pv 0) rfl) (pv 2)))
   (ae (aj (aB dF (aG (ab am (ab (pv 3) ad))) (iB (own:= [("i",5)]) rfl jW.nd (bR rfl T.cr (ab (pv 3) ad)) (bK (N:= ["bank","reader","k","n","stream","i"]) (sc:=ag zl) (by decide+kernel)) (fun _ _ _ _ _=>(i9 5 jW.nd)) (fun _ _ _ _ _=>cQ) (fun _ _ _ _ _=>(dm (pv 4) T.br (bF T) hr))))))))))),?_⟩
 have W0:=W;have ki0:=KI.refl H;have hd0:=hd
 refine aK W0 hd0 ki0 rfl fun H1 W1 hd1 ki1=> ?_
 refine aK W1 hd1 ki1 rfl fun H2 W2 hd2 ki2=> ?_
 have es:=G4 S k n
 refine⟨_,rfl,k,rfl,_,rfl,aU (fun h1=> ?_) (fun h1=> ?_)⟩
 ·rw [gw (df h1)] at es
  exact⟨(by show 1≤sizeLine;decide),aD kk W2 hd2 ki2 es⟩
 ·have hk:=bL h1
  refine⟨_,rfl,n,rfl,_,rfl,aU (fun h2=> ?_) (fun h2=> ?_)⟩
  ·rw [gx (e:= -3) hk (by rw [bT,if_pos (cN (df h2))])] at es
   exact⟨(by show 1≤sizeLine;decide),aD kk W2 hd2 ki2 es⟩
  ·have hn:=bL h2
   obtain⟨x,t,hx,ht,est,hst,hlt⟩:=W2.sGet (k:=k.toNat) (by omega)
   rw [kf (r:=((Vbdeab.raws n.toNat t).1,shownRow (nats (Vbdeab.raws n.toNat t).2))) hk (by rw [est,bT,decide_eq_true hn,if_neg (by decide)])] at es
   obtain⟨db,hb⟩:=id W2.bank
   obtain⟨dx,hxo⟩:=id hst
   refine⟨_,rfl,b,_,db,_,_,rfl,hb,T.aN.cl,T.aN.no _ (by decide),rfl,_,rfl,l,_,_,_,rfl,rfl,aX.of W2.lst,Gj hk.1 hx,?_⟩
   refine⟨_,rfl,(by show 2≤sizeLine;decide),fun p hp=> ?_⟩
   have nxp:x≠p:=aw hxo hp
   refine⟨_,rfl,n,rfl,by omega,by omega,fun D hD=> ?_⟩
   have npD0:p≠D:=aw af hD
   refine eY (n:=n.toNat) (fun i H'=>H' D=some (.lst ((nats (Vbdeab.raws i t).2).map V.int))∧H' p=some (.lst [.int 0,.int n])∧bD T H' x (Vbdeab.raws i t).1∧∀c o,H2 c=some o→c≠x→H' c=some o) ?_ ?_ ?_
   ·have nxD:x≠D:=aw (by rw [ak nxp];exact hxo) hD
    have npD:p≠D:=aw af hD
    refine⟨?_,?_,⟨dx,?_⟩,fun c o e _=> ?_⟩
    ·rw [af,Ch.cy]
     rfl
    ·rw [ak npD,af]
    ·rw [ak nxD,ak nxp,Ch.cy]
     exact hxo
    ·have ncp:c≠p:=aw e hp
     rw [ak (aw (by rw [ak ncp];exact e) hD),ak ncp]
     exact e
   ·rintro i H3 hi ⟨hD3,hp3,⟨d3,hx3⟩,kp3⟩
    refine⟨rfl,_,rfl,x,d3,_,rfl,hx3,rfl,x,_,rfl,⟨d3,hx3⟩,fun H4 ⟨d4,hx4⟩ kp4=> ?_⟩
    have nDx:D≠x:=bb hD3 hx3 (by intro z;cases z)
    have npx:p≠x:=bb hp3 hx3 (by intro z;cases z)
    have nxD:x≠D:=Ne.symm nDx
    have hD4:=kp4 _ _ hD3 nDx
    refine⟨_,hD4,(by rw [List.length_map,pO,Ch.fc];show i<2 ^ 24;omega),?_,?_,⟨d4,?_⟩,fun c o e nc=> ?_⟩
    ·rw [af,Ch.eu]
     unfold nats
     rw [List.map_append,List.map_append]
     rfl
    ·rw [ak npD0]
     exact kp4 _ _ hp3 npx
    ·rw [ak nxD,Ch.eu]
     exact hx4
    ·have ncD:c≠D:=fun q=>by
      have ncp:c≠p:=aw e hp
      rw [q] at e
      have z:bC H2 p (.lst [.int 0,.int n]) D=some o:=by rw [ak (by rw [←q];exact ncp)];exact e
      rw [hD] at z
      cases z
     rw [ak ncD]
     exact kp4 _ _ (kp3 _ _ e nc) nc
   ·rintro H3 ⟨hD3,hp3,hx3,kp3⟩
    have hlen:(nats (Vbdeab.raws n.toNat t).2).length=n.toNat:=by rw [pO,Ch.fc]
    refine⟨p,D,_,_,rfl,rfl,hp3,hD3,(by rw [List.length_map,hlen];show 2+n.toNat≤2 ^ 24;omega),?_⟩
    have W3:=W2.stream hx hst hx3 kp3 (qX hlt _)
    have e2:(0:Int)::shownRow (nats (Vbdeab.raws n.toNat t).2)=0::n::nats (Vbdeab.raws n.toNat t).2:=by
     unfold shownRow
     rw [hlen,Int.toNat_of_nonneg hn.1]
    rw [e2] at es
    exact aD kk W3 hd2 (ki2.trans (KI.keep1 kp3 hxo)) es
theorem C0 (t:Stream) (steps:Int):(nh t steps).state<Vbdeab.P:=Lc.BG _ _
theorem yL (t:Stream) {n:Nat} (h:n<Vbdeab.P):nh t (n:Int)=t.moved n:=by
 unfold nh Stream.moved
 rw [Lc.yj h]
 have e:((n:Int)%18446744073709551616).toNat=n:=by
  have:n<18446744073709551616:=h
  omega
 rw [e]
theorem Eo (t:Stream) {n:Int} (h:0≤n∧n≤18446744073709551615):nh t (-n)={t with state:=Vbdeab.back n.toNat t.state,count:=t.count - n}:=by
 unfold nh Vbdeab.back
 have e:((-n)%18446744073709551616).toNat=(Vbdeab.P - n.toNat%Vbdeab.P)%Vbdeab.P:=by
  have:Vbdeab.P=18446744073709551616:=rfl
  rw [this]
  omega
 rw [e,Lc.yj (Nat.mod_lt _ Lc.Ad),Int.sub_eq_add_neg]
def EM (T:Tx K mg):Sp:=fun vs H Q _=>∃(G:Gh) (b r l a:Addr) (as:List Addr) (S:State) (ns:List Int) (pos:Nat) (k n steps:Int),vs= [.ref b,.int k,.int n,.int steps]∧Wd G T H b r l a as S ns pos∧∀(H':Hp) (p:Addr) (S':State) (zs:List Int),(S',zs)=(if decide (0≤k∧k≤63)=false then(S,[-1]) else if decide (0≤n∧n≤18446744073709551615)=false then(S,[-2]) else(S.put k.toNat (nh (S.stream k.toNat) steps),[0]))→Wd G T H' b r l a as S' ns pos→H' p=some (.lst (zs.map V.int))→KI H H'→NF H p→Q (.ref p) H'
theorem yV (T:Tx K mg):cM P w base T.yp 6 (EM T):=by
 refine T.yp.okA EF ?_
 rintro _ A _ s H _ Q E hr ⟨G,b,r,l,a,as,S,ns,pos,k,n,steps,rfl,W,kk⟩
 refine⟨_,(ac (aQ (aS (aP (be T.bn (aY T) hr (ab (pv 1) ad)))) (ae (aj (aG (ab (dI T.a7) ad)))) aE)
   (ac (aQ (aS (aP (be T.fw (er T) hr (ab (pv 2) ad)))) (ae (aj (aG (ab (dI T.gk) ad)))) aE)
   (ac (eU (wB (fP (ao (pv 0) rfl) (pv 1)) T.jb (mf T) hr (ab (pv 3) ad)))
   (ae (aj (aG (ab am ad))))))),?_⟩
 refine⟨_,rfl,k,rfl,_,rfl,aU (fun h1=> ?_) (fun h1=> ?_)⟩
 ·rw [if_pos (cN (df h1))] at kk
  exact⟨(by show 1≤sizeLine;decide),fun p hp=>kk _ p S [-1] rfl (W.same (aC.laid hp)) af (KI.same (aC.laid hp)) ((KI.refl H).nf hp)⟩
 ·have hk:=bL h1
  rw [decide_eq_true hk,if_neg (by decide)] at kk
  refine⟨_,rfl,n,rfl,_,rfl,aU (fun h2=> ?_) (fun h2=> ?_)⟩
  ·rw [if_pos (cN (df h2))] at kk
   exact⟨(by show 1≤sizeLine;decide),fun p hp=>kk _ p S [-2] rfl (W.same (aC.laid hp)) af (KI.same (aC.laid hp)) ((KI.refl H).nf hp)⟩
  ·have hn:=bL h2
   rw [decide_eq_true hn,if_neg (by decide)] at kk
   obtain⟨x,t,hx,ht,est,hst,hlt⟩:=W.sGet (k:=k.toNat) (by omega)
   rw [est] at kk
   obtain⟨db,hb⟩:=id W.bank
   obtain⟨dx,hxo⟩:=id hst
   refine⟨_,rfl,b,_,db,_,_,rfl,hb,T.aN.cl,T.aN.no _ (by decide),rfl,_,rfl,l,_,_,_,rfl,rfl,aX.of W.lst,Gj hk.1 hx,x,dx,_,rfl,hxo,rfl,_,rfl,x,t,steps,rfl,hst,fun H1 hs1 kp1=> ?_⟩
   have W1:=W.stream hx hst hs1 kp1 (C0 t steps)
   exact⟨(by show 1≤sizeLine;decide),fun p hp=>kk _ p _ [0] rfl (W1.same (aC.laid hp)) af ((KI.keep1 kp1 hxo).trans (KI.same (aC.laid hp))) ((KI.keep1 kp1 hxo).nf hp)⟩
def wv (T:Tx K mg):Sp:=cp T (fun d c rest=>∃k n,d=k::n::rest∧c= .skip k n)
theorem GN (T:Tx K mg):cM P w base T.t9 7 (wv T):=by
 refine T.t9.okA vX ?_
 rintro _ A _ s H _ Q E hr ⟨G,b,r,l,a,as,S,ns,pos,c,rest,rfl,W,⟨k,n,hd,rfl⟩,kk⟩
 refine⟨_,(ac (aW 2 vX.nd (dm (pv 1) T.au (ah T) hr))
   (ac (aW 3 vX.nd (dm (pv 1) T.au (ah T) hr))
   (ae (aj (be T.yp (yV T) hr (ab (pv 0) (ab (pv 2) (ab (pv 3) (ab (pv 3) ad))))))))),?_⟩
 have W0:=W;have ki0:=KI.refl H;have hd0:=hd
 refine aK W0 hd0 ki0 rfl fun H1 W1 hd1 ki1=> ?_
 refine aK W1 hd1 ki1 rfl fun H2 W2 hd2 ki2=> ?_
 have es:=G6 S k n
 refine⟨_,rfl,_,rfl,_,rfl,_,rfl,G,b,r,l,a,as,S,ns,_,k,n,n,rfl,W2,fun H3 p S3 zs e3 W3 hp ki3 nf3=> ?_⟩
 have e4:Vbdeab.step S (.skip k n)=(S3,zs):=by
  rw [e3,es]
  by_cases hk:0≤k∧k≤63
  ·rw [decide_eq_true hk,if_neg (by decide)]
   by_cases hn:0≤n∧n≤18446744073709551615
   ·rw [decide_eq_true hn,if_neg (by decide)]
    refine(kf (r:=((S.stream k.toNat).moved n.toNat,[])) hk (by rw [dH,decide_eq_true hn,if_neg (by decide)])).trans ?_
    have h:=yL (S.stream k.toNat) (n:=n.toNat) (by show n.toNat<18446744073709551616;omega)
    rw [Int.toNat_of_nonneg hn.1] at h
    rw [h]
   ·rw [decide_eq_false hn,if_pos rfl]
    exact gx hk (by rw [dH,decide_eq_false hn,if_pos rfl])
  ·rw [decide_eq_false hk,if_pos rfl]
   exact gw hk
 rw [e4] at kk
 exact kk H3 p as _ W3 hd2 hp (ki2.trans ki3) fun x xs q=>nf3 x xs (ki2 x xs q)
def wf (T:Tx K mg):Sp:=cp T (fun d c rest=>∃k n,d=k::n::rest∧c= .back k n)
theorem Gy (T:Tx K mg):cM P w base T.tU 7 (wf T):=by
 refine T.tU.okA vT ?_
 rintro _ A _ s H _ Q E hr ⟨G,b,r,l,a,as,S,ns,pos,c,rest,rfl,W,⟨k,n,hd,rfl⟩,kk⟩
 refine⟨_,(ac (aW 2 vT.nd (dm (pv 1) T.au (ah T) hr))
   (ac (aW 3 vT.nd (dm (pv 1) T.au (ah T) hr))
   (ae (aj (be T.yp (yV T) hr (ab (pv 0) (ab (pv 2) (ab (pv 3) (ab (FC Cn (pv 3)) ad))))))))),?_⟩
 have W0:=W;have ki0:=KI.refl H;have hd0:=hd
 refine aK W0 hd0 ki0 rfl fun H1 W1 hd1 ki1=> ?_
 refine aK W1 hd1 ki1 rfl fun H2 W2 hd2 ki2=> ?_
 have es:=GX S k n
 refine⟨_,rfl,_,rfl,_,rfl,_,rfl,_,rfl,G,b,r,l,a,as,S,ns,_,k,n,-n,rfl,W2,fun H3 p S3 zs e3 W3 hp ki3 nf3=> ?_⟩
 have e4:Vbdeab.step S (.back k n)=(S3,zs):=by
  rw [e3,es]
  by_cases hk:0≤k∧k≤63
  ·rw [decide_eq_true hk,if_neg (by decide)]
   by_cases hn:0≤n∧n≤18446744073709551615
   ·rw [decide_eq_true hn,if_neg (by decide),Eo _ hn]
    exact kf (r:=({S.stream k.toNat with state:=Vbdeab.back n.toNat (S.stream k.toNat).state,count:=(S.stream k.toNat).count - n},[])) hk (by rw [dH,decide_eq_true hn,if_neg (by decide)])
   ·rw [decide_eq_false hn,if_pos rfl]
    exact gx hk (by rw [dH,decide_eq_false hn,if_pos rfl])
  ·rw [decide_eq_false hk,if_pos rfl]
   exact gw hk
 rw [e4] at kk
 exact kk H3 p as _ W3 hd2 hp (ki2.trans ki3) fun x xs q=>nf3 x xs (ki2 x xs q)
def qC (T:Tx K mg):Sp:=cp T (fun d c rest=>∃k n,d=k::n::rest∧c= .mirror k n)
theorem Da (T:Tx K mg):cM P w base T.kR 3 (qC T):=by
 refine T.kR.okA lA ?_
 rintro _ A _ s H _ Q E hr ⟨G,b,r,l,a,as,S,ns,pos,c,rest,rfl,W,⟨k,n,hd,rfl⟩,kk⟩
 refine⟨_,(ac (aW 2 lA.nd (dm (pv 1) T.au (ah T) hr))
   (ac (aW 3 lA.nd (dm (pv 1) T.au (ah T) hr))
   (ac (aQ (aS (aP (be T.bn (aY T) hr (ab (pv 2) ad)))) (ae (aj (aG (ab (dI T.a7) ad)))) aE)
   (ac (aQ (aS (aP (be T.bE (a4 T) hr (ab (pv 3) (ab am (ab am ad)))))) (ae (aj (aG (ab (dI T.Aa) ad)))) aE)
   (ac (aW 4 lA.nd (fP (ao (pv 0) rfl) (pv 2)))
   (ac (bS (pv 4) (pv 3) rfl)
   (ae (aj (aG (ab am ad)))))))))),?_⟩
 have W0:=W;have ki0:=KI.refl H;have hd0:=hd
 refine aK W0 hd0 ki0 rfl fun H1 W1 hd1 ki1=> ?_
 refine aK W1 hd1 ki1 rfl fun H2 W2 hd2 ki2=> ?_
 have es:=DP S k n
 refine⟨_,rfl,k,rfl,_,rfl,aU (fun h1=> ?_) (fun h1=> ?_)⟩
 ·rw [gw (df h1)] at es
  exact⟨(by show 1≤sizeLine;decide),aD kk W2 hd2 ki2 es⟩
 ·have hk:=bL h1
  refine⟨_,rfl,n,0,1,rfl,_,rfl,aU (fun h2=> ?_) (fun h2=> ?_)⟩
  ·rw [gx (e:= -4) hk (by rw [bT,if_pos (cN (df h2))])] at es
   exact⟨(by show 1≤sizeLine;decide),aD kk W2 hd2 ki2 es⟩
  ·have hn:=bL h2
   obtain⟨x,t,hx,ht,est,hst,hlt⟩:=W2.sGet (k:=k.toNat) (by omega)
   rw [kf (r:=({t with mirror:=decide (n=1)},[])) hk (by rw [est,bT,decide_eq_true hn,if_neg (by decide)])] at es
   obtain⟨db,hb⟩:=id W2.bank
   obtain⟨dx,hxo⟩:=id hst
   refine⟨_,rfl,b,_,db,_,_,rfl,hb,T.aN.cl,T.aN.no _ (by decide),rfl,_,rfl,l,_,_,_,rfl,rfl,aX.of W2.lst,Gj hk.1 hx,?_⟩
   refine⟨_,rfl,_,rfl,x,_,dx,_,rfl,hxo,T.aI.cl,T.aI.no _ (by decide),(by show 4<1000;decide),?_⟩
   have kp3:fZ H2 (bC H2 x (.ins T.aI.C dx (jo "mirror" (.int n) (sf t)))) x:=fun c o e nc=>by rw [ak nc];exact e
   have em:jo "mirror" (.int n) (sf t)=sf {t with mirror:=decide (n=1)}:=by
    have:Li (decide (n=1))=n:=by
     unfold Li
     by_cases q:n=1
     ·rw [if_pos (decide_eq_true q),q]
     ·rw [if_neg (by rw [decide_eq_false q];decide)]
      omega
    have e1:sf {t with mirror:=decide (n=1)}=jo "mirror" (.int (Li (decide (n=1)))) (sf t):=rfl
    rw [e1,this]
   have W3:=W2.stream (t':={t with mirror:=decide (n=1)}) hx hst ⟨dx,by rw [af,em]⟩ kp3 hlt
   exact⟨(by show 1≤sizeLine;decide),aD kk W3 hd2 (ki2.trans (KI.keep1 kp3 hxo)) es⟩
def tQ (T:Tx K mg):Sp:=cp T (fun d c rest=>∃k,d=k::rest∧c= .where_ k)
theorem Ez (T:Tx K mg):cM P w base T.oI 3 (tQ T):=by
 refine T.oI.okA tw ?_
 rintro _ A _ s H _ Q E hr ⟨G,b,r,l,a,as,S,ns,pos,c,rest,rfl,W,⟨k,hd,rfl⟩,kk⟩
 refine⟨_,(ac (aW 2 tw.nd (dm (pv 1) T.au (ah T) hr))
   (ac (aQ (aS (aP (be T.bn (aY T) hr (ab (pv 2) ad)))) (ae (aj (aG (ab (dI T.a7) ad)))) aE)
   (ac (aW 3 tw.nd (fP (ao (pv 0) rfl) (pv 2)))
   (ae (aj (aG (ab am (ab (ao (pv 3) rfl) (ab (ao (pv 3) rfl) (ab (ao (pv 3) rfl) (ab (ao (pv 3) rfl) ad))))))))))),?_⟩
 have W0:=W;have ki0:=KI.refl H;have hd0:=hd
 refine aK W0 hd0 ki0 rfl fun H1 W1 hd1 ki1=> ?_
 have es:=EW S k
 refine⟨_,rfl,k,rfl,_,rfl,aU (fun h1=> ?_) (fun h1=> ?_)⟩
 ·rw [gw (df h1)] at es
  exact⟨(by show 1≤sizeLine;decide),aD kk W1 hd1 ki1 es⟩
 ·have hk:=bL h1
  obtain⟨x,t,hx,ht,est,hst,hlt⟩:=W1.sGet (k:=k.toNat) (by omega)
  rw [kf (r:=(t,[(t.state:Int),(t.seed:Int),t.count,if t.mirror=true then 1 else 0])) hk (by rw [est])] at es
  obtain⟨db,hb⟩:=id W1.bank
  obtain⟨dx,hxo⟩:=id hst
  refine⟨_,rfl,b,_,db,_,_,rfl,hb,T.aN.cl,T.aN.no _ (by decide),rfl,_,rfl,l,_,_,_,rfl,rfl,aX.of W1.lst,Gj hk.1 hx,?_⟩
  refine⟨_,rfl,x,_,dx,_,_,rfl,hxo,T.aI.cl,T.aI.no _ (by decide),rfl,_,rfl,x,_,dx,_,_,rfl,hxo,T.aI.cl,T.aI.no _ (by decide),rfl,_,rfl,x,_,dx,_,_,rfl,hxo,T.aI.cl,T.aI.no _ (by decide),rfl,_,rfl,x,_,dx,_,_,rfl,hxo,T.aI.cl,T.aI.no _ (by decide),rfl,(by show 5≤sizeLine;decide),?_⟩
  have W2:=W1.stream (t':=t) hx hst hst (fun c o e _=>e) hlt
  exact aD kk W2 hd1 ki1 es
def zM (T:Tx K mg):Sp:=cp T (fun d c rest=>∃x y,d=x::y::rest∧c= .far x y)
theorem Ih (T:Tx K mg):cM P w base T.zY 5 (zM T):=by
 refine T.zY.okA zy ?_
 rintro _ A _ s H _ Q E hr ⟨G,b,r,l,a,as,S,ns,pos,c,rest,rfl,W,⟨x,y,hd,rfl⟩,kk⟩
 refine⟨_,(ac (aW 2 zy.nd (dm (pv 1) T.au (ah T) hr))
   (ac (aW 3 zy.nd (dm (pv 1) T.au (ah T) hr))
   (ac (aQ (jn (fI (aS (aP (be T.fw (er T) hr (ab (pv 2) ad)))) (fN (aS (aP (be T.fw (er T) hr (ab (pv 3) ad))))))) (ae (aj (aG (ab (dI T.gk) ad)))) aE)
   (ae (aj (aG (ab am (ab (be T.oA (rO T) hr (ab (pv 2) (ab (pv 3) ad))) ad)))))))),?_⟩
 have W0:=W;have ki0:=KI.refl H;have hd0:=hd
 refine aK W0 hd0 ki0 rfl fun H1 W1 hd1 ki1=> ?_
 refine aK W1 hd1 ki1 rfl fun H2 W2 hd2 ki2=> ?_
 have es:=IJ S x y
 rw [dH,dH] at es
 refine⟨_,rfl,x,rfl,_,rfl,aU (fun h1=> ?_) (fun h1=> ?_)⟩
 ·rw [if_pos (Or.inl (cN (df h1)))] at es
  refine gY ?_
  exact⟨(by show 1≤sizeLine;decide),aD kk W2 hd2 ki2 es⟩
 ·have hx:=bL h1
  refine⟨_,rfl,y,rfl,_,rfl,aU (fun h2=> ?_) (fun h2=> ?_)⟩
  ·rw [if_pos (Or.inr (cN (df h2)))] at es
   exact⟨(by show 1≤sizeLine;decide),aD kk W2 hd2 ki2 es⟩
  ·have hy:=bL h2
   rw [decide_eq_true hx,decide_eq_true hy,if_neg (by decide)] at es
   have ex:=Int.toNat_of_nonneg hx.1
   have ey:=Int.toNat_of_nonneg hy.1
   refine⟨_,rfl,_,rfl,x.toNat,y.toNat,by rw [ex,ey];rfl,(by show x.toNat<18446744073709551616;omega),(by show y.toNat<18446744073709551616;omega),fun H3 s3=> ?_⟩
   exact⟨(by show 2≤sizeLine;decide),aD (zs:= [0,((Vbdeab.far x.toNat y.toNat:Nat):Int)]) kk (W2.same s3) hd2 (ki2.trans (KI.same s3)) es⟩
def wm (T:Tx K mg):Sp:=cp T (fun d c rest=>∃k y,d=k::y::rest∧c= .goto k y)
theorem GG (T:Tx K mg):cM P w base T.tX 6 (wm T):=by
 refine T.tX.okA mE ?_
 rintro _ A _ s H _ Q E hr ⟨G,b,r,l,a,as,S,ns,pos,c,rest,rfl,W,⟨k,y,hd,rfl⟩,kk⟩
 refine⟨_,(ac (aW 2 mE.nd (dm (pv 1) T.au (ah T) hr))
   (ac (aW 3 mE.nd (dm (pv 1) T.au (ah T) hr))
   (ac (aQ (aS (aP (be T.bn (aY T) hr (ab (pv 2) ad)))) (ae (aj (aG (ab (dI T.a7) ad)))) aE)
   (ac (aQ (aS (aP (be T.fw (er T) hr (ab (pv 3) ad)))) (ae (aj (aG (ab (dI T.gk) ad)))) aE)
   (ac (aW 4 mE.nd (fP (ao (pv 0) rfl) (pv 2)))
   (ac (aW 5 mE.nd (be T.oA (rO T) hr (ab (ao (pv 4) rfl) (ab (pv 3) ad))))
   (ac (eU (wB (pv 4) T.jb (mf T) hr (ab (pv 5) ad)))
   (ae (aj (aG (ab am (ab (pv 5) ad)))))))))))),?_⟩
 have W0:=W;have ki0:=KI.refl H;have hd0:=hd
 refine aK W0 hd0 ki0 rfl fun H1 W1 hd1 ki1=> ?_
 refine aK W1 hd1 ki1 rfl fun H2 W2 hd2 ki2=> ?_
 have es:=G1 S k y
 refine⟨_,rfl,k,rfl,_,rfl,aU (fun h1=> ?_) (fun h1=> ?_)⟩
 ·rw [gw (df h1)] at es
  exact⟨(by show 1≤sizeLine;decide),aD kk W2 hd2 ki2 es⟩
 ·have hk:=bL h1
  refine⟨_,rfl,y,rfl,_,rfl,aU (fun h2=> ?_) (fun h2=> ?_)⟩
  ·rw [gx (e:= -2) hk (by rw [dH,if_pos (cN (df h2))])] at es
   exact⟨(by show 1≤sizeLine;decide),aD kk W2 hd2 ki2 es⟩
  ·have hn:=bL h2
   obtain⟨x,t,hx,ht,est,hst,hlt⟩:=W2.sGet (k:=k.toNat) (by omega)
   rw [kf (r:=(t.moved (Vbdeab.far t.state y.toNat),[(Vbdeab.far t.state y.toNat:Int)])) hk (by rw [est,dH,decide_eq_true hn,if_neg (by decide)])] at es
   obtain⟨db,hb⟩:=id W2.bank
   obtain⟨dx,hxo⟩:=id hst
   have ey:=Int.toNat_of_nonneg hn.1
   refine⟨_,rfl,b,_,db,_,_,rfl,hb,T.aN.cl,T.aN.no _ (by decide),rfl,_,rfl,l,_,_,_,rfl,rfl,aX.of W2.lst,Gj hk.1 hx,?_⟩
   refine⟨_,rfl,x,_,dx,_,_,rfl,hxo,T.aI.cl,T.aI.no _ (by decide),rfl,_,rfl,t.state,y.toNat,by rw [ey];rfl,hlt,(by show y.toNat<18446744073709551616;omega),fun H3 s3=> ?_⟩
   have W3:=W2.same s3
   refine⟨_,rfl,x,dx,_,rfl,s3 _ _ hxo,rfl,_,rfl,x,t,_,rfl,⟨dx,s3 _ _ hxo⟩,fun H4 hs4 kp4=> ?_⟩
   have W4:=W3.stream hx ⟨dx,s3 _ _ hxo⟩ hs4 kp4 (C0 t _)
   rw [yL t (Lc.Kz t.state y.toNat)] at W4
   exact⟨_,rfl,(by show 2≤sizeLine;decide),aD (zs:= [0,(Vbdeab.far t.state y.toNat:Int)]) kk W4 hd2 ((ki2.trans (KI.same s3)).trans (KI.keep1 kp4 (s3 _ _ hxo))) es⟩
def wj (T:Tx K mg):Sp:=cp T (fun d c rest=>∃k j,d=k::j::rest∧c= .copy k j)
theorem GB (T:Tx K mg):cM P w base T.tW 4 (wj T):=by
 refine T.tW.okA vV ?_
 rintro _ A _ s H _ Q E hr ⟨G,b,r,l,a,as,S,ns,pos,c,rest,rfl,W,⟨k,j,hd,rfl⟩,kk⟩
 refine⟨_,(ac (aW 2 vV.nd (dm (pv 1) T.au (ah T) hr))
   (ac (aW 3 vV.nd (dm (pv 1) T.au (ah T) hr))
   (ac (aQ (jn (fI (aS (aP (be T.bn (aY T) hr (ab (pv 2) ad)))) (fN (aS (aP (be T.bn (aY T) hr (ab (pv 3) ad))))))) (ae (aj (aG (ab (dI T.a7) ad)))) aE)
   (ac (nJ (dm (fP (ao (pv 0) rfl) (pv 3)) T.lV (vC T) hr) (nG (ao (pv 0) rfl) (pv 2) gc))
   (ae (aj (aG (ab am ad)))))))),?_⟩
 have W0:=W;have ki0:=KI.refl H;have hd0:=hd
 refine aK W0 hd0 ki0 rfl fun H1 W1 hd1 ki1=> ?_
 refine aK W1 hd1 ki1 rfl fun H2 W2 hd2 ki2=> ?_
 have es:=GZ S k j
 rw [bX,bX] at es
 refine⟨_,rfl,k,rfl,_,rfl,aU (fun h1=> ?_) (fun h1=> ?_)⟩
 ·rw [if_pos (Or.inl (cN (df h1)))] at es
  refine gY ?_
  exact⟨(by show 1≤sizeLine;decide),aD kk W2 hd2 ki2 es⟩
 ·have hk:=bL h1
  refine⟨_,rfl,j,rfl,_,rfl,aU (fun h2=> ?_) (fun h2=> ?_)⟩
  ·rw [if_pos (Or.inr (cN (df h2)))] at es
   exact⟨(by show 1≤sizeLine;decide),aD kk W2 hd2 ki2 es⟩
  ·have hj:=bL h2
   rw [decide_eq_true hk,decide_eq_true hj,if_neg (by decide)] at es
   obtain⟨x,t,hx,ht,est,hst,hlt⟩:=W2.sGet (k:=j.toNat) (by omega)
   rw [est] at es
   obtain⟨db,hb⟩:=id W2.bank
   obtain⟨dx,hxo⟩:=id hst
   refine⟨_,rfl,b,_,db,_,_,rfl,hb,T.aN.cl,T.aN.no _ (by decide),rfl,_,rfl,l,_,_,_,rfl,rfl,aX.of W2.lst,Gj hj.1 hx,x,dx,_,rfl,hxo,rfl,x,t,rfl,hst,fun z H3 hz s3 nz=> ?_⟩
   have W3:=W2.same s3
   obtain⟨db3,hb3⟩:=id W3.bank
   have W4:=W3.replace (k:=k.toNat) (t':=t) (by omega) (Et W2 nz) hz hlt
   refine⟨_,rfl,b,_,db3,_,_,rfl,hb3,T.aN.cl,T.aN.no _ (by decide),rfl,_,rfl,l,_,_,k.toNat,rfl,rfl,W3.lst,m7 (by omega) (by rw [List.length_map,W3.len];omega),?_⟩
   rw [←List.map_set]
   exact⟨(by show 1≤sizeLine;decide),aD kk W4 hd2 ((ki2.trans (KI.same s3)).trans (W3.kiSet _)) es⟩
theorem Az {S:State} {k j:Nat} {t:Stream} (h:j≠k):(S.put j t).stream k=S.stream k:=by
 unfold State.put State.stream
 simp only [List.getD_eq_getElem?_getD]
 rw [List.getElem?_set_ne h]
theorem xl (k g j:Nat):∀(l:List Nat) (S:State),spaced k g (l++ [j]) S=(spaced k g l S).put (k+j) ⟨Vbdeab.skip (j*g%Vbdeab.P) ((spaced k g l S).stream k).state,Vbdeab.skip (j*g%Vbdeab.P) ((spaced k g l S).stream k).state,0,false⟩
 | [],S=>by rw [List.nil_append,spaced,spaced,spaced]
 | i::l,S=>by rw [List.cons_append,spaced,xl k g j l,spaced]
theorem xk (k g:Nat):∀(l:List Nat) (S:State),(∀i∈l,1≤i)→(spaced k g l S).stream k=S.stream k
 | [],S,_=>by rw [spaced]
 | i::l,S,h=>by
  rw [spaced,xk k g l _ fun j hj=>h j (List.mem_cons_of_mem _ hj)]
  exact Az (by have:=h i List.mem_cons_self;omega)
theorem ED (i:Nat):(List.range (i+2)).drop 1=(List.range (i+1)).drop 1++ [i+1]:=by
 rw [List.range_succ,List.drop_append_of_le_length (by rw [List.length_range];omega)]
theorem IF (i:Nat):∀j∈(List.range (i+1)).drop 1,1≤j:=fun j hj=>by
 rw [List.range_eq_range',List.drop_range'] at hj
 have:=List.mem_range'.mp hj
 omega
theorem Gs (g i x:Nat):Lc.jw (Lc.pw g) (Lc.jw (Lc.pw (i*g)) x)=Vbdeab.skip ((i+1)*g%Vbdeab.P) x:=by
 rw [Lc.yj (Nat.mod_lt _ Lc.Ad),Lc.K1,Nat.add_mul,Nat.one_mul,Lc.lO,Lc.CF]
theorem EU (S:State) (k n g:Int):Vbdeab.step S (.space k n g)=if streamOk k=false then(S,[-1]) else if within n 1 64=false∨64<k+n then(S,[-3]) else if stateOk g=false then(S,[-2]) else
   (spaced k.toNat g.toNat ((List.range n.toNat).drop 1) S,[0]):=by rw [Vbdeab.step]
def tN (T:Tx K mg):Sp:=cp T (fun d c rest=>∃k n g,d=k::n::g::rest∧c= .space k n g)
theorem Ex (T:Tx K mg):cM P w base T.oG 5 (tN T):=by
 refine T.oG.okA fq ?_
 rintro _ A _ s H _ Q E hr ⟨G,b,r,l,a,as,S,ns,pos,c,rest,rfl,W,⟨k,n,g,hd,rfl⟩,kk⟩
 refine⟨_,(ac (aW 2 fq.nd (dm (pv 1) T.au (ah T) hr))
   (ac (aW 3 fq.nd (dm (pv 1) T.au (ah T) hr))
   (ac (aW 4 fq.nd (dm (pv 1) T.au (ah T) hr))
   (ac (aQ (aS (aP (be T.bn (aY T) hr (ab (pv 2) ad)))) (ae (aj (aG (ab (dI T.a7) ad)))) aE)
   (ac (aQ (aS (aP (be T.bE (a4 T) hr (ab (pv 3) (ab am (ab (aB bI (dI T.wJ) (pv 2)) ad)))))) (ae (aj (aG (ab (dI T.dU) ad)))) aE)
   (ac (aQ (aS (aP (be T.fw (er T) hr (ab (pv 4) ad)))) (ae (aj (aG (ab (dI T.gk) ad)))) aE)
   (ac (aW 5 fq.nd (be T.rk (uy T) hr (ab (pv 4) ad)))
   (ac (aW 6 fq.nd (ao (fP (ao (pv 0) rfl) (pv 2)) rfl))
   (ac (cZ PassesOwn.never rfl (GR rfl T.cr (ab (aB bG (pv 2) am) (ab (aB bG (pv 2) (pv 3)) ad))) (i9 7 fq.nd) (ac (aW 6 fq.nd (wB (pv 5) T.dR (eS T) hr (ab (pv 6) ad)))
   (ae (nJ (xq T.dJ (fz T) hr (ab (pv 6) ad)) (nG (ao (pv 0) rfl) (pv 7) gc)))))
   (ae (aj (aG (ab am ad))))))))))))),?_⟩
 have W0:=W;have ki0:=KI.refl H;have hd0:=hd
 refine aK W0 hd0 ki0 rfl fun H1 W1 hd1 ki1=> ?_
 refine aK W1 hd1 ki1 rfl fun H2 W2 hd2 ki2=> ?_
 refine aK W2 hd2 ki2 rfl fun H3 W3 hd3 ki3=> ?_
 have es:=EU S k n g
 rw [bX,dH,bT] at es
 refine⟨_,rfl,k,rfl,_,rfl,aU (fun h1=> ?_) (fun h1=> ?_)⟩
 ·rw [if_pos (cN (df h1))] at es
  exact⟨(by show 1≤sizeLine;decide),aD kk W3 hd3 ki3 es⟩
 ·have hk:=bL h1
  rw [decide_eq_true hk,if_neg (by decide)] at es
  refine⟨_,rfl,_,rfl,_,_,rfl,rfl,n,1,64 - k,rfl,_,rfl,aU (fun h2=> ?_) (fun h2=> ?_)⟩
  ·have h2':=df h2
   rw [if_pos (by by_cases q:1≤n∧n≤64;right;omega;left;exact decide_eq_false q)] at es
   exact⟨(by show 1≤sizeLine;decide),aD kk W3 hd3 ki3 es⟩
  ·have hn:=bL h2
   rw [if_neg (by rw [decide_eq_true (show 1≤n∧n≤64 by omega)];intro z;rcases z with z | z;cases z;omega)] at es
   refine⟨_,rfl,g,rfl,_,rfl,aU (fun h3=> ?_) (fun h3=> ?_)⟩
   ·rw [if_pos (cN (df h3))] at es
    exact⟨(by show 1≤sizeLine;decide),aD kk W3 hd3 ki3 es⟩
   ·have hg:=bL h3
    rw [decide_eq_true hg,if_neg (by decide)] at es
    have eg:(g%18446744073709551616).toNat=g.toNat:=by omega
    refine⟨_,rfl,g,rfl,fun y H4 hy4 s4=> ?_⟩
    rw [eg] at hy4
    have W4:=W3.same s4
    obtain⟨x,t,hx,ht,est,hst,hlt⟩:=W4.sGet (k:=k.toNat) (by omega)
    obtain⟨db,hb⟩:=id W4.bank
    obtain⟨dx,hxo⟩:=id hst
    refine⟨_,rfl,b,_,db,_,_,rfl,hb,T.aN.cl,T.aN.no _ (by decide),rfl,_,rfl,l,_,_,_,rfl,rfl,aX.of W4.lst,Gj hk.1 hx,x,_,dx,_,_,rfl,hxo,T.aI.cl,T.aI.no _ (by decide),rfl,?_⟩
    refine⟨_,rfl,_,_,rfl,rfl,_,rfl,_,rfl,_,_,rfl,rfl,_,_,rfl,by omega,fy (lo:=k+1) (n:=(k+n - (k+1)).toNat) (fun i σ H'=>∃(v:Option V) (as':List Addr),σ= [some (.ref b),some (.ref r),some (.int k),some (.int n),some (.int g),some (.ref y),some (.int (Lc.jw (Lc.pw (i*g.toNat)) t.state:Nat)),v]∧mR T H' y (Lc.pw g.toNat)∧Wd G T H' b r l a as' (spaced k.toNat g.toNat ((List.range (i+1)).drop 1) S) ns (pos+1+1+1)∧KI H H') ?_ ?_ ?_⟩
    ·refine⟨none,as,?_,hy4,?_,ki3.trans (KI.same s4)⟩
     ·rw [Nat.zero_mul]
      have:Lc.jw (Lc.pw 0) t.state=t.state:=by
       unfold Lc.jw Lc.pw
       rw [Nat.one_mul,Nat.add_zero,Nat.mod_eq_of_lt hlt]
      rw [this]
      rfl
     ·have:(List.range (0+1)).drop 1= []:=rfl
      rw [this,spaced]
      exact W4
    ·rintro i σ H5 hi ⟨v,as',rfl,⟨dy,hy5⟩,W5,ki5⟩
     refine⟨_,rfl,y,dy,_,rfl,hy5,rfl,_,rfl,y,_,_,rfl,⟨dy,hy5⟩,Lc.kg _,?_⟩
     refine⟨_,rfl,?_⟩
     intro z dz nz ndz _
     refine cn nz ndz (fun H6 hz s6=> ?_) ⟨_,rfl,rfl⟩
     have W6:=W5.same s6
     obtain⟨db6,hb6⟩:=id W6.bank
     have W7:=W6.replace (k:=k.toNat+(i+1)) (by omega) (Et W5 nz) ⟨dz,hz⟩ (Lc.BG _ _)
     refine⟨_,rfl,b,_,db6,_,_,rfl,hb6,T.aN.cl,T.aN.no _ (by decide),rfl,_,rfl,l,_,_,k.toNat+(i+1),rfl,rfl,W6.lst,m7 (by omega) (by rw [List.length_map,W6.len];omega),?_⟩
     rw [←List.map_set]
     have nyl:y≠l:=bb (s6 _ _ hy5) W6.lst (by intro q;cases q)
     have est5:((spaced k.toNat g.toNat ((List.range (i+1)).drop 1) S).stream k.toNat).state=t.state:=by rw [xk _ _ _ _ (IF i),est]
     have e7:Lc.jw (Lc.pw g.toNat) (Lc.jw (Lc.pw (i*g.toNat)) t.state)=Lc.jw (Lc.pw ((i+1)*g.toNat)) t.state:=by rw [←Lc.CF,←Lc.lO,Nat.add_mul,Nat.one_mul]
     refine⟨some (.int (k+1+(i:Int))),as'.set (k.toNat+(i+1)) z,?_,⟨dy,by rw [ak nyl];exact s6 _ _ hy5⟩,?_,(ki5.trans (KI.same s6)).trans (W6.kiSet _)⟩
     ·rw [e7]
      rfl
     ·rw [ED,xl,est5,←Gs]
      exact W7
    ·rintro σ H5 ⟨v,as',rfl,_,W5,ki5⟩
     have en:(k+n - (k+1)).toNat+1=n.toNat:=by omega
     rw [en] at W5
     exact⟨(by show 1≤sizeLine;decide),aD kk W5 hd3 ki5 es⟩
theorem uK {ns ws rest:List Int} {pos n:Nat} (h:ns.drop (pos+1)=ws++rest) (hg:ns[pos]?=some (n:Int)) (hl:ws.length=n):(ns.drop (pos+1)).take n=ws∧ns.drop (pos+1+n)=rest∧pos+1+n≤ns.length:=by
 subst hl
 refine⟨by rw [h,List.take_left],by rw [←List.drop_drop,h,List.drop_left],?_⟩
 have h1:=(List.getElem?_eq_some_iff.mp hg).1
 have h2:=congrArg List.length h
 rw [List.length_append,List.length_drop] at h2
 omega
theorem qV (z:Int):z.natAbs≤Vbdeab.BIG↔(-1000000000000000000≤z∧z≤1000000000000000000):=by
 have:Vbdeab.BIG=1000000000000000000:=rfl
 rw [this]
 omega
theorem EX (S:State) (k a b:Int):Vbdeab.step S (.whole k a b)=onStream S k fun t=>if a.natAbs≤Vbdeab.BIG∧b.natAbs≤Vbdeab.BIG∧a≤b then
   .ok ((Vbdeab.raw t).1,[a+(((Vbdeab.raw t).2*(b - a+1).toNat /Vbdeab.M:Nat):Int)]) else .error (-5):=by rw [Vbdeab.step]
theorem DM (S:State) (k:Int) (ws:List Int):Vbdeab.step S (.choose k ws)=onStream S k fun t=>match weights ws with
  | none=> .error (-6)
  | some l=> .ok ((Vbdeab.raw t).1,[(chosen l (Vbdeab.raw t).2:Int)]):=by
 rw [Vbdeab.step]
 rfl
theorem Cm (S:State) (k n:Int):Vbdeab.step S (.shuffle k n)=onStream S k fun t=>if within n 0 1000=false then .error (-3) else
   .ok ((Vbdeab.raws n.toNat t).1,shownRow (shuffled n.toNat (Vbdeab.raws n.toNat t).2 0 (ramp n.toNat))):=by rw [Vbdeab.step]
theorem DR (S:State) (k n m:Int):Vbdeab.step S (.sample k n m)=onStream S k fun t=>if within n 0 1000=false then .error (-3) else if within m 0 n=false then .error (-7) else
   .ok ((Vbdeab.raws m.toNat t).1,shownRow ((shuffled n.toNat (Vbdeab.raws m.toNat t).2 0 (ramp n.toNat)).take m.toNat)):=by rw [Vbdeab.step]
def tR (T:Tx K mg):Sp:=cp T (fun d c rest=>∃k u v,d=k::u::v::rest∧c= .whole k u v)
theorem EA (T:Tx K mg):cM P w base T.oJ 3 (tR T):=by
 refine T.oJ.okA kF ?_
 rintro _ A _ s H _ Q E hr ⟨G,b,r,l,a,as,S,ns,pos,c,rest,rfl,W,⟨k,u,v,hd,rfl⟩,kk⟩
 refine⟨_,(ac (aW 2 kF.nd (dm (pv 1) T.au (ah T) hr))
   (ac (aW 3 kF.nd (dm (pv 1) T.au (ah T) hr))
   (ac (aW 4 kF.nd (dm (pv 1) T.au (ah T) hr))
   (ac (aQ (aS (aP (be T.bn (aY T) hr (ab (pv 2) ad)))) (ae (aj (aG (ab (dI T.a7) ad)))) aE)
   (ac (aQ (jn (fI (aS (aP (be T.fu (eh T) hr (ab (pv 3) ad)))) (fI (aS (aP (be T.fu (eh T) hr (ab (pv 4) ad)))) (fN (aO rP (pv 3) (pv 4) (aV _)))))) (ae (aj (aG (ab (dI T.jc) ad)))) aE)
   (ac (aW 5 kF.nd (dm (fP (ao (pv 0) rfl) (pv 2)) T.br (bF T) hr))
   (ae (aj (aG (ab am (ab (aB bG (pv 3) (be T.rl (uA T) hr (ab (pv 5) (ab (aB bG (aB bI (pv 4) (pv 3)) am) ad)))) ad))))))))))),?_⟩
 have W0:=W;have ki0:=KI.refl H;have hd0:=hd
 refine aK W0 hd0 ki0 rfl fun H1 W1 hd1 ki1=> ?_
 refine aK W1 hd1 ki1 rfl fun H2 W2 hd2 ki2=> ?_
 refine aK W2 hd2 ki2 rfl fun H3 W3 hd3 ki3=> ?_
 have es:=EX S k u v
 refine⟨_,rfl,k,rfl,_,rfl,aU (fun h1=> ?_) (fun h1=> ?_)⟩
 ·rw [gw (df h1)] at es
  exact⟨(by show 1≤sizeLine;decide),aD kk W3 hd3 ki3 es⟩
 ·have hk:=bL h1
  have bad:¬(u.natAbs≤Vbdeab.BIG∧v.natAbs≤Vbdeab.BIG∧u≤v)→Vbdeab.step S (.whole k u v)=(S,[-5]):=fun q=>es.trans (gx hk (if_neg q))
  refine⟨_,rfl,u,rfl,_,rfl,aU (fun h2=> ?_) (fun h2=> ?_)⟩
  ·have es:=bad fun q=>df h2 ((qV _).mp q.1)
   refine gY ?_
   exact⟨(by show 1≤sizeLine;decide),aD kk W3 hd3 ki3 es⟩
  ·refine⟨_,rfl,v,rfl,_,rfl,aU (fun h3=> ?_) (fun h3=> ?_)⟩
   ·have es:=bad fun q=>df h3 ((qV _).mp q.2.1)
    refine gY ?_
    exact⟨(by show 1≤sizeLine;decide),aD kk W3 hd3 ki3 es⟩
   ·refine⟨_,rfl,_,rfl,_,_,rfl,rfl,_,rfl,aU (fun h4=> ?_) (fun h4=> ?_)⟩
    ·have h4':v<u:=of_decide_eq_true h4
     have es:=bad fun q=>by have:=q.2.2;omega
     exact⟨(by show 1≤sizeLine;decide),aD kk W3 hd3 ki3 es⟩
    ·have h4':¬v<u:=fun z=>h4 (decide_eq_true z)
     have good:u.natAbs≤Vbdeab.BIG∧v.natAbs≤Vbdeab.BIG∧u≤v:=⟨(qV _).mpr (bL h2),(qV _).mpr (bL h3),by omega⟩
     obtain⟨x,t,hx,ht,est,hst,hlt⟩:=W3.sGet (k:=k.toNat) (by omega)
     rw [kf (r:=((Vbdeab.raw t).1,[u+(((Vbdeab.raw t).2*(v - u+1).toNat /Vbdeab.M:Nat):Int)])) hk (by rw [est];exact if_pos good)] at es
     obtain⟨db,hb⟩:=id W3.bank
     obtain⟨dx,hxo⟩:=id hst
     refine⟨_,rfl,b,_,db,_,_,rfl,hb,T.aN.cl,T.aN.no _ (by decide),rfl,_,rfl,l,_,_,_,rfl,rfl,aX.of W3.lst,Gj hk.1 hx,x,dx,_,rfl,hxo,rfl,x,t,rfl,hst,fun H4 hs4 kp4=> ?_⟩
     have W4:=W3.stream hx hst hs4 kp4 (by rw [uJ];exact Nat.mod_lt _ Lc.Ad)
     refine⟨_,rfl,_,rfl,_,rfl,_,rfl,_,_,rfl,rfl,_,_,rfl,rfl,_,_,rfl,Ch.sY,_,_,rfl,rfl,(by show 2≤sizeLine;decide),?_⟩
     have e5:(((Vbdeab.raw t).2:Nat):Int)*(v - u+1) /4294967296=(((Vbdeab.raw t).2*(v - u+1).toNat /Vbdeab.M:Nat):Int):=by
      rw [Int.natCast_ediv,Int.natCast_mul,Int.toNat_of_nonneg (by omega)]
      rfl
     have fin:=aD (zs:= [0,u+(((Vbdeab.raw t).2*(v - u+1).toNat /Vbdeab.M:Nat):Int)]) kk W4 hd3 (ki3.trans (KI.keep1 kp4 hxo)) es
     rw [←e5] at fin
     exact fin
def qy (T:Tx K mg):Sp:=cp T (fun d c rest=>∃(k:Int) (n_ws:Nat) (ws:List Int),d=k::(n_ws:Int)::(ws++rest)∧ws.length=n_ws∧c= .choose k ws)
theorem C7 (T:Tx K mg):cM P w base T.kM 3 (qy T):=by
 refine T.kM.okA lz ?_
 rintro _ A _ s H _ Q E hr ⟨G,b,r,l,a,as,S,ns,pos,c,rest,rfl,W,⟨k,n_ws,ws,hd,hl_ws,rfl⟩,kk⟩
 refine⟨_,(ac (aW 2 lz.nd (dm (pv 1) T.au (ah T) hr))
   (ac (aW 3 lz.nd (dm (pv 1) T.cq (cP T) hr))
   (ac (aQ (aS (aP (be T.bn (aY T) hr (ab (pv 2) ad)))) (ae (aj (aG (ab (dI T.a7) ad)))) aE)
   (ac (aQ (aS (aP (be T.gf (iQ T) hr (ab (pv 3) ad)))) (ae (aj (aG (ab (dI T.jG) ad)))) aE)
   (ac (aW 4 lz.nd (dm (fP (ao (pv 0) rfl) (pv 2)) T.br (bF T) hr))
   (ae (aj (aG (ab am (ab (be T.im (k9 T) hr (ab (pv 4) (ab (pv 3) ad))) ad)))))))))),?_⟩
 have W0:=W;have ki0:=KI.refl H;have hd0:=hd
 refine aK W0 hd0 ki0 rfl fun H1 W1 hd1 ki1=> ?_
 obtain⟨dr1,hr1⟩:=id W1.rd
 obtain⟨g2,hq2⟩:=jf hd1
 obtain⟨e2,hd2,le2⟩:=uK hq2 g2 hl_ws
 refine⟨_,rfl,r,dr1,_,rfl,hr1,rfl,r,a,_,n_ws,ns,rfl,⟨dr1,hr1⟩,W1.sq,g2,le2,fun H2 p_ws hr2 hp_ws kp2 np_ws=> ?_⟩
 rw [e2] at hp_ws
 have W2:=W1.reader hr2 kp2;have ki2:=ki1.trans (KI.keep1 kp2 hr1);obtain⟨dr2,hr2⟩:=hr2
 have es:=DM S k ws
 refine⟨_,rfl,k,rfl,_,rfl,aU (fun h1=> ?_) (fun h1=> ?_)⟩
 ·rw [gw (df h1)] at es
  exact⟨(by show 1≤sizeLine;decide),aD kk W2 hd2 ki2 es⟩
 ·have hk:=bL h1
  refine⟨_,rfl,p_ws,ws,rfl,aX.of hp_ws,_,rfl,aU (fun h2=> ?_) (fun h2=> ?_)⟩
  ·have hw:weights ws=none:=by
    cases e:weights ws with
    | none=>rfl
    | some z=>rw [e] at h2;cases h2
   rw [gx (e:= -6) hk (by rw [hw])] at es
   exact⟨(by show 1≤sizeLine;decide),aD kk W2 hd2 ki2 es⟩
  ·have hw:(weights ws).isSome=true:=by
    cases e:(weights ws).isSome with
    | true=>rfl
    | false=>rw [e] at h2;exact absurd rfl h2
   obtain⟨nn,ew,_⟩:=ij hw
   obtain⟨x,t,hx,ht,est,hst,hlt⟩:=W2.sGet (k:=k.toNat) (by omega)
   rw [kf (r:=((Vbdeab.raw t).1,[(chosen (ws.map Int.toNat) (Vbdeab.raw t).2:Int)])) hk (by rw [est,ew])] at es
   obtain⟨db,hb⟩:=id W2.bank
   obtain⟨dx,hxo⟩:=id hst
   refine⟨_,rfl,b,_,db,_,_,rfl,hb,T.aN.cl,T.aN.no _ (by decide),rfl,_,rfl,l,_,_,_,rfl,rfl,aX.of W2.lst,Gj hk.1 hx,x,dx,_,rfl,hxo,rfl,x,t,rfl,hst,fun H4 hs4 kp4=> ?_⟩
   have W4:=W2.stream hx hst hs4 kp4 (by rw [uJ];exact Nat.mod_lt _ Lc.Ad)
   have ki4:=KI.keep1 kp4 hxo
   refine⟨_,rfl,_,rfl,_,p_ws,ws,rfl,Ch.sY,aX.of (ki4 _ _ hp_ws),hw,(by show 2≤sizeLine;decide),?_⟩
   exact aD (zs:= [0,(chosen (ws.map Int.toNat) (Vbdeab.raw t).2:Int)]) kk W4 hd2 (ki2.trans ki4) es
theorem IE (n:Nat):uI n=(ramp n).map V.int:=by
 unfold uI ramp
 rw [List.map_map]
 rfl
def ol (T:Tx K mg):Sp:=cp T (fun d c rest=>∃k n,d=k::n::rest∧c= .shuffle k n)
theorem BR (T:Tx K mg):cM P w base T.i7 3 (ol T):=by
 refine T.i7.okA nX ?_
 rintro _ A _ s H _ Q E hr ⟨G,b,r,l,a,as,S,ns,pos,c,rest,rfl,W,⟨k,n,hd,rfl⟩,kk⟩
 refine⟨_,(ac (aW 2 nX.nd (dm (pv 1) T.au (ah T) hr))
   (ac (aW 3 nX.nd (dm (pv 1) T.au (ah T) hr))
   (ac (aQ (aS (aP (be T.bn (aY T) hr (ab (pv 2) ad)))) (ae (aj (aG (ab (dI T.a7) ad)))) aE)
   (ac (aQ (aS (aP (be T.fv (e9 T) hr (ab (pv 3) ad)))) (ae (aj (aG (ab (dI T.dU) ad)))) aE)
   (ae (aj (aB dF (aG (ab am (ab (pv 3) ad))) (be T.kT (lM T) hr (ab (fP (ao (pv 0) rfl) (pv 2)) (ab (mj (rM rfl) (by rfl) T.Ab (by rfl) (ab (vK rfl T.cr (ab (pv 3) ad)) ad)) (ab (pv 3) ad))))))))))),?_⟩
 have W0:=W;have ki0:=KI.refl H;have hd0:=hd
 refine aK W0 hd0 ki0 rfl fun H1 W1 hd1 ki1=> ?_
 refine aK W1 hd1 ki1 rfl fun H2 W2 hd2 ki2=> ?_
 have es:=Cm S k n
 refine⟨_,rfl,k,rfl,_,rfl,aU (fun h1=> ?_) (fun h1=> ?_)⟩
 ·rw [gw (df h1)] at es
  exact⟨(by show 1≤sizeLine;decide),aD kk W2 hd2 ki2 es⟩
 ·have hk:=bL h1
  refine⟨_,rfl,n,rfl,_,rfl,aU (fun h2=> ?_) (fun h2=> ?_)⟩
  ·rw [gx (e:= -3) hk (by rw [bT,if_pos (cN (df h2))])] at es
   exact⟨(by show 1≤sizeLine;decide),aD kk W2 hd2 ki2 es⟩
  ·have hn:=bL h2
   obtain⟨x,t,hx,ht,est,hst,hlt⟩:=W2.sGet (k:=k.toNat) (by omega)
   rw [kf (r:=((Vbdeab.raws n.toNat t).1,shownRow (shuffled n.toNat (Vbdeab.raws n.toNat t).2 0 (ramp n.toNat)))) hk (by rw [est,bT,decide_eq_true hn,if_neg (by decide)])] at es
   refine⟨_,rfl,(by show 2≤sizeLine;decide),fun q hq=> ?_⟩
   have sq:aC H2 (bC H2 q (.lst [.int 0,.int n])):=aC.laid hq
   have W3:=W2.same sq
   obtain⟨db,hb⟩:=id W3.bank
   obtain⟨dx,hxo⟩:bD T (bC H2 q (.lst [.int 0,.int n])) x t:=let ⟨d,h⟩:=hst;⟨d,sq _ _ h⟩
   refine⟨_,rfl,b,_,db,_,_,rfl,hb,T.aN.cl,T.aN.no _ (by decide),rfl,_,rfl,l,_,_,_,rfl,rfl,aX.of W3.lst,Gj hk.1 hx,?_⟩
   refine⟨_,rfl,n,rfl,by omega,by omega,fun g hg=>⟨g,n,rfl,af,by omega,by omega,fun e he=> ?_⟩⟩
   have sg:=aC.laid (o:= .rng 0 n) hg
   have se:=aC.laid (o:= .lst (uI n.toNat)) he
   have s4:=sg.trans se
   have W4:=W3.same s4
   have hxo4:=s4 _ _ hxo
   have hq4:=s4 _ _ (af (H:=H2) (a:=q) (o:= .lst [.int 0,.int n]))
   have hrl:(ramp n.toNat).length=n.toNat:=Ch.Dj _
   have en:=Int.toNat_of_nonneg hn.1
   refine⟨_,rfl,x,e,t,ramp n.toNat,n.toNat,by rw [en];rfl,⟨dx,hxo4⟩,aX.of (by rw [af,IE]),by omega,by omega,fun H5 p5 hp5 hs5 kp5 np5=> ?_⟩
   rw [hrl] at hp5
   have W5:=W4.stream hx ⟨dx,hxo4⟩ hs5 kp5 (qX hlt _)
   have hq5:=kp5 _ _ hq4 (bb hq4 hxo4 (by intro z;cases z))
   have hlen:(shuffled n.toNat (Vbdeab.raws n.toNat t).2 0 (ramp n.toNat)).length=n.toNat:=by rw [Ch.fF,hrl]
   rw [List.take_of_length_le (by omega)] at hp5
   refine⟨q,p5,_,_,rfl,rfl,hq5,hp5,(by rw [List.length_map,hlen];show 2+n.toNat≤2 ^ 24;omega),?_⟩
   have e2:(0:Int)::shownRow (shuffled n.toNat (Vbdeab.raws n.toNat t).2 0 (ramp n.toNat))=0::n::shuffled n.toNat (Vbdeab.raws n.toNat t).2 0 (ramp n.toNat):=by
    unfold shownRow
    rw [hlen,en]
   rw [e2] at es
   exact aD kk W5 hd2 (((ki2.trans (KI.same sq)).trans (KI.same s4)).trans (KI.keep1 kp5 hxo4)) es
def qE (T:Tx K mg):Sp:=cp T (fun d c rest=>∃k n m,d=k::n::m::rest∧c= .sample k n m)
theorem Dc (T:Tx K mg):cM P w base T.kS 3 (qE T):=by
 refine T.kS.okA lB ?_
 rintro _ A _ s H _ Q E hr ⟨G,b,r,l,a,as,S,ns,pos,c,rest,rfl,W,⟨k,n,m,hd,rfl⟩,kk⟩
 refine⟨_,(ac (aW 2 lB.nd (dm (pv 1) T.au (ah T) hr))
   (ac (aW 3 lB.nd (dm (pv 1) T.au (ah T) hr))
   (ac (aW 4 lB.nd (dm (pv 1) T.au (ah T) hr))
   (ac (aQ (aS (aP (be T.bn (aY T) hr (ab (pv 2) ad)))) (ae (aj (aG (ab (dI T.a7) ad)))) aE)
   (ac (aQ (aS (aP (be T.fv (e9 T) hr (ab (pv 3) ad)))) (ae (aj (aG (ab (dI T.dU) ad)))) aE)
   (ac (aQ (aS (aP (be T.bE (a4 T) hr (ab (pv 4) (ab am (ab (pv 3) ad)))))) (ae (aj (aG (ab (dI T.vn) ad)))) aE)
   (ae (aj (aB dF (aG (ab am (ab (pv 4) ad))) (be T.kT (lM T) hr (ab (fP (ao (pv 0) rfl) (pv 2)) (ab (mj (rM rfl) (by rfl) T.Ab (by rfl) (ab (vK rfl T.cr (ab (pv 3) ad)) ad)) (ab (pv 4) ad))))))))))))),?_⟩
 have W0:=W;have ki0:=KI.refl H;have hd0:=hd
 refine aK W0 hd0 ki0 rfl fun H1 W1 hd1 ki1=> ?_
 refine aK W1 hd1 ki1 rfl fun H2 W2 hd2 ki2=> ?_
 refine aK W2 hd2 ki2 rfl fun H3 W3 hd3 ki3=> ?_
 have es:=DR S k n m
 refine⟨_,rfl,k,rfl,_,rfl,aU (fun h1=> ?_) (fun h1=> ?_)⟩
 ·rw [gw (df h1)] at es
  exact⟨(by show 1≤sizeLine;decide),aD kk W3 hd3 ki3 es⟩
 ·have hk:=bL h1
  refine⟨_,rfl,n,rfl,_,rfl,aU (fun h2=> ?_) (fun h2=> ?_)⟩
  ·rw [gx (e:= -3) hk (by rw [bT,if_pos (cN (df h2))])] at es
   exact⟨(by show 1≤sizeLine;decide),aD kk W3 hd3 ki3 es⟩
  ·have hn:=bL h2
   refine⟨_,rfl,_,rfl,m,0,n,rfl,_,rfl,aU (fun h3=> ?_) (fun h3=> ?_)⟩
   ·rw [gx (e:= -7) hk (by rw [bT,bT,decide_eq_true hn,if_neg (by decide),if_pos (cN (df h3))])] at es
    exact⟨(by show 1≤sizeLine;decide),aD kk W3 hd3 ki3 es⟩
   ·have hm:=bL h3
    obtain⟨x,t,hx,ht,est,hst,hlt⟩:=W3.sGet (k:=k.toNat) (by omega)
    rw [kf (r:=((Vbdeab.raws m.toNat t).1,shownRow ((shuffled n.toNat (Vbdeab.raws m.toNat t).2 0 (ramp n.toNat)).take m.toNat))) hk (by rw [est,bT,bT,decide_eq_true hn,if_neg (by decide),decide_eq_true hm,if_neg (by decide)])] at es
    refine⟨_,rfl,(by show 2≤sizeLine;decide),fun q hq=> ?_⟩
    have sq:aC H3 (bC H3 q (.lst [.int 0,.int m])):=aC.laid hq
    have W4:=W3.same sq
    obtain⟨db,hb⟩:=id W4.bank
    obtain⟨dx,hxo⟩:bD T (bC H3 q (.lst [.int 0,.int m])) x t:=let ⟨d,h⟩:=hst;⟨d,sq _ _ h⟩
    refine⟨_,rfl,b,_,db,_,_,rfl,hb,T.aN.cl,T.aN.no _ (by decide),rfl,_,rfl,l,_,_,_,rfl,rfl,aX.of W4.lst,Gj hk.1 hx,?_⟩
    refine⟨_,rfl,n,rfl,by omega,by omega,fun g hg=>⟨g,n,rfl,af,by omega,by omega,fun e he=> ?_⟩⟩
    have sg:=aC.laid (o:= .rng 0 n) hg
    have se:=aC.laid (o:= .lst (uI n.toNat)) he
    have s4:=sg.trans se
    have W5:=W4.same s4
    have hxo4:=s4 _ _ hxo
    have hq4:=s4 _ _ (af (H:=H3) (a:=q) (o:= .lst [.int 0,.int m]))
    have hrl:(ramp n.toNat).length=n.toNat:=Ch.Dj _
    have em:=Int.toNat_of_nonneg hm.1
    refine⟨_,rfl,x,e,t,ramp n.toNat,m.toNat,by rw [em];rfl,⟨dx,hxo4⟩,aX.of (by rw [af,IE]),by omega,by omega,fun H5 p5 hp5 hs5 kp5 np5=> ?_⟩
    rw [hrl] at hp5
    have W6:=W5.stream hx ⟨dx,hxo4⟩ hs5 kp5 (qX hlt _)
    have hq5:=kp5 _ _ hq4 (bb hq4 hxo4 (by intro z;cases z))
    have hlen:((shuffled n.toNat (Vbdeab.raws m.toNat t).2 0 (ramp n.toNat)).take m.toNat).length=m.toNat:=by rw [List.length_take,Ch.fF,hrl];omega
    refine⟨q,p5,_,_,rfl,rfl,hq5,hp5,(by rw [List.length_map,hlen];show 2+m.toNat≤2 ^ 24;omega),?_⟩
    have e2:(0:Int)::shownRow ((shuffled n.toNat (Vbdeab.raws m.toNat t).2 0 (ramp n.toNat)).take m.toNat)=0::m::(shuffled n.toNat (Vbdeab.raws m.toNat t).2 0 (ramp n.toNat)).take m.toNat:=by
     unfold shownRow
     rw [hlen,em]
    rw [e2] at es
    exact aD kk W6 hd3 (((ki3.trans (KI.same sq)).trans (KI.same s4)).trans (KI.keep1 kp5 hxo4)) es
open Vbdeab (Class Dist)
theorem IK (S:State) (k:Int) (row:List Int):Vbdeab.step S (.mix k row)=onStream S k fun t=>if 1000<row.length then .error (-3) else if row.all (fun z=>decide (z.natAbs≤Vbdeab.BIG))=false then .error (-5) else
   .ok ((Vbdeab.raws row.length t).1,shownRow (shuffled row.length (Vbdeab.raws row.length t).2 0 row)):=by rw [Vbdeab.step]
theorem G3 (S:State) (k m:Int) (ws:List Int):Vbdeab.step S (.lots k m ws)=onStream S k fun t=>match weights ws with
  | none=> .error (-6)
  | some l=>if within m 0 (l.filter fun w=>decide (0<w)).length=false then .error (-7) else
   .ok ((Vbdeab.raws m.toNat t).1,shownRow (nats (lotsOf (Vbdeab.raws m.toNat t).2 l))):=by
 rw [Vbdeab.step]
 rfl
def zP (T:Tx K mg):Sp:=cp T (fun d c rest=>∃(k:Int) (n_ws:Nat) (ws:List Int),d=k::(n_ws:Int)::(ws++rest)∧ws.length=n_ws∧c= .mix k ws)
theorem Ii (T:Tx K mg):cM P w base T.z4 3 (zP T):=by
 refine T.z4.okA qr ?_
 rintro _ A _ s H _ Q E hr ⟨G,b,r,l,a,as,S,ns,pos,c,rest,rfl,W,⟨k,n_ws,ws,hd,hl_ws,rfl⟩,kk⟩
 refine⟨_,(ac (aW 2 qr.nd (dm (pv 1) T.au (ah T) hr))
   (ac (aW 3 qr.nd (dm (pv 1) T.cq (cP T) hr))
   (ac (aQ (aS (aP (be T.bn (aY T) hr (ab (pv 2) ad)))) (ae (aj (aG (ab (dI T.a7) ad)))) aE)
   (ac (aQ (aS (aP (be T.fv (e9 T) hr (ab (a5 aT (by rfl) T.eV PySem.boot_len (ab (pv 3) ad)) ad)))) (ae (aj (aG (ab (dI T.dU) ad)))) aE)
   (ac (aQ (aS (aP (a5 (Ku rfl) (by rfl) T.L6 (by rfl) (ab (iB (own:= [("number",4)]) rfl qr.nd (bW (pv 3)) (bK (N:= ["bank","reader","k","row","number"]) (sc:=ag BY) (by decide+kernel)) (fun _ _ _ _ _=>(i9 4 qr.nd)) (fun _ _ _ _ _=>cQ) (fun _ _ _ _ _=>(be T.fu (eh T) hr (ab (pv 4) ad)))) ad)))) (ae (aj (aG (ab (dI T.jc) ad)))) aE)
   (ae (aj (aB dF (aG (ab am (ab (a5 aT (by rfl) T.eV PySem.boot_len (ab (pv 3) ad)) ad))) (be T.kT (lM T) hr (ab (fP (ao (pv 0) rfl) (pv 2)) (ab (pv 3) (ab (a5 aT (by rfl) T.eV PySem.boot_len (ab (pv 3) ad)) ad)))))))))))),?_⟩
 have W0:=W;have ki0:=KI.refl H;have hd0:=hd
 refine aK W0 hd0 ki0 rfl fun H1 W1 hd1 ki1=> ?_
 obtain⟨dr1,hr1⟩:=id W1.rd
 obtain⟨g2,hq2⟩:=jf hd1
 obtain⟨e2,hd2,le2⟩:=uK hq2 g2 hl_ws
 refine⟨_,rfl,r,dr1,_,rfl,hr1,rfl,r,a,_,n_ws,ns,rfl,⟨dr1,hr1⟩,W1.sq,g2,le2,fun H2 p_ws hr2 hp_ws kp2 np_ws=> ?_⟩
 rw [e2] at hp_ws
 have W2:=W1.reader hr2 kp2;have ki2:=ki1.trans (KI.keep1 kp2 hr1);obtain⟨dr2,hr2⟩:=hr2
 have es:=IK S k ws
 have lw:(ws.map V.int).length=ws.length:=List.length_map ..
 refine⟨_,rfl,k,rfl,_,rfl,aU (fun h1=> ?_) (fun h1=> ?_)⟩
 ·rw [gw (df h1)] at es
  exact⟨(by show 1≤sizeLine;decide),aD kk W2 hd2 ki2 es⟩
 ·have hk:=bL h1
  refine⟨_,rfl,p_ws,_,rfl,.inl (aX.of hp_ws),_,rfl,_,rfl,aU (fun h2=> ?_) (fun h2=> ?_)⟩
  ·have h2':1000<ws.length:=by have:=df h2;rw [lw] at this;omega
   rw [gx (e:= -3) hk (by rw [if_pos h2'])] at es
   exact⟨(by show 1≤sizeLine;decide),aD kk W2 hd2 ki2 es⟩
  ·have h2':¬1000<ws.length:=by have:=bL h2;rw [lw] at this;omega
   refine⟨_,rfl,p_ws,rfl,⟨_,aX.of hp_ws⟩,fun L hL=>gZ (xs:=ws.map V.int) (fun i H'=>H' L=some (.lst (((ws.take i).map fun z=>decide (-1000000000000000000≤z∧z≤1000000000000000000)).map V.bl))∧aC H2 H') ⟨af,aC.laid hL⟩ (fun i H' _ h=>aX.of (h.2 _ _ hp_ws)) ?_ ?_⟩
   ·rintro i v H3 hv ⟨hL3,s3⟩
    obtain⟨z,hz,rfl⟩:=CQ hv
    refine⟨rfl,_,rfl,z,rfl,_,hL3,(by rw [List.length_map,List.length_map,List.length_take];show _<2 ^ 24;omega),?_,fun q o e=> ?_⟩
    ·rw [af,Ch.bj hz,List.map_append,List.map_append]
     rfl
    ·rw [ak (aw e hL)]
     exact s3 q o e
   ·rintro H3 ⟨hL3,s3⟩
    rw [lw,List.take_length] at hL3
    have eall:(ws.map fun z=>decide (-1000000000000000000≤z∧z≤1000000000000000000)).all id=ws.all (fun z=>decide (z.natAbs≤Vbdeab.BIG)):=by
     rw [List.all_map]
     congr 1
     funext z
     show decide _=decide _
     by_cases c:z.natAbs≤Vbdeab.BIG
     ·rw [decide_eq_true c,decide_eq_true ((qV z).mp c)]
     ·rw [decide_eq_false c,decide_eq_false fun q=>c ((qV z).mpr q)]
    have W3:=W2.same s3
    have ki3:=ki2.trans (KI.same s3)
    refine⟨L,_,rfl,aX.of hL3,_,rfl,?_⟩
    rw [eall]
    cases hall:ws.all (fun z=>decide (z.natAbs≤Vbdeab.BIG)) with
    | false=>
     refine gY ?_
     rw [gx (e:= -5) hk (by rw [if_neg h2',hall,if_pos rfl])] at es
     exact⟨(by show 1≤sizeLine;decide),aD kk W3 hd2 ki3 es⟩
    | true=>
     obtain⟨x,t,hx,ht,est,hst,hlt⟩:=W3.sGet (k:=k.toNat) (by omega)
     rw [kf (r:=((Vbdeab.raws ws.length t).1,shownRow (shuffled ws.length (Vbdeab.raws ws.length t).2 0 ws))) hk (by rw [est,if_neg h2',hall,if_neg (by decide)])] at es
     refine⟨_,rfl,p_ws,_,rfl,.inl (aX.of (s3 _ _ hp_ws)),(by show 2≤sizeLine;decide),fun q hq=> ?_⟩
     have sq:=aC.laid (o:= .lst [V.int 0,V.int ((ws.map V.int).length:Int)]) hq
     have W4:=W3.same sq
     obtain⟨db,hb⟩:=id W4.bank
     obtain⟨dx,hxo⟩:=id hst
     have hxo4:=sq _ _ hxo
     have hpw:=sq _ _ (s3 _ _ hp_ws)
     refine⟨_,rfl,b,_,db,_,_,rfl,hb,T.aN.cl,T.aN.no _ (by decide),rfl,_,rfl,l,_,_,_,rfl,rfl,aX.of W4.lst,Gj hk.1 hx,_,rfl,_,rfl,p_ws,_,rfl,.inl (aX.of hpw),x,p_ws,t,ws,ws.length,by rw [lw];rfl,⟨dx,hxo4⟩,aX.of hpw,by omega,Nat.le_refl _,fun H5 p5 hp5 hs5 kp5 np5=> ?_⟩
     have W5:=W4.stream hx ⟨dx,hxo4⟩ hs5 kp5 (qX hlt _)
     have hq5:=kp5 _ _ (af (H:=H3) (a:=q) (o:= .lst [V.int 0,V.int ((ws.map V.int).length:Int)])) (bb af hxo4 (by intro z;cases z))
     have hlen:(shuffled ws.length (Vbdeab.raws ws.length t).2 0 ws).length=ws.length:=Ch.fF _ _ _ _
     rw [List.take_of_length_le (by omega)] at hp5
     have hlenV:((shuffled ws.length (Vbdeab.raws ws.length t).2 0 ws).map V.int).length=ws.length:=by rw [List.length_map,hlen]
     refine⟨q,p5,_,_,rfl,rfl,hq5,hp5,(by rw [hlenV];show 2+ws.length≤2 ^ 24;omega),?_⟩
     have e2:(0:Int)::shownRow (shuffled ws.length (Vbdeab.raws ws.length t).2 0 ws)=0::((ws.map V.int).length:Int)::shuffled ws.length (Vbdeab.raws ws.length t).2 0 ws:=by
      unfold shownRow
      rw [hlen,lw]
     rw [e2] at es
     exact aD kk W5 hd2 ((ki3.trans (KI.same sq)).trans (KI.keep1 kp5 hxo4)) es
theorem E2 {ws:List Nat} (h1:1≤ws.length) (h2:ws.length≤64) (h3:0<Vbdeab.sum ws) (h4:Vbdeab.sum ws≤10 ^ 40):(weights (nats ws)).isSome=true:=by
 rw [Kd.ii,if_pos]
 ·rfl
 ·unfold weightsOk LIMIT
  rw [decide_eq_true h1,decide_eq_true h2,decide_eq_true (show 1≤Vbdeab.sum ws from h3),decide_eq_true h4]
  rfl
theorem Er (ws:List Nat):(nats ws).map Int.toNat=ws:=by
 unfold nats
 rw [List.map_map]
 have:(Int.toNat∘Int.ofNat)=id:=by funext n;rfl
 rw [this,List.map_id]
def xU (T:Tx K mg):Sp:=fun vs H Q _=>∃(a r:Addr) (t:Stream) (ws:List Nat) (m:Nat),vs= [.ref a,.ref r,.int m]∧bD T H a t∧aX K H r (cH ws)∧1≤ws.length∧ws.length≤64∧Vbdeab.sum ws≤10 ^ 40∧m≤Lt.pos ws∧m≤64∧∀(H':Hp) (p:Addr),H' p=some (.lst (cH (lotsOf (Vbdeab.raws m t).2 ws)))→bD T H' a (Vbdeab.raws m t).1→fZ H H' a→H p=none→Q (.ref p) H'
theorem xD (T:Tx K mg):cM P w base T.oC 2 (xU T):=by
 refine T.oC.okA d8 ?_
 rintro _ A _ s H _ Q E hr ⟨a,r,t,ws,m,rfl,⟨da,h1⟩,hs,l1,l2,hsum,hm,hm2,k⟩
 refine⟨_,(ac (aW 3 d8.nd (mj mT (by rfl) T.Ab (by rfl) (ab (pv 1) ad)))
   (ac (aW 4 d8.nd (aG ad))
   (ac (cZ PassesOwn.never rfl (bR rfl T.cr (ab (pv 2) ad)) (i9 5 d8.nd) (ac (aW 6 d8.nd (be T.im (k9 T) hr (ab (dm (pv 0) T.br (bF T) hr) (ab (pv 3) ad))))
   (ac (eU (oS PySem.F.plainAttrs_list PySem.F.slot_list_append PySem.F.type_list_append gI (pv 4) (ab (pv 6) ad)))
   (ae (nJ am (nG (pv 3) (pv 6) gc))))))
   (ae (aj (pv 4)))))),?_⟩
 refine⟨_,rfl,r,_,rfl,.inl hs,fun q hq=> ?_⟩
 have sq:=aC.laid (o:= .lst (cH ws)) hq
 have naq:a≠q:=aw h1 hq
 refine⟨Nat.zero_le _,fun p hp=> ?_⟩
 have sp:=aC.laid (o:= .lst []) hp
 have np:H p=none:=sq.free hp
 have nqp:q≠p:=aw af hp
 have nap:a≠p:=aw (sq _ _ h1) hp
 refine⟨_,rfl,m,rfl,by omega,by omega,fy (n:=(m:Int).toNat) (fun i σ H'=>i≤m∧∃v1 v2:Option V,σ= [some (.ref a),some (.ref r),some (.int m),some (.ref q),some (.ref p),v1,v2]∧H' q=some (.lst (cH (Lt.left (Vbdeab.raws i t).2 ws)))∧H' p=some (.lst (cH (lotsOf (Vbdeab.raws i t).2 ws)))∧bD T H' a (Vbdeab.raws i t).1∧Lt.Bq ws i (Lt.left (Vbdeab.raws i t).2 ws)∧∀b o,H b=some o→b≠a→H' b=some o) ?_ ?_ ?_⟩
 ·refine⟨Nat.zero_le _,none,none,rfl,?_,?_,⟨da,?_⟩,?_,fun b o e _=>sp _ _ (sq _ _ e)⟩
  ·rw [sp _ _ af,Ch.cy]
   rfl
  ·rw [af,Ch.cy]
   rfl
  ·rw [sp _ _ (sq _ _ h1),Ch.cy]
  ·rw [Ch.cy]
   exact Lt.Bq.start ws
 ·rintro i σ H1 hi ⟨_,v1,v2,rfl,hq1,hp1,⟨d1,ha1⟩,good,kp⟩
  rw [Int.toNat_natCast] at hi
  have ulen:(Vbdeab.raws i t).2.length=i:=Ch.fc _ _
  have snoc:=Ch.eu i t
  generalize hL:Lt.left (Vbdeab.raws i t).2 ws=L at*
  have hgs:=good.spos (show i<Lt.pos ws by omega)
  obtain⟨g2,clt⟩:=good.step (show i<Lt.pos ws by omega) (Ch.sY (s:=(Vbdeab.raws i t).1))
  have gl:=good.len
  refine⟨_,rfl,a,d1,_,rfl,ha1,rfl,a,_,rfl,⟨d1,ha1⟩,fun H2 ⟨d2,ha2⟩ kp2=> ?_⟩
  have hq2:H2 q=some (.lst (cH L)):=kp2 _ _ hq1 (Ne.symm naq)
  have hp2:=kp2 _ _ hp1 (Ne.symm nap)
  refine⟨_,rfl,_,q,nats L,rfl,Ch.sY,aX.of hq2,E2 (by omega) (by omega) hgs (by have:=good.sum;omega),?_⟩
  rw [Er]
  refine⟨_,rfl,.inl ⟨rfl,_,aX.of hp2⟩,_,rfl,p,_,_,rfl,rfl,hp2,(by rw [a9,Lt.um,ulen];show i<2 ^ 24;omega),?_⟩
  refine⟨_,rfl,_,rfl,q,_,_,chosen L (Vbdeab.raw (Vbdeab.raws i t).1).2,rfl,rfl,?_,m7 rfl (by rw [a9];exact clt),by omega,_,_,rfl,?_,?_,⟨d2,?_⟩,?_,fun b o e nb=> ?_⟩
  ·rw [ak nqp]
   exact hq2
  ·rw [af,snoc,Lt.vx,hL]
   unfold cH nats
   rw [List.map_set,List.map_set]
   rfl
  ·rw [ak (Ne.symm nqp),af,snoc,Lt.AX,hL,eX]
  ·rw [ak naq,ak nap,ha2,snoc]
  ·rw [snoc,Lt.vx,hL]
   exact g2
  ·rw [ak (aw e hq),ak (aw e np)]
   exact kp2 _ _ (kp _ _ e nb) nb
 ·rintro σ H1 ⟨_,v1,v2,rfl,hq1,hp1,ha1,good,kp⟩
  rw [Int.toNat_natCast] at hp1 ha1
  exact⟨_,rfl,k H1 p hp1 ha1 (fun b o e nb=>kp b o e nb) np⟩
theorem Ep {l:List Int} (h:∀x∈l,0≤x):l.map V.int=cH (l.map Int.toNat):=by
 unfold cH nats
 rw [List.map_map,List.map_map]
 refine List.map_congr_left fun x hx=> ?_
 show V.int x=V.int ((x.toNat:Nat):Int)
 rw [Int.toNat_of_nonneg (h x hx)]
theorem HE {l:List Int} (h:∀x∈l,0≤x):(l.filter fun z=>decide (0<z)).length=Lt.pos (l.map Int.toNat):=by
 induction l with
 | nil=>rfl
 | cons a r ih=>
  have ih:=ih fun x hx=>h x (List.mem_cons_of_mem _ hx)
  have ha:=h a List.mem_cons_self
  rw [List.map_cons,Lt.mn,←ih,List.filter_cons]
  by_cases q:0<a
  ·rw [if_pos (decide_eq_true q),if_pos (by omega),List.length_cons];omega
  ·rw [if_neg (by simp;omega),if_neg (by omega),Nat.zero_add]
def wo (T:Tx K mg):Sp:=cp T (fun d c rest=>∃(k m:Int) (n_ws:Nat) (ws:List Int),d=k::m::(n_ws:Int)::(ws++rest)∧ws.length=n_ws∧c= .lots k m ws)
theorem GJ (T:Tx K mg):cM P w base T.tY 3 (wo T):=by
 refine T.tY.okA jV ?_
 rintro _ A _ s H _ Q E hr ⟨G,b,r,l,a,as,S,ns,pos,c,rest,rfl,W,⟨k,m,n_ws,ws,hd,hl_ws,rfl⟩,kk⟩
 refine⟨_,(ac (aW 2 jV.nd (dm (pv 1) T.au (ah T) hr))
   (ac (aW 3 jV.nd (dm (pv 1) T.au (ah T) hr))
   (ac (aW 4 jV.nd (dm (pv 1) T.cq (cP T) hr))
   (ac (aQ (aS (aP (be T.bn (aY T) hr (ab (pv 2) ad)))) (ae (aj (aG (ab (dI T.a7) ad)))) aE)
   (ac (aQ (aS (aP (be T.gf (iQ T) hr (ab (pv 4) ad)))) (ae (aj (aG (ab (dI T.jG) ad)))) aE)
   (ac (aQ (aS (aP (be T.bE (a4 T) hr (ab (pv 3) (ab am (ab (a5 aT (by rfl) T.eV PySem.boot_len (ab (iB (own:= [("weight",5)]) rfl jV.nd (bW (pv 4)) (bK (N:= ["bank","reader","k","m","weights","weight"]) (sc:=ag zj) (by decide+kernel)) (fun _ _ _ _ _=>(i9 5 jV.nd)) (fun _ _ _ _ _=>(BW (aO rP (pv 5) am (aV _)))) (fun _ _ _ _ _=>(pv 5))) ad)) ad)))))) (ae (aj (aG (ab (dI T.vn) ad)))) aE)
   (ae (aj (aB dF (aG (ab am (ab (pv 3) ad))) (be T.oC (xD T) hr (ab (fP (ao (pv 0) rfl) (pv 2)) (ab (pv 4) (ab (pv 3) ad))))))))))))),?_⟩
 have W0:=W;have ki0:=KI.refl H;have hd0:=hd
 refine aK W0 hd0 ki0 rfl fun H1 W1 hd1 ki1=> ?_
 refine aK W1 hd1 ki1 rfl fun H2 W2 hd2 ki2=> ?_
 obtain⟨dr2,hr2⟩:=id W2.rd
 obtain⟨g3,hq3⟩:=jf hd2
 obtain⟨e3,hd3,le3⟩:=uK hq3 g3 hl_ws
 refine⟨_,rfl,r,dr2,_,rfl,hr2,rfl,r,a,_,n_ws,ns,rfl,⟨dr2,hr2⟩,W2.sq,g3,le3,fun H3 p_ws hr3 hp_ws kp3 np_ws=> ?_⟩
 rw [e3] at hp_ws
 have W3:=W2.reader hr3 kp3;have ki3:=ki2.trans (KI.keep1 kp3 hr2);obtain⟨dr3,hr3⟩:=hr3
 have es:=G3 S k m ws
 have lw:(ws.map V.int).length=ws.length:=List.length_map ..
 refine⟨_,rfl,k,rfl,_,rfl,aU (fun h1=> ?_) (fun h1=> ?_)⟩
 ·rw [gw (df h1)] at es
  exact⟨(by show 1≤sizeLine;decide),aD kk W3 hd3 ki3 es⟩
 ·have hk:=bL h1
  refine⟨_,rfl,p_ws,ws,rfl,aX.of hp_ws,_,rfl,aU (fun h2=> ?_) (fun h2=> ?_)⟩
  ·have hw:weights ws=none:=by
    cases e:weights ws with
    | none=>rfl
    | some z=>rw [e] at h2;cases h2
   rw [gx (e:= -6) hk (by rw [hw])] at es
   exact⟨(by show 1≤sizeLine;decide),aD kk W3 hd3 ki3 es⟩
  ·have hw:(weights ws).isSome=true:=by
    cases e:(weights ws).isSome with
    | true=>rfl
    | false=>rw [e] at h2;exact absurd rfl h2
   obtain⟨nn,ew,l1,l2,s1,s2⟩:=ij hw
   refine⟨_,rfl,_,rfl,p_ws,rfl,⟨_,aX.of hp_ws⟩,fun L hL=>gZ (xs:=ws.map V.int) (fun i H'=>(∃zs:List V,H' L=some (.lst zs)∧zs.length=((ws.take i).filter fun z=>decide (0<z)).length)∧aC H3 H') ⟨⟨[],af,rfl⟩,aC.laid hL⟩ (fun i H' _ h=>aX.of (h.2 _ _ hp_ws)) ?_ ?_⟩
   ·rintro i v H4 hv ⟨⟨zs,hL4,hz4⟩,s4⟩
    obtain⟨z,hz,rfl⟩:=CQ hv
    have fl:∀i,((ws.take i).filter fun z=>decide (0<z)).length≤ws.length:=fun i=>Nat.le_trans (List.length_filter_le _ _) (by rw [List.length_take];omega)
    refine⟨rfl,_,rfl,_,_,rfl,rfl,_,rfl,aU (fun h3=> ?_) (fun h3=> ?_)⟩
    ·have h3':0<z:=of_decide_eq_true h3
     refine⟨_,rfl,_,hL4,?_,⟨_,af,?_⟩,fun q o e=> ?_⟩
     ·rw [hz4]
      have:=fl i
      show _<2 ^ 24
      omega
     ·rw [Ch.bj hz,List.filter_append,List.length_append,List.length_append,hz4,List.filter_cons,if_pos (decide_eq_true h3')]
      rfl
     ·rw [ak (aw e hL)]
      exact s4 q o e
    ·have h3':¬0<z:=fun q=>h3 (decide_eq_true q)
     refine⟨⟨zs,hL4,?_⟩,s4⟩
     rw [Ch.bj hz,List.filter_append,List.length_append,List.filter_cons,if_neg (by simp;omega),hz4]
     rfl
   ·rintro H4 ⟨⟨zs,hL4,hz4⟩,s4⟩
    rw [lw,List.take_length,HE nn] at hz4
    have W4:=W3.same s4
    have ki4:=ki3.trans (KI.same s4)
    have epos:((ws.map Int.toNat).filter fun w=>decide (0<w)).length=Lt.pos (ws.map Int.toNat):=rfl
    refine⟨L,_,rfl,.inl (aX.of hL4),m,0,_,rfl,_,rfl,?_⟩
    rw [hz4]
    refine aU (fun h3=> ?_) (fun h3=> ?_)
    ·rw [gx (e:= -7) hk (by rw [ew];show(if within m 0 _=false then _ else _)=_;rw [epos,bT,if_pos (cN (df h3))])] at es
     exact⟨(by show 1≤sizeLine;decide),aD kk W4 hd3 ki4 es⟩
    ·have hm:=bL h3
     obtain⟨x,t,hx,ht,est,hst,hlt⟩:=W4.sGet (k:=k.toNat) (by omega)
     rw [kf (r:=((Vbdeab.raws m.toNat t).1,shownRow (nats (lotsOf (Vbdeab.raws m.toNat t).2 (ws.map Int.toNat))))) hk (by rw [est,ew];show(if within m 0 _=false then _ else _)=_;rw [epos,bT,decide_eq_true hm,if_neg (by decide)])] at es
     refine⟨_,rfl,(by show 2≤sizeLine;decide),fun q hq=> ?_⟩
     have sq:=aC.laid (o:= .lst [V.int 0,V.int m]) hq
     have W5:=W4.same sq
     obtain⟨db,hb⟩:=id W5.bank
     obtain⟨dx,hxo⟩:=id hst
     have hxo5:=sq _ _ hxo
     have hpw:=sq _ _ (s4 _ _ hp_ws)
     rw [Ep nn] at hpw
     have em:=Int.toNat_of_nonneg hm.1
     have hpl:Lt.pos (ws.map Int.toNat)≤(ws.map Int.toNat).length:=List.length_filter_le _ _
     have hlm:(ws.map Int.toNat).length=ws.length:=List.length_map ..
     refine⟨_,rfl,b,_,db,_,_,rfl,hb,T.aN.cl,T.aN.no _ (by decide),rfl,_,rfl,l,_,_,_,rfl,rfl,aX.of W5.lst,Gj hk.1 hx,_,rfl,_,rfl,x,p_ws,t,ws.map Int.toNat,m.toNat,by rw [em];rfl,⟨dx,hxo5⟩,aX.of hpw,by omega,by omega,s2,by omega,by omega,fun H6 p6 hp6 hs6 kp6 np6=> ?_⟩
     have W6:=W5.stream hx ⟨dx,hxo5⟩ hs6 kp6 (qX hlt _)
     have hq6:=kp6 _ _ (af (H:=H4) (a:=q) (o:= .lst [V.int 0,V.int m])) (bb af hxo5 (by intro z;cases z))
     have hlen:(nats (lotsOf (Vbdeab.raws m.toNat t).2 (ws.map Int.toNat))).length=m.toNat:=by rw [pO,Lt.um,Ch.fc]
     refine⟨q,p6,_,_,rfl,rfl,hq6,hp6,(by rw [a9,Lt.um,Ch.fc];show 2+m.toNat≤2 ^ 24;omega),?_⟩
     have e2:(0:Int)::shownRow (nats (lotsOf (Vbdeab.raws m.toNat t).2 (ws.map Int.toNat)))=0::m::nats (lotsOf (Vbdeab.raws m.toNat t).2 (ws.map Int.toNat)):=by
      unfold shownRow
      rw [hlen,em]
     rw [e2] at es
     exact aD kk W6 hd3 ((ki4.trans (KI.same sq)).trans (KI.keep1 kp6 hxo5)) es
open Vbdeab (Class Dist)
theorem yb {T:Tx K mg} {H:Hp} {b r l a:Addr} {as:List Addr} {S:State} {ns:List Int} {pos:Nat} (W:Wd G T H b r l a as S ns pos):∀c∈G.av l,H c≠none:=fun c hc z=>by
 unfold Gh.av at hc
 obtain⟨xs,ho⟩:=W.dw.oo
 obtain⟨vs,hv,_⟩:=W.dw.vs
 rcases List.mem_cons.mp hc with q | hc
 ·rw [q,ho] at z;cases z
 ·rcases List.mem_cons.mp hc with q | hc
  ·rw [q,W.lst] at z;cases z
  ·rw [List.mem_singleton] at hc
   rw [hc,hv] at z;cases z
theorem Wd.dGet {T:Tx K mg} {H:Hp} {b r l a:Addr} {as:List Addr} {S:State} {ns:List Int} {pos:Nat} (W:Wd G T H b r l a as S ns pos) {d:Int} (h:0≤d∧d≤63):∃vs v,H G.l2=some (.lst vs)∧vs.length=64∧vs[d.toNat]?=some v∧He vs d=some v∧gG T (G.av l) H v (S.dist d.toNat):=by
 obtain⟨vs,h1,h2,h3⟩:=W.dw.vs
 have e:=List.getElem?_eq_getElem (show d.toNat<vs.length by omega)
 have e2:=List.getElem?_eq_getElem (show d.toNat<S.dists.length by rw [W.dw.dlen];omega)
 refine⟨vs,_,h1,h2,e,rL (j:=d.toNat) (by omega) e,?_⟩
 have z:=h3 _ _ _ e e2
 unfold State.dist
 rw [List.getD_eq_getElem?_getD,e2]
 exact z
theorem Wd.hold {T:Tx K mg} {H:Hp} {b r l a:Addr} {as:List Addr} {S:State} {ns:List Int} {pos:Nat} (W:Wd G T H b r l a as S ns pos) {d:Nat} (hd:d<64) {vs:List V} (hv:H G.l2=some (.lst vs)) {v:V} {x:Option Dist} (o:gG T (G.av l) H v x):
  Wd G T (bC H G.l2 (.lst (vs.set d v))) b r l a as (S.hold d x) ns pos:=by
 obtain⟨⟨dx,hb⟩,⟨dr,hr⟩,hq,hl,nd,len,sl,at_,ok,dw⟩:=W
 have kp:∀c o,H c=some o→c≠G.l2→bC H G.l2 (.lst (vs.set d v)) c=some o:=fun c o e n=>by rw [ak n];exact e
 have kpp:KQ (G.av l) H (bC H G.l2 (.lst (vs.set d v))):= .set (by unfold Gh.av;simp) hv
 refine⟨⟨dx,kp _ _ hb (bb hb hv (by intro z;cases z))⟩,⟨dr,kp _ _ hr (bb hr hv (by intro z;cases z))⟩,hq.keep (fun _ _ _ e=>kp _ _ e (bb e hv (by intro z;cases z))),kp _ _ hl dw.n3,nd,len,sl,fun j z u h2 h3=> ?_,ok,?_⟩
 ·obtain⟨d,h⟩:=at_ j z u h2 h3
  exact⟨d,kp _ _ h (bb h hv (by intro z;cases z))⟩
 ·obtain⟨⟨vs',h1,h2,h3⟩,dlen,⟨xs,oo⟩,n1,n2,n3,tb,to,bm⟩:=dw
  have ev:vs'=vs:=by rw [hv] at h1;exact(HO.lst.inj (Option.some.inj h1)).symm
  subst ev
  refine⟨⟨_,af,by rw [List.length_set];exact h2,fun j u y a1 a2=> ?_⟩,?_,⟨xs,kp _ _ oo (Ne.symm n2)⟩,n1,n2,n3,kpp.t _ tb,to,bm.keep kpp.x⟩
  ·have a2':(S.dists.set d x)[j]?=some y:=a2
   by_cases hj:j=d
   ·subst hj
    rw [List.getElem?_set_self (by omega)] at a1
    rw [List.getElem?_set_self (by omega)] at a2'
    cases a1
    cases a2'
    exact o.kp kpp.toKP
   ·rw [List.getElem?_set_ne (fun q=>hj q.symm)] at a1 a2'
    exact(h3 j u y a1 a2').kp kpp.toKP
  ·show(S.dists.set d x).length=64
   rw [List.length_set]
   exact dlen
theorem Wd.kiHold {T:Tx K mg} {H:Hp} {b r l a:Addr} {as:List Addr} {S:State} {ns:List Int} {pos:Nat} (W:Wd G T H b r l a as S ns pos) (o:HO):KI H (bC H G.l2 o):=fun x xs h=>by
 refine(ak fun q=> ?_).trans h
 obtain⟨vs,h1,h2,h3⟩:=W.dw.vs
 rw [q,h1] at h
 have e:=HO.lst.inj (Option.some.inj h)
 have l0:=W.dw.dlen
 match vs,h2,e,h3 with
 | v::_,_,e,h3=>
  match S.dists,l0,h3 with
  | y::_,_,h3=>
   have z:=h3 0 v y rfl rfl
   match xs,e with
   | n::_,e=>
    have ev:v=V.int n:=by injection e
    subst ev
    cases y with
    | none=>exact absurd (show V.int n=V.non from z) (by intro q;cases q)
    | some dd=>obtain⟨_,q,_⟩:=z;cases q
theorem ji {S:State} {d:Int} {f:Dist→State×List Int}:(¬(0≤d∧d≤63)→onDist S d f=(S,[-8]))∧((0≤d∧d≤63)→S.dist d.toNat=none→onDist S d f=(S,[-12]))∧((0≤d∧d≤63)→∀x,S.dist d.toNat=some x→onDist S d f=f x):=by
 unfold onDist
 rw [bX]
 refine⟨fun h=> ?_,fun h e=> ?_,fun h x e=> ?_⟩
 ·rw [decide_eq_false h,if_pos rfl]
 ·rw [decide_eq_true h,if_neg (by decide),e]
 ·rw [decide_eq_true h,if_neg (by decide),e]
def Au (T:Tx K mg):Sp:=fun vs H Q _=>∃n:Int,vs= [.int n]∧Q (.bl (decide (0≤n∧n≤63))) H
theorem dE (T:Tx K mg):cM P w base T.d5 2 (Au T):=by
 refine T.d5.okA An ?_
 rintro _ A _ s H _ Q E hr ⟨n,rfl,k⟩
 refine⟨_,(ae (aj (be T.bE (a4 T) hr (ab (pv 0) (ab am (ab (aB bI (dI T.D6) am) ad)))))),?_⟩
 exact⟨_,rfl,_,_,rfl,rfl,n,0,63,rfl,k⟩
def Al (S:State) (d:Int):Int:=if 0≤d∧d≤63 then(match S.dist d.toNat with | none=> -12 | some _=>0) else -8
def tM (T:Tx K mg):Sp:=fun vs H Q _=>∃(G:Gh) (b r l a:Addr) (as:List Addr) (S:State) (ns:List Int) (pos:Nat) (d:Int),vs= [.ref b,.int d]∧Wd G T H b r l a as S ns pos∧Q (.int (Al S d)) H
theorem bM (T:Tx K mg):cM P w base T.bP 3 (tM T):=by
 refine T.bP.okA tu ?_
 rintro _ A _ s H _ Q E hr ⟨G,b,r,l,a,as,S,ns,pos,d,rfl,W,k⟩
 refine⟨_,(ac (aQ (aS (aP (be T.d5 (dE T) hr (ab (pv 1) ad)))) (ae (aj (dI T.jd))) aE)
   (ac (aQ (aO iS (fP (ao (pv 0) rfl) (pv 1)) ck (aV _)) (ae (aj (dI T.lY))) aE)
   (ae (aj am)))),?_⟩
 refine⟨_,rfl,d,rfl,_,rfl,aU (fun h1=> ?_) (fun h1=> ?_)⟩
 ·have e:Al S d= -8:=if_neg (df h1)
  rw [e] at k
  exact k
 ·have hd:=bL h1
  obtain⟨vs,v,h2,h3,h4,h5,h6⟩:=W.dGet hd
  obtain⟨db,hb⟩:=id W.bank
  have e:Al S d=match S.dist d.toNat with | none=> -12 | some _=>0:=if_pos hd
  rw [e] at k
  refine⟨_,rfl,b,_,db,_,_,rfl,hb,T.aN.cl,T.aN.no _ (by decide),rfl,_,rfl,G.l2,_,_,_,rfl,rfl,aX.of h2,h5,?_⟩
  cases hx:S.dist d.toNat with
  | none=>
   rw [hx] at h6 k
   obtain rfl:v= .non:=h6
   exact⟨rfl,_,rfl,k⟩
  | some x=>
   rw [hx] at h6 k
   obtain⟨y,rfl,_⟩:=h6
   exact⟨rfl,_,rfl,k⟩
def GU (T:Tx K mg):Sp:=fun vs H Q _=>∃(G:Gh) (b r l a:Addr) (as:List Addr) (S:State) (ns:List Int) (pos:Nat) (d:Int) (v:V) (x:Option Dist),vs= [.ref b,.int d,v]∧Wd G T H b r l a as S ns pos∧(0≤d∧d≤63)∧gG T (G.av l) H v (checked x)∧∀(H':Hp) (p:Addr) (S':State) (zs:List Int),holdNew S d x=(S',zs)→Wd G T H' b r l a as S' ns pos→H' p=some (.lst (zs.map V.int))→KI H H'→NF H p→Q (.ref p) H'
theorem vE (T:Tx K mg):cM P w base T.zZ 1 (GU T):=by
 refine T.zZ.okA GS ?_
 rintro _ A _ s H _ Q E hr ⟨G,b,r,l,a,as,S,ns,pos,d,v,x,rfl,W,hd,ho,kk⟩
 refine⟨_,(ac (aQ (aO iS (pv 2) ck (aV _)) (ae (aj (aG (ab (dI T.vm) ad)))) aE)
   (ac (nJ (pv 2) (nG (ao (pv 0) rfl) (pv 1) gc))
   (ae (aj (aG (ab am ad)))))),?_⟩
 cases hx:checked x with
 | none=>
  rw [hx] at ho
  obtain rfl:v= .non:=ho
  have e:holdNew S d x=(S,[-10]):=by unfold holdNew;rw [hx]
  refine⟨_,rfl,rfl,_,rfl,(by show 1≤sizeLine;decide),fun p hp=> ?_⟩
  exact kk _ p S [-10] e (W.same (aC.laid hp)) af (KI.same (aC.laid hp)) ((KI.refl H).nf hp)
 | some y=>
  rw [hx] at ho
  obtain⟨z,rfl,hz⟩:=id ho
  have e:holdNew S d x=(S.hold d.toNat (some y),[0]):=by unfold holdNew;rw [hx]
  obtain⟨vs,v0,h2,h3,h4,h5,h6⟩:=W.dGet hd
  obtain⟨db,hb⟩:=id W.bank
  have W2:=W.hold (d:=d.toNat) (by omega) h2 (x:=some y) ho
  have ki2:=W.kiHold (.lst (vs.set d.toNat (.ref z)))
  refine⟨_,rfl,rfl,_,rfl,_,rfl,_,rfl,b,_,db,_,_,rfl,hb,T.aN.cl,T.aN.no _ (by decide),rfl,_,rfl,G.l2,_,_,d.toNat,rfl,rfl,h2,m7 (by omega) (by omega),(by show 1≤sizeLine;decide),fun p hp=> ?_⟩
  exact kk _ p _ [0] e (W2.same (aC.laid hp)) af (ki2.trans (KI.same (aC.laid hp))) (ki2.nf hp)
open Vbdeab (Class Dist)
theorem DN (S:State) (d kind:Int) (a b:List Int):Vbdeab.step S (.define d kind a b)=if streamOk d=false then(S,[-8]) else holdNew S d (build kind a b):=by rw [Vbdeab.step]
theorem DO (S:State) (d:Int):Vbdeab.step S (.forget d)=onDist S d fun _=>(S.hold d.toNat none,[0]):=by rw [Vbdeab.step]
theorem G7 (S:State) (d:Int):Vbdeab.step S (.told d)=onDist S d fun x=>(S,0::(shownRow (toldRows x).1++shownRow (toldRows x).2)):=by rw [Vbdeab.step]
theorem ES (S:State) (d e f v w:Int):Vbdeab.step S (.blend d e f v w)=if streamOk d=false∨streamOk e=false∨streamOk f=false then(S,[-8]) else match S.dist e.toNat,S.dist f.toNat with
  | some x,some y=>if within v 0 1000000000=false∨within w 0 1000000000=false∨(v=0∧w=0) then(S,[-6]) else holdNew S d (some (Vbdeab.blend x y v.toNat w.toNat))
  | _,_=>(S,[-12]):=by
 rw [Vbdeab.step]
 rfl
theorem GY (S:State) (d e p q r t:Int):Vbdeab.step S (.bend d e p q r t)=if streamOk d=false∨streamOk e=false then(S,[-8]) else match S.dist e.toNat with
  | none=>(S,[-12])
  | some x=>match Vbdeab.fraction p q,Vbdeab.fraction r t with
   | some a,some b=>holdNew S d (some (Vbdeab.bend x a b))
   | _,_=>(S,[-5]):=by
 rw [Vbdeab.step]
 rfl
theorem fe (S:State) (d:Int):(¬(0≤d∧d≤63)∧Al S d= -8)∨((0≤d∧d≤63)∧S.dist d.toNat=none∧Al S d= -12)∨((0≤d∧d≤63)∧∃x,S.dist d.toNat=some x∧Al S d=0):=by
 unfold Al
 by_cases h:0≤d∧d≤63
 ·rw [if_pos h]
  cases e:S.dist d.toNat with
  | none=>exact .inr (.inl ⟨h,rfl,rfl⟩)
  | some x=>exact .inr (.inr ⟨h,x,rfl,rfl⟩)
 ·rw [if_neg h]
  exact .inl ⟨h,rfl⟩
def qA (T:Tx K mg):Sp:=cp T (fun dd c rest=>∃(d kind:Int) (n_wa:Nat) (wa:List Int) (n_wb:Nat) (wb:List Int),dd=d::kind::(n_wa:Int)::(wa++((n_wb:Int)::(wb++rest)))∧wa.length=n_wa∧wb.length=n_wb∧c= .define d kind wa wb∧iy wa∧iy wb∧wa.length≤7500)
theorem C8 (T:Tx K mg):cM P w base T.kN 11 (qA T):=by
 refine T.kN.okA jq ?_
 rintro _ A _ s H _ Q E hr ⟨G,b,r,l,a,as,S,ns,pos,c,rest,rfl,W,⟨d,kind,n_wa,wa,n_wb,wb,hd,hl_wa,hl_wb,rfl,hza,hzb,hla⟩,kk⟩
 refine⟨_,(ac (aW 2 jq.nd (dm (pv 1) T.au (ah T) hr))
   (ac (aW 3 jq.nd (dm (pv 1) T.au (ah T) hr))
   (ac (aW 4 jq.nd (dm (pv 1) T.cq (cP T) hr))
   (ac (aW 5 jq.nd (dm (pv 1) T.cq (cP T) hr))
   (ac (aQ (aS (aP (be T.d5 (dE T) hr (ab (pv 2) ad)))) (ae (aj (aG (ab (dI T.jd) ad)))) aE)
   (ae (aj (be T.zZ (vE T) hr (ab (pv 0) (ab (pv 2) (ab (be T.wF (BP T) hr (ab (pv 3) (ab (pv 4) (ab (pv 5) ad)))) ad))))))))))),?_⟩
 have W0:=W;have ki0:=KI.refl H;have hd0:=hd
 refine aK W0 hd0 ki0 rfl fun H1 W1 hd1 ki1=> ?_
 refine aK W1 hd1 ki1 rfl fun H2 W2 hd2 ki2=> ?_
 obtain⟨dr2,hr2⟩:=id W2.rd
 obtain⟨g3,hq3⟩:=jf hd2
 obtain⟨e3,hd3,le3⟩:=uK hq3 g3 hl_wa
 refine⟨_,rfl,r,dr2,_,rfl,hr2,rfl,r,a,_,n_wa,ns,rfl,⟨dr2,hr2⟩,W2.sq,g3,le3,fun H3 p_wa hr3 hp_wa kp3 np_wa=> ?_⟩
 rw [e3] at hp_wa
 have W3:=W2.reader hr3 kp3;have ki3:=ki2.trans (KI.keep1 kp3 hr2);obtain⟨dr3,hr3⟩:=hr3
 obtain⟨g4,hq4⟩:=jf hd3
 obtain⟨e4,hd4,le4⟩:=uK hq4 g4 hl_wb
 refine⟨_,rfl,r,dr3,_,rfl,hr3,rfl,r,a,_,n_wb,ns,rfl,⟨dr3,hr3⟩,W3.sq,g4,le4,fun H4 p_wb hr4 hp_wb kp4 np_wb=> ?_⟩
 rw [e4] at hp_wb
 have W4:=W3.reader hr4 kp4;have ki4:=ki3.trans (KI.keep1 kp4 hr3);obtain⟨dr4,hr4⟩:=hr4
 have es:=DN S d kind wa wb
 rw [bX] at es
 refine⟨_,rfl,d,rfl,_,rfl,aU (fun h1=> ?_) (fun h1=> ?_)⟩
 ·rw [if_pos (cN (df h1))] at es
  exact⟨(by show 1≤sizeLine;decide),aD kk W4 hd4 ki4 es⟩
 ·have hk:=bL h1
  rw [decide_eq_true hk,if_neg (by decide)] at es
  have hpa:=kp4.seq (K:=K) hr3 (aX.of hp_wa)
  have hpa4:H4 p_wa=some (.lst (wa.map V.int)):=kp4 _ _ hp_wa (bb hp_wa hr3 (by intro z;cases z))
  have nal:p_wa ∉ G.av l:=fun m=>by
   have z:=yb W2 p_wa m
   exact z np_wa
  refine⟨_,rfl,_,rfl,_,rfl,_,rfl,_,rfl,G.av l,p_wa,p_wb,kind,wa,wb,rfl,hpa4,aX.of hp_wb,hza,hzb,by omega,nal,yb W4,fun v H5 o5 s5=> ?_⟩
  have W5:=W4.same s5
  refine⟨G,b,r,l,a,as,S,ns,_,d,v,_,rfl,W5,hk,o5,fun H6 p6 S6 zs e6 W6 hp6 ki6 nf6=> ?_⟩
  have es2:=es.trans e6
  have kifin:=ki4.trans ((KI.same s5).trans ki6)
  rw [es2] at kk
  exact kk H6 p6 as _ W6 hd4 hp6 kifin (fun x xs hx=>nf6 x xs ((ki4.trans (KI.same s5)) x xs hx))
def qB (T:Tx K mg):Sp:=cp T (fun dd c rest=>∃d,dd=d::rest∧c= .forget d)
theorem C9 (T:Tx K mg):cM P w base T.kO 4 (qB T):=by
 refine T.kO.okA qp ?_
 rintro _ A _ s H _ Q E hr ⟨G,b,r,l,a,as,S,ns,pos,c,rest,rfl,W,⟨d,hd,rfl⟩,kk⟩
 refine⟨_,(ac (aW 2 qp.nd (dm (pv 1) T.au (ah T) hr))
   (ac (aW 3 qp.nd (be T.bP (bM T) hr (ab (pv 0) (ab (pv 2) ad))))
   (ac (aQ (aO jj (pv 3) am (aV _)) (ae (aj (aG (ab (pv 3) ad)))) aE)
   (ac (nJ ck (nG (ao (pv 0) rfl) (pv 2) gc))
   (ae (aj (aG (ab am ad)))))))),?_⟩
 have W0:=W;have ki0:=KI.refl H;have hd0:=hd
 refine aK W0 hd0 ki0 rfl fun H1 W1 hd1 ki1=> ?_
 have es:=DO S d
 refine⟨_,rfl,_,rfl,G,b,r,l,a,as,S,ns,_,d,rfl,W1,?_⟩
 rcases fe S d with⟨h,e⟩ | ⟨h,h2,e⟩ | ⟨h,x,h2,e⟩
 ·rw [e,ji.1 h] at*
  refine⟨_,rfl,_,_,rfl,rfl,_,rfl,_,rfl,?_⟩
  exact⟨(by show 1≤sizeLine;decide),aD kk W1 hd1 ki1 es⟩
 ·rw [e] at*
  rw [ji.2.1 h h2] at es
  refine⟨_,rfl,_,_,rfl,rfl,_,rfl,_,rfl,?_⟩
  exact⟨(by show 1≤sizeLine;decide),aD kk W1 hd1 ki1 es⟩
 ·rw [e] at*
  rw [ji.2.2 h x h2] at es
  obtain⟨vs,v,g2,g3,g4,g5,g6⟩:=W1.dGet h
  obtain⟨db,hb⟩:=id W1.bank
  have W2:=W1.hold (d:=d.toNat) (by omega) g2 (v:= .non) (x:=none) rfl
  refine⟨_,rfl,_,_,rfl,rfl,_,rfl,_,rfl,b,_,db,_,_,rfl,hb,T.aN.cl,T.aN.no _ (by decide),rfl,_,rfl,G.l2,_,_,d.toNat,rfl,rfl,g2,m7 (by omega) (by omega),?_⟩
  exact⟨(by show 1≤sizeLine;decide),aD kk W2 hd1 (ki1.trans (W1.kiHold _)) es⟩
open Vbdeab (Class Dist)
theorem Bj (c:Class):(shownClass c).length=6:=by cases c<;>rfl
theorem yF (d:Dist):(d.flatMap fun c=>shownClass c.2).length=6*d.length:=by
 induction d with
 | nil=>rfl
 | cons c r ih=>rw [List.flatMap_cons,List.length_append,ih,Bj,List.length_cons];omega
theorem Gc {d:Dist} {i:Nat} {c:Nat×Class} (h:d[i]?=some c):((d.take (i+1)).flatMap fun c=>shownClass c.2)=((d.take i).flatMap fun c=>shownClass c.2)++shownClass c.2:=by
 rw [Ch.bj h,List.flatMap_append]
 simp
def wx (T:Tx K mg):Sp:=cp T (fun dd c rest=>∃d,dd=d::rest∧c= .told d)
theorem GO (T:Tx K mg):cM P w base T.ua 4 (wx T):=by
 refine T.ua.okA jX ?_
 rintro _ A _ s H _ Q E hr ⟨G,b,r,l,a,as,S,ns,pos,c,rest,rfl,W,⟨d,hd,rfl⟩,kk⟩
 refine⟨_,(ac (aW 2 jX.nd (dm (pv 1) T.au (ah T) hr))
   (ac (aW 3 jX.nd (be T.bP (bM T) hr (ab (pv 0) (ab (pv 2) ad))))
   (ac (aQ (aO jj (pv 3) am (aV _)) (ae (aj (aG (ab (pv 3) ad)))) aE)
   (ac (aW 4 jX.nd (fP (ao (pv 0) rfl) (pv 2)))
   (ac (aW 5 jX.nd (aG ad))
   (ac (cZ PassesOwn.never rfl (bW (ao (pv 4) rfl)) (i9 6 jX.nd) (ae (eU (oS PySem.F.plainAttrs_list PySem.F.slot_list_extend PySem.F.type_list_extend qU (pv 5) (ab (sX (dm (pv 6) T.fU (nq T) hr) (dm (pv 6) T.fR (nj T) hr)) ad)))))
   (ae (aj (aB dF (aB dF (aB dF (aG (ab am (ab (a5 aT (by rfl) T.eV PySem.boot_len (ab (ao (pv 4) rfl) ad)) ad))) (ao (pv 4) rfl)) (aG (ab (a5 aT (by rfl) T.eV PySem.boot_len (ab (pv 5) ad)) ad))) (pv 5)))))))))),?_⟩
 have W0:=W;have ki0:=KI.refl H;have hd0:=hd
 refine aK W0 hd0 ki0 rfl fun H1 W1 hd1 ki1=> ?_
 have es:=G7 S d
 refine⟨_,rfl,_,rfl,G,b,r,l,a,as,S,ns,_,d,rfl,W1,?_⟩
 rcases fe S d with⟨h,e⟩ | ⟨h,h2,e⟩ | ⟨h,x,h2,e⟩
 ·rw [e,ji.1 h] at*
  refine⟨_,rfl,_,_,rfl,rfl,_,rfl,_,rfl,?_⟩
  exact⟨(by show 1≤sizeLine;decide),aD kk W1 hd1 ki1 es⟩
 ·rw [e] at*
  rw [ji.2.1 h h2] at es
  refine⟨_,rfl,_,_,rfl,rfl,_,rfl,_,rfl,?_⟩
  exact⟨(by show 1≤sizeLine;decide),aD kk W1 hd1 ki1 es⟩
 ·rw [e] at*
  rw [ji.2.2 h x h2] at es
  obtain⟨vs,v,g2,g3,g4,g5,g6⟩:=W1.dGet h
  rw [h2] at g6
  obtain⟨z,rfl,dz,wl,sl,bl,el,aa,D⟩:=g6
  obtain⟨db,hb⟩:=id W1.bank
  have dl:=D.ok.len2
  refine⟨_,rfl,_,_,rfl,rfl,_,rfl,_,rfl,b,_,db,_,_,rfl,hb,T.aN.cl,T.aN.no _ (by decide),rfl,_,rfl,G.l2,_,_,_,rfl,rfl,aX.of g2,g5,Nat.zero_le _,fun N hN=> ?_⟩
  have sN:=aC.laid (o:= .lst []) hN
  refine⟨_,rfl,z,_,dz,_,_,rfl,(sN _ _ D.inst),T.ai.cl,T.ai.no _ (by decide),rfl,sl,rfl,⟨_,aX.of (sN _ _ D.s)⟩,c9 (xs:=aa.map V.ref) (fun i σ H'=>i≤x.length∧∃(v1:Option V),σ= [some (.ref b),some (.ref r),some (.int d),some (.int 0),some (.ref z),some (.ref N),v1]∧H' N=some (.lst (((x.take i).flatMap fun c=>shownClass c.2).map V.int))∧aC H1 H') ⟨Nat.zero_le _,none,rfl,af,sN⟩ (fun i σ H' _ ⟨_,_,_,_,s⟩=>aX.of (s _ _ D.s)) ?_ ?_⟩
  ·rintro i u σ H2 hu ⟨hi,v1,rfl,hN2,s2⟩
   obtain⟨y,hy,rfl⟩:=fg hu
   have hi':i<x.length:=by rw [←D.len];exact(List.getElem?_eq_some_iff.mp hy).1
   obtain⟨c,hc⟩:∃c,x[i]?=some c:=⟨_,List.getElem?_eq_getElem hi'⟩
   have hsh:=(D.sh i y c hy hc).same s2
   have fin:∀p,H2 p=none→∃l' b' xs zs,V.ref N= .ref l'∧ [V.ref p]= [V.ref b']∧(bC H2 p (.lst ((shownClass c.2).map V.int))) l'=some (.lst xs)∧(bC H2 p (.lst ((shownClass c.2).map V.int))) b'=some (.lst zs)∧xs.length+zs.length≤sizeLine∧(i+1≤x.length∧∃(u1:Option V),[some (.ref b),some (.ref r),some (.int d),some (.int 0),some (.ref z),some (.ref N),some (V.ref y)]= [some (.ref b),some (.ref r),some (.int d),some (.int 0),some (.ref z),some (.ref N),u1]∧(bC (bC H2 p (.lst ((shownClass c.2).map V.int))) l' (.lst (xs++zs))) N=some (.lst (((x.take (i+1)).flatMap fun c=>shownClass c.2).map V.int))∧aC H1 (bC (bC H2 p (.lst ((shownClass c.2).map V.int))) l' (.lst (xs++zs)))):=fun p hp=>by
    have sp:=aC.laid (o:= .lst ((shownClass c.2).map V.int)) hp
    have hfl:=yF (x.take i)
    rw [List.length_take] at hfl
    refine⟨N,p,_,_,rfl,rfl,sp _ _ hN2,af,?_,hi',_,rfl,?_,fun q o e=> ?_⟩
    ·rw [List.length_map,List.length_map,hfl,Bj]
     show _≤2 ^ 24
     omega
    ·rw [af,Gc hc,List.map_append]
    ·rw [ak (aw e hN)]
     exact sp _ _ (s2 _ _ e)
   obtain⟨cw,cc⟩:=c
   cases cc with
   | line p q=>
    obtain⟨dy,ax,ay,e1,e2,e3⟩:=id hsh
    exact⟨_,rfl,.inl ⟨rfl,_,aX.of hN2⟩,.inl ⟨_,rfl,y,dy,_,rfl,e1,rfl,y,p,q,rfl,hsh,fin⟩⟩
   | comb p q n=>
    obtain⟨dy,ax,ay,e1,e2,e3⟩:=id hsh
    exact⟨_,rfl,.inl ⟨rfl,_,aX.of hN2⟩,.inr ⟨_,rfl,y,dy,_,rfl,e1,rfl,y,p,q,n,rfl,hsh,fin⟩⟩
  ·rintro σ H2 ⟨hi,v1,rfl,hN2,s2⟩
   rw [List.length_map,D.len,List.take_length] at hN2
   have W2:=W1.same s2
   have lw:(cH (x.map fun c=>c.1)).length=x.length:=by rw [a9,List.length_map]
   have lf:(((x.flatMap fun c=>shownClass c.2)).map V.int).length=6*x.length:=by rw [List.length_map,yF]
   refine⟨_,rfl,z,_,dz,_,_,rfl,(s2 _ _ D.inst),T.ai.cl,T.ai.no _ (by decide),rfl,wl,_,rfl,.inl (aX.of (s2 _ _ D.w)),(by show 2≤sizeLine;decide),fun A1 hA1=> ?_⟩
   have sa:=aC.laid (o:= .lst [V.int 0,V.int ((cH (x.map fun c=>c.1)).length:Int)]) hA1
   refine⟨_,rfl,z,_,dz,_,_,rfl,(sa _ _ (s2 _ _ D.inst)),T.ai.cl,T.ai.no _ (by decide),rfl,A1,wl,_,_,rfl,rfl,af,sa _ _ (s2 _ _ D.w),(by rw [lw];show 2+x.length≤2 ^ 24;omega),fun A2 hA2=> ?_⟩
   have sb:=aC.laid (o:= .lst ([V.int 0,V.int ((cH (x.map fun c=>c.1)).length:Int)]++cH (x.map fun c=>c.1))) hA2
   have hN3:=sb _ _ (sa _ _ hN2)
   refine⟨_,rfl,N,_,rfl,.inl (aX.of hN3),(by show 1≤sizeLine;decide),fun A3 hA3=> ?_⟩
   have sc:=aC.laid (o:= .lst [V.int ((((x.flatMap fun c=>shownClass c.2)).map V.int).length:Int)]) hA3
   refine⟨A2,A3,_,_,rfl,rfl,sc _ _ af,af,(by rw [List.length_append,lw];show 2+x.length+1≤2 ^ 24;omega),fun A4 hA4=> ?_⟩
   have sd:=aC.laid (o:= .lst ([V.int 0,V.int ((cH (x.map fun c=>c.1)).length:Int)]++cH (x.map fun c=>c.1)++ [V.int ((((x.flatMap fun c=>shownClass c.2)).map V.int).length:Int)])) hA4
   refine⟨_,rfl,A4,N,_,_,rfl,rfl,af,sd _ _ (sc _ _ hN3),(by rw [List.length_append,List.length_append,lw,lf];show 2+x.length+1+6*x.length≤2 ^ 24;omega),?_⟩
   have SS:=((sa.trans sb).trans sc).trans sd
   have W3:=W2.same SS
   have ev:(0:Int)::(shownRow (toldRows x).1++shownRow (toldRows x).2)= [0,((cH (x.map fun c=>c.1)).length:Int)]++nats (x.map fun c=>c.1)++ [((((x.flatMap fun c=>shownClass c.2)).map V.int).length:Int)]++(x.flatMap fun c=>shownClass c.2):=by
    unfold toldRows shownRow
    rw [pO,lw,lf,yF,List.length_map]
    simp
   have fin:=aD kk W3 hd1 (ki1.trans (KI.same (s2.trans SS))) es
   rw [ev] at fin
   rw [List.map_append,List.map_append,List.map_append] at fin
   exact fin
def tG (T:Tx K mg):Sp:=cp T (fun dd c rest=>∃d e f v w,dd=d::e::f::v::w::rest∧c= .blend d e f v w)
theorem Ev (T:Tx K mg):cM P w base T.ow 7 (tG T):=by
 refine T.ow.okA fk ?_
 rintro _ A _ s H _ Q E hr ⟨G,b,r,l,a,as,S,ns,pos,c,rest,rfl,W,⟨d,e,f,v,w',hd,rfl⟩,kk⟩
 refine⟨_,(ac (aW 2 fk.nd (dm (pv 1) T.au (ah T) hr))
   (ac (aW 3 fk.nd (dm (pv 1) T.au (ah T) hr))
   (ac (aW 4 fk.nd (dm (pv 1) T.au (ah T) hr))
   (ac (aW 5 fk.nd (dm (pv 1) T.au (ah T) hr))
   (ac (aW 6 fk.nd (dm (pv 1) T.au (ah T) hr))
   (ac (aQ (jn (fI (aS (aP (be T.d5 (dE T) hr (ab (pv 2) ad)))) (fI (aS (aP (be T.d5 (dE T) hr (ab (pv 3) ad)))) (fN (aS (aP (be T.d5 (dE T) hr (ab (pv 4) ad)))))))) (ae (aj (aG (ab (dI T.jd) ad)))) aE)
   (ac (aW 7 fk.nd (fP (ao (pv 0) rfl) (pv 3)))
   (ac (aW 8 fk.nd (fP (ao (pv 0) rfl) (pv 4)))
   (ac (aQ (jn (fI (aO iS (pv 7) ck (aV _)) (fN (aO iS (pv 8) ck (aV _))))) (ae (aj (aG (ab (dI T.lY) ad)))) aE)
   (ac (aQ (jn (fI (aS (aP (be T.bE (a4 T) hr (ab (pv 5) (ab am (ab (dI T.lH) ad)))))) (fI (aS (aP (be T.bE (a4 T) hr (ab (pv 6) (ab am (ab (dI T.lH) ad)))))) (fN (aO oR (aB bG (pv 5) (pv 6)) am (aV _)))))) (ae (aj (aG (ab (dI T.jG) ad)))) aE)
   (ae (aj (be T.zZ (vE T) hr (ab (pv 0) (ab (pv 2) (ab (be T.wE (BO T) hr (ab (pv 7) (ab (pv 5) (ab (pv 8) (ab (pv 6) ad))))) ad)))))))))))))))),?_⟩
 have W0:=W;have ki0:=KI.refl H;have hd0:=hd
 refine aK W0 hd0 ki0 rfl fun H1 W1 hd1 ki1=> ?_
 refine aK W1 hd1 ki1 rfl fun H2 W2 hd2 ki2=> ?_
 refine aK W2 hd2 ki2 rfl fun H3 W3 hd3 ki3=> ?_
 refine aK W3 hd3 ki3 rfl fun H4 W4 hd4 ki4=> ?_
 refine aK W4 hd4 ki4 rfl fun H5 W5 hd5 ki5=> ?_
 have es:=ES S d e f v w'
 rw [bX,bX,bX] at es
 refine⟨_,rfl,d,rfl,_,rfl,aU (fun h1=> ?_) (fun h1=> ?_)⟩
 ·rw [if_pos (.inl (cN (df h1)))] at es
  refine gY ?_
  exact⟨(by show 1≤sizeLine;decide),aD kk W5 hd5 ki5 es⟩
 refine⟨_,rfl,e,rfl,_,rfl,aU (fun h2=> ?_) (fun h2=> ?_)⟩
 ·rw [if_pos (.inr (.inl (cN (df h2))))] at es
  refine gY ?_
  exact⟨(by show 1≤sizeLine;decide),aD kk W5 hd5 ki5 es⟩
 refine⟨_,rfl,f,rfl,_,rfl,aU (fun h3=> ?_) (fun h3=> ?_)⟩
 ·rw [if_pos (.inr (.inr (cN (df h3))))] at es
  exact⟨(by show 1≤sizeLine;decide),aD kk W5 hd5 ki5 es⟩
 have k1:=bL h1
 have k2:=bL h2
 have k3:=bL h3
 rw [decide_eq_true k1,decide_eq_true k2,decide_eq_true k3,if_neg (by decide)] at es
 obtain⟨vs,v1,g2,g3,g4,g5,g6⟩:=W5.dGet k2
 obtain⟨vs',v2,g2',g3',g4',g5',g6'⟩:=W5.dGet k3
 obtain⟨db,hb⟩:=id W5.bank
 refine⟨_,rfl,b,_,db,_,_,rfl,hb,T.aN.cl,T.aN.no _ (by decide),rfl,_,rfl,G.l2,_,_,_,rfl,rfl,aX.of g2,g5,?_⟩
 refine⟨_,rfl,b,_,db,_,_,rfl,hb,T.aN.cl,T.aN.no _ (by decide),rfl,_,rfl,G.l2,_,_,_,rfl,rfl,aX.of g2',g5',?_⟩
 cases hx:S.dist e.toNat with
 | none=>
  rw [hx] at g6 es
  obtain rfl:v1= .non:=g6
  refine⟨_,rfl,rfl,_,rfl,gY ?_⟩
  exact⟨(by show 1≤sizeLine;decide),aD kk W5 hd5 ki5 es⟩
 | some x=>
  rw [hx] at g6 es
  obtain⟨z1,rfl,hz1⟩:=g6
  cases hy:S.dist f.toNat with
  | none=>
   rw [hy] at g6' es
   obtain rfl:v2= .non:=g6'
   refine⟨_,rfl,rfl,_,rfl,_,rfl,rfl,_,rfl,?_⟩
   exact⟨(by show 1≤sizeLine;decide),aD kk W5 hd5 ki5 es⟩
  | some y=>
   rw [hy] at g6' es
   obtain⟨z2,rfl,hz2⟩:=g6'
   simp only [bT] at es
   refine⟨_,rfl,rfl,_,rfl,_,rfl,rfl,_,rfl,_,rfl,v,0,1000000000,rfl,_,rfl,aU (fun h4=> ?_) (fun h4=> ?_)⟩
   ·rw [if_pos (.inl (cN (df h4)))] at es
    refine gY ?_
    exact⟨(by show 1≤sizeLine;decide),aD kk W5 hd5 ki5 es⟩
   refine⟨_,rfl,w',0,1000000000,rfl,_,rfl,aU (fun h5=> ?_) (fun h5=> ?_)⟩
   ·rw [if_pos (.inr (.inl (cN (df h5))))] at es
    refine gY ?_
    exact⟨(by show 1≤sizeLine;decide),aD kk W5 hd5 ki5 es⟩
   have k4:=bL h4
   have k5:=bL h5
   refine⟨_,rfl,_,rfl,_,_,rfl,rfl,rfl,_,rfl,aU (fun h6=> ?_) (fun h6=> ?_)⟩
   ·have h6':v+w'=0:=V.int.inj (of_decide_eq_true h6)
    rw [if_pos (.inr (.inr ⟨by omega,by omega⟩))] at es
    exact⟨(by show 1≤sizeLine;decide),aD kk W5 hd5 ki5 es⟩
   ·have h6':¬v+w'=0:=fun q=>h6 (decide_eq_true (congrArg V.int q))
    rw [if_neg (by rw [decide_eq_true k4,decide_eq_true k5];simp;omega)] at es
    refine⟨_,rfl,_,rfl,_,rfl,_,rfl,_,rfl,_,rfl,G.av l,z1,z2,x,y,v.toNat,w'.toNat,by rw [Int.toNat_of_nonneg k4.1,Int.toNat_of_nonneg k5.1];rfl,hz1,hz2,by omega,by omega,yb W5,fun u H6 o6 s6=> ?_⟩
    have W6:=W5.same s6
    refine⟨G,b,r,l,a,as,S,ns,_,d,u,_,rfl,W6,k1,o6,fun H7 p7 S7 zs e7 W7 hp7 ki7 nf7=> ?_⟩
    rw [es.trans e7] at kk
    exact kk H7 p7 as _ W7 hd5 hp7 (ki5.trans ((KI.same s6).trans ki7)) (fun q xs hq=>nf7 q xs ((ki5.trans (KI.same s6)) q xs hq))
def wg (T:Tx K mg):Sp:=cp T (fun dd c rest=>∃d e p q t s,dd=d::e::p::q::t::s::rest∧c= .bend d e p q t s∧Sz 140 q∧Sz 140 s)
theorem Gz (T:Tx K mg):cM P w base T.tV 8 (wg T):=by
 refine T.tV.okA eA ?_
 rintro _ A _ s H _ Q E hr ⟨G,b,r,l,a,as,S,ns,pos,c,rest,rfl,W,⟨d,e,p,q,t,s',hd,rfl,qz,sz⟩,kk⟩
 refine⟨_,(ac (aW 2 eA.nd (dm (pv 1) T.au (ah T) hr))
   (ac (aW 3 eA.nd (dm (pv 1) T.au (ah T) hr))
   (ac (aW 4 eA.nd (dm (pv 1) T.au (ah T) hr))
   (ac (aW 5 eA.nd (dm (pv 1) T.au (ah T) hr))
   (ac (aW 6 eA.nd (dm (pv 1) T.au (ah T) hr))
   (ac (aW 7 eA.nd (dm (pv 1) T.au (ah T) hr))
   (ac (aQ (jn (fI (aS (aP (be T.d5 (dE T) hr (ab (pv 2) ad)))) (fN (aS (aP (be T.d5 (dE T) hr (ab (pv 3) ad))))))) (ae (aj (aG (ab (dI T.jd) ad)))) aE)
   (ac (aW 8 eA.nd (fP (ao (pv 0) rfl) (pv 3)))
   (ac (aQ (aO iS (pv 8) ck (aV _)) (ae (aj (aG (ab (dI T.lY) ad)))) aE)
   (ac (aW 9 eA.nd (be T.b7 (bQ T) hr (ab (pv 4) (ab (pv 5) ad))))
   (ac (aW 10 eA.nd (be T.b7 (bQ T) hr (ab (pv 6) (ab (pv 7) ad))))
   (ac (aQ (jn (fI (aO iS (pv 9) ck (aV _)) (fN (aO iS (pv 10) ck (aV _))))) (ae (aj (aG (ab (dI T.jc) ad)))) aE)
   (ae (aj (be T.zZ (vE T) hr (ab (pv 0) (ab (pv 2) (ab (be T.E5 (GA T) hr (ab (pv 8) (ab (pv 9) (ab (pv 10) ad)))) ad)))))))))))))))))),?_⟩
 have W0:=W;have ki0:=KI.refl H;have hd0:=hd
 refine aK W0 hd0 ki0 rfl fun H1 W1 hd1 ki1=> ?_
 refine aK W1 hd1 ki1 rfl fun H2 W2 hd2 ki2=> ?_
 refine aK W2 hd2 ki2 rfl fun H3 W3 hd3 ki3=> ?_
 refine aK W3 hd3 ki3 rfl fun H4 W4 hd4 ki4=> ?_
 refine aK W4 hd4 ki4 rfl fun H5 W5 hd5 ki5=> ?_
 refine aK W5 hd5 ki5 rfl fun H6 W6 hd6 ki6=> ?_
 have es:=GY S d e p q t s'
 rw [bX,bX] at es
 refine⟨_,rfl,d,rfl,_,rfl,aU (fun h1=> ?_) (fun h1=> ?_)⟩
 ·rw [if_pos (.inl (cN (df h1)))] at es
  refine gY ?_
  exact⟨(by show 1≤sizeLine;decide),aD kk W6 hd6 ki6 es⟩
 refine⟨_,rfl,e,rfl,_,rfl,aU (fun h2=> ?_) (fun h2=> ?_)⟩
 ·rw [if_pos (.inr (cN (df h2)))] at es
  exact⟨(by show 1≤sizeLine;decide),aD kk W6 hd6 ki6 es⟩
 have k1:=bL h1
 have k2:=bL h2
 rw [decide_eq_true k1,decide_eq_true k2,if_neg (by decide)] at es
 obtain⟨vs,v1,g2,g3,g4,g5,g6⟩:=W6.dGet k2
 obtain⟨db,hb⟩:=id W6.bank
 refine⟨_,rfl,b,_,db,_,_,rfl,hb,T.aN.cl,T.aN.no _ (by decide),rfl,_,rfl,G.l2,_,_,_,rfl,rfl,aX.of g2,g5,?_⟩
 cases hx:S.dist e.toNat with
 | none=>
  rw [hx] at g6 es
  obtain rfl:v1= .non:=g6
  refine⟨_,rfl,rfl,_,rfl,?_⟩
  exact⟨(by show 1≤sizeLine;decide),aD kk W6 hd6 ki6 es⟩
 | some x=>
  rw [hx] at g6 es
  obtain⟨z1,rfl,hz1⟩:=g6
  refine⟨_,rfl,rfl,_,rfl,_,rfl,_,rfl,p,q,rfl,qz.mono (by decide),fun u1 H7 o7 s7=> ?_⟩
  refine⟨_,rfl,_,rfl,t,s',rfl,sz.mono (by decide),fun u2 H8 o8 s8=> ?_⟩
  have S8:=s7.trans s8
  have W8:=W6.same S8
  have ki8:=ki6.trans (KI.same S8)
  cases hf:Vbdeab.fraction p q with
  | none=>
   rw [hf] at o7 es
   obtain rfl:u1= .non:=o7
   refine⟨_,rfl,rfl,_,rfl,gY ?_⟩
   exact⟨(by show 1≤sizeLine;decide),aD kk W8 hd6 ki8 es⟩
  | some f=>
   rw [hf] at o7 es
   obtain⟨y1,rfl,hy1⟩:=o7
   cases hg:Vbdeab.fraction t s' with
   | none=>
    rw [hg] at o8 es
    obtain rfl:u2= .non:=o8
    refine⟨_,rfl,rfl,_,rfl,_,rfl,rfl,_,rfl,?_⟩
    exact⟨(by show 1≤sizeLine;decide),aD kk W8 hd6 ki8 es⟩
   | some g=>
    rw [hg] at o8 es
    obtain⟨y2,rfl,hy2⟩:=o8
    refine⟨_,rfl,rfl,_,rfl,_,rfl,rfl,_,rfl,_,rfl,_,rfl,_,rfl,_,rfl,_,rfl,G.av l,z1,y1,y2,x,f,g,rfl,hz1.same S8,hy1.same s8,hy2,k7 hf,k7 hg,yb W8,fun u H9 o9 s9=> ?_⟩
    have W9:=W8.same s9
    refine⟨G,b,r,l,a,as,S,ns,_,d,u,_,rfl,W9,k1,o9,fun H10 p10 S10 zs e10 W10 hp10 ki10 nf10=> ?_⟩
    rw [es.trans e10] at kk
    exact kk H10 p10 as _ W10 hd6 hp10 (ki8.trans ((KI.same s9).trans ki10)) (fun q xs hq=>nf10 q xs ((ki8.trans (KI.same s9)) q xs hq))
open Vbdeab (Class Dist)
theorem EV (S:State) (d u:Int):Vbdeab.step S (.value d u)=onDist S d fun x=>if u<0∨(Vbdeab.M:Int)≤u then(S,[-11]) else(S,0::shownQ (Vbdeab.value x u.toNat)):=by rw [Vbdeab.step]
theorem DS (S:State) (d:Int):Vbdeab.step S (.shares d)=onDist S d fun x=>(S,0::shownRow (nats (Vbdeab.shares x))):=by rw [Vbdeab.step]
theorem Cl (S:State) (d:Int):Vbdeab.step S (.moments d)=onDist S d fun x=>(S,0::(shownQ (Vbdeab.mean x)++(shownQ (variance x)++(shownQ (Vbdeab.least x)++shownQ (Vbdeab.most x))))):=by rw [Vbdeab.step]
theorem ER (S:State) (d p q t:Int):Vbdeab.step S (.below d p q t)=onDist S d fun x=>match Vbdeab.fraction p q with
  | none=>(S,[-5])
  | some v=>if within t 0 1=false then(S,[-5]) else(S,0::shownQ (Vbdeab.below (decide (t=1)) v x)):=by
 rw [Vbdeab.step]
 rfl
theorem G2 (S:State) (d p q t:Int):Vbdeab.step S (.hits d p q t)=onDist S d fun x=>match Vbdeab.fraction p q with
  | none=>(S,[-5])
  | some v=>if within t 0 1=false then(S,[-5]) else(S,[0,(Vbdeab.hits (decide (t=1)) v x:Nat)]):=by
 rw [Vbdeab.step]
 rfl
theorem zD (d:Dist):(Vbdeab.shares d).length=d.length:=by
 have:∀(l:Dist) (W b:Nat),(sharesFrom W l b).length=l.length:=fun l=>by
  induction l with
  | nil=>intro W b;rfl
  | cons c r ih=>intro W b;obtain⟨w,k⟩:=c;show(sharesFrom W r _).length+1=_;rw [ih];rfl
 exact this _ _ _
theorem FK {t:Int} (h:0≤t∧t≤1):t=Fr.kX (decide (t=1)):=by
 unfold Fr.kX
 by_cases c:t=1
 ·rw [decide_eq_true c,if_pos rfl];exact c
 ·rw [decide_eq_false c,if_neg (by decide)];omega
def wy (T:Tx K mg):Sp:=fun vs H Q _=>∃(a:Addr) (q:Vbdeab.Q),vs= [.ref a]∧ir T H a q∧∀p,H p=none→Q (.ref p) (bC H p (.lst ((shownQ q).map V.int)))
theorem fB (T:Tx K mg):cM P w base T.eF 1 (wy T):=by
 refine T.eF.okA vY ?_
 rintro _ A _ s H _ Q E hr ⟨a,q,rfl,⟨dx,h1⟩,k⟩
 refine⟨_,(ae (aj (aG (ab (ao (pv 0) rfl) (ab (ao (pv 0) rfl) ad))))),?_⟩
 exact⟨_,rfl,a,_,dx,_,_,rfl,h1,T.aA.cl,T.aA.no _ (by decide),rfl,_,rfl,a,_,dx,_,_,rfl,h1,T.aA.cl,T.aA.no _ (by decide),rfl,(by show 2≤sizeLine;decide),k⟩
def tP (T:Tx K mg):Sp:=cp T (fun dd c rest=>∃d u,dd=d::u::rest∧c= .value d u)
theorem Ey (T:Tx K mg):cM P w base T.rp 6 (tP T):=by
 refine T.rp.okA nY ?_
 rintro _ A _ s H _ Q E hr ⟨G,b,r,l,a,as,S,ns,pos,c,rest,rfl,W,⟨d,u,hd,rfl⟩,kk⟩
 refine⟨_,(ac (aW 2 nY.nd (dm (pv 1) T.au (ah T) hr))
   (ac (aW 3 nY.nd (dm (pv 1) T.au (ah T) hr))
   (ac (aW 4 nY.nd (be T.bP (bM T) hr (ab (pv 0) (ab (pv 2) ad))))
   (ac (aQ (aO jj (pv 4) am (aV _)) (ae (aj (aG (ab (pv 4) ad)))) aE)
   (ac (aQ (aS (aP (be T.bE (a4 T) hr (ab (pv 3) (ab am (ab (aB bI (dI T.cK) am) ad)))))) (ae (aj (aG (ab (dI T.D7) ad)))) aE)
   (ae (aj (aB dF (aG (ab am ad)) (be T.eF (fB T) hr (ab (dm (wB (fP (ao (pv 0) rfl) (pv 2)) T.cU (eZ T) hr (ab (pv 3) ad)) T.dk (dB T) hr) ad)))))))))),?_⟩
 have W0:=W;have ki0:=KI.refl H;have hd0:=hd
 refine aK W0 hd0 ki0 rfl fun H1 W1 hd1 ki1=> ?_
 refine aK W1 hd1 ki1 rfl fun H2 W2 hd2 ki2=> ?_
 have es:=EV S d u
 refine⟨_,rfl,_,rfl,G,b,r,l,a,as,S,ns,_,d,rfl,W2,?_⟩
 rcases fe S d with⟨h,e⟩ | ⟨h,h2,e⟩ | ⟨h,x,h2,e⟩
 ·rw [e,ji.1 h] at*
  refine⟨_,rfl,_,_,rfl,rfl,_,rfl,_,rfl,?_⟩
  exact⟨(by show 1≤sizeLine;decide),aD kk W2 hd2 ki2 es⟩
 ·rw [e] at*
  rw [ji.2.1 h h2] at es
  refine⟨_,rfl,_,_,rfl,rfl,_,rfl,_,rfl,?_⟩
  exact⟨(by show 1≤sizeLine;decide),aD kk W2 hd2 ki2 es⟩
 ·rw [e] at*
  rw [ji.2.2 h x h2] at es
  obtain⟨vs,v,g2,g3,g4,g5,g6⟩:=W2.dGet h
  rw [h2] at g6
  obtain⟨z,rfl,hz⟩:=g6
  obtain⟨db,hb⟩:=id W2.bank
  have hM:(Vbdeab.M:Int)=4294967296:=rfl
  refine⟨_,rfl,_,_,rfl,rfl,_,rfl,_,rfl,_,_,rfl,rfl,u,0,4294967295,rfl,_,rfl,aU (fun h3=> ?_) (fun h3=> ?_)⟩
  ·rw [if_pos (by have:=df h3;rw [hM];omega)] at es
   exact⟨(by show 1≤sizeLine;decide),aD kk W2 hd2 ki2 es⟩
  ·have h3':=bL h3
   rw [if_neg (by rw [hM];omega)] at es
   obtain⟨dz,_,_,_,_,_,DD⟩:=id hz
   refine⟨(by show 1≤sizeLine;decide),fun A1 hA1=> ?_⟩
   have sa:=aC.laid (o:= .lst [V.int 0]) hA1
   refine⟨_,rfl,b,_,db,_,_,rfl,(sa _ _ hb),T.aN.cl,T.aN.no _ (by decide),rfl,_,rfl,G.l2,_,_,_,rfl,rfl,aX.of (sa _ _ g2),g5,z,dz,_,rfl,sa _ _ DD.inst,rfl,_,rfl,G.av l,z,x,u.toNat,by rw [Int.toNat_of_nonneg h3'.1];rfl,hz.same sa,by omega,fun y H3 hy s3=> ?_⟩
   obtain⟨n,m,hrt,iz,nz,mz⟩:=hy
   obtain⟨dy,hrt'⟩:=id hrt
   refine⟨y,dy,_,rfl,hrt',rfl,y,n,m,rfl,hrt,iz.dpos,mz.mono (by decide),fun y2 H4 hy2 s4=> ?_⟩
   rw [←iz.eq] at hy2
   refine⟨y2,_,rfl,hy2,fun A2 hA2=> ?_⟩
   have sb:=aC.laid (o:= .lst ((shownQ (Vbdeab.value x u.toNat)).map V.int)) hA2
   have SS:=((sa.trans s3).trans s4).trans sb
   refine⟨A1,A2,_,_,rfl,rfl,sb _ _ (s4 _ _ (s3 _ _ af)),af,(by show 1+2≤2 ^ 24;decide),?_⟩
   have fin:=aD kk (W2.same SS) hd2 (ki2.trans (KI.same SS)) es
   exact fin
def qF (T:Tx K mg):Sp:=cp T (fun dd c rest=>∃d,dd=d::rest∧c= .shares d)
theorem Dd (T:Tx K mg):cM P w base T.mP 4 (qF T):=by
 refine T.mP.okA lC ?_
 rintro _ A _ s H _ Q E hr ⟨G,b,r,l,a,as,S,ns,pos,c,rest,rfl,W,⟨d,hd,rfl⟩,kk⟩
 refine⟨_,(ac (aW 2 lC.nd (dm (pv 1) T.au (ah T) hr))
   (ac (aW 3 lC.nd (be T.bP (bM T) hr (ab (pv 0) (ab (pv 2) ad))))
   (ac (aQ (aO jj (pv 3) am (aV _)) (ae (aj (aG (ab (pv 3) ad)))) aE)
   (ac (aW 4 lC.nd (be T.qQ (yX T) hr (ab (fP (ao (pv 0) rfl) (pv 2)) ad)))
   (ae (aj (aB dF (aG (ab am (ab (a5 aT (by rfl) T.eV PySem.boot_len (ab (pv 4) ad)) ad))) (pv 4)))))))),?_⟩
 have W0:=W;have ki0:=KI.refl H;have hd0:=hd
 refine aK W0 hd0 ki0 rfl fun H1 W1 hd1 ki1=> ?_
 have es:=DS S d
 refine⟨_,rfl,_,rfl,G,b,r,l,a,as,S,ns,_,d,rfl,W1,?_⟩
 rcases fe S d with⟨h,e⟩ | ⟨h,h2,e⟩ | ⟨h,x,h2,e⟩
 ·rw [e,ji.1 h] at*
  refine⟨_,rfl,_,_,rfl,rfl,_,rfl,_,rfl,?_⟩
  exact⟨(by show 1≤sizeLine;decide),aD kk W1 hd1 ki1 es⟩
 ·rw [e] at*
  rw [ji.2.1 h h2] at es
  refine⟨_,rfl,_,_,rfl,rfl,_,rfl,_,rfl,?_⟩
  exact⟨(by show 1≤sizeLine;decide),aD kk W1 hd1 ki1 es⟩
 ·rw [e] at*
  rw [ji.2.2 h x h2] at es
  obtain⟨vs,v,g2,g3,g4,g5,g6⟩:=W1.dGet h
  rw [h2] at g6
  obtain⟨z,rfl,hz⟩:=g6
  obtain⟨db,hb⟩:=id W1.bank
  refine⟨_,rfl,_,_,rfl,rfl,_,rfl,_,rfl,b,_,db,_,_,rfl,hb,T.aN.cl,T.aN.no _ (by decide),rfl,_,rfl,G.l2,_,_,_,rfl,rfl,aX.of g2,g5,G.av l,z,x,rfl,hz,fun H2 p2 hp2 s2 n2=> ?_⟩
  have ls:(cH (Vbdeab.shares x)).length=x.length:=by rw [a9,zD]
  obtain⟨_,_,_,_,_,_,DD⟩:=id hz
  have dl:=DD.ok.len2
  refine⟨_,rfl,p2,_,rfl,.inl (aX.of hp2),(by show 2≤sizeLine;decide),fun A1 hA1=> ?_⟩
  have sa:=aC.laid (o:= .lst [V.int 0,V.int ((cH (Vbdeab.shares x)).length:Int)]) hA1
  refine⟨_,rfl,A1,p2,_,_,rfl,rfl,af,sa _ _ hp2,(by rw [ls];show 2+x.length≤2 ^ 24;omega),?_⟩
  have SS:=s2.trans sa
  have ev:(0:Int)::shownRow (nats (Vbdeab.shares x))= [0,((cH (Vbdeab.shares x)).length:Int)]++nats (Vbdeab.shares x):=by
   unfold shownRow
   rw [pO,ls,zD]
   rfl
  rw [ev] at es
  exact aD kk (W1.same SS) hd1 (ki1.trans (KI.same SS)) es
def oj (T:Tx K mg):Sp:=cp T (fun dd c rest=>∃d,dd=d::rest∧c= .moments d)
theorem BQ (T:Tx K mg):cM P w base T.j1 5 (oj T):=by
 refine T.j1.okA fE ?_
 rintro _ A _ s H _ Q E hr ⟨G,b,r,l,a,as,S,ns,pos,c,rest,rfl,W,⟨d,hd,rfl⟩,kk⟩
 refine⟨_,(ac (aW 2 fE.nd (dm (pv 1) T.au (ah T) hr))
   (ac (aW 3 fE.nd (be T.bP (bM T) hr (ab (pv 0) (ab (pv 2) ad))))
   (ac (aQ (aO jj (pv 3) am (aV _)) (ae (aj (aG (ab (pv 3) ad)))) aE)
   (ac (aW 4 fE.nd (fP (ao (pv 0) rfl) (pv 2)))
   (ac (aW 5 fE.nd (aG (ab am ad)))
   (ac (cZ PassesOwn.never rfl (bW (aB dF (be T.fX (nA T) hr (ab (pv 4) ad)) (be T.fx (mi T) hr (ab (pv 4) ad)))) (i9 6 fE.nd) (ae (eU (oS PySem.F.plainAttrs_list PySem.F.slot_list_extend PySem.F.type_list_extend qU (pv 5) (ab (be T.eF (fB T) hr (ab (pv 6) ad)) ad)))))
   (ae (aj (pv 5))))))))),?_⟩
 have W0:=W;have ki0:=KI.refl H;have hd0:=hd
 refine aK W0 hd0 ki0 rfl fun H1 W1 hd1 ki1=> ?_
 have es:=Cl S d
 refine⟨_,rfl,_,rfl,G,b,r,l,a,as,S,ns,_,d,rfl,W1,?_⟩
 rcases fe S d with⟨h,e⟩ | ⟨h,h2,e⟩ | ⟨h,x,h2,e⟩
 ·rw [e,ji.1 h] at*
  refine⟨_,rfl,_,_,rfl,rfl,_,rfl,_,rfl,?_⟩
  exact⟨(by show 1≤sizeLine;decide),aD kk W1 hd1 ki1 es⟩
 ·rw [e] at*
  rw [ji.2.1 h h2] at es
  refine⟨_,rfl,_,_,rfl,rfl,_,rfl,_,rfl,?_⟩
  exact⟨(by show 1≤sizeLine;decide),aD kk W1 hd1 ki1 es⟩
 ·rw [e] at*
  rw [ji.2.2 h x h2] at es
  obtain⟨vs,v,g2,g3,g4,g5,g6⟩:=W1.dGet h
  rw [h2] at g6
  obtain⟨z,rfl,hz⟩:=g6
  obtain⟨db,hb⟩:=id W1.bank
  refine⟨_,rfl,_,_,rfl,rfl,_,rfl,_,rfl,b,_,db,_,_,rfl,hb,T.aN.cl,T.aN.no _ (by decide),rfl,_,rfl,G.l2,_,_,_,rfl,rfl,aX.of g2,g5,(by show 1≤sizeLine;decide),fun N hN=> ?_⟩
  have sN:=aC.laid (o:= .lst [V.int 0]) hN
  refine⟨_,rfl,G.av l,z,x,rfl,hz.same sN,fun H2 p2 x1 x2 hp2 hx1 hx2 s2=> ?_⟩
  refine⟨_,rfl,G.av l,z,x,rfl,(hz.same sN).same s2,fun H3 p3 x3 x4 hp3 hx3 hx4 s3=> ?_⟩
  refine⟨p2,p3,_,_,rfl,rfl,s3 _ _ hp2,hp3,(by show 2+2≤2 ^ 24;decide),fun p4 hp4=> ?_⟩
  have s4:=aC.laid (o:= .lst ([V.ref x1,V.ref x2]++ [V.ref x3,V.ref x4])) hp4
  have S4:=(s2.trans s3).trans s4
  have hN4:=S4 _ _ (af (H:=H1) (a:=N) (o:= .lst [V.int 0]))
  have q1:ir T (bC H3 p4 (.lst ([V.ref x1,V.ref x2]++ [V.ref x3,V.ref x4]))) x1 (Vbdeab.mean x):=(hx1.same s3).same s4
  have q2:ir T (bC H3 p4 (.lst ([V.ref x1,V.ref x2]++ [V.ref x3,V.ref x4]))) x2 (variance x):=(hx2.same s3).same s4
  have q3:ir T (bC H3 p4 (.lst ([V.ref x1,V.ref x2]++ [V.ref x3,V.ref x4]))) x3 (Vbdeab.least x):=hx3.same s4
  have q4:ir T (bC H3 p4 (.lst ([V.ref x1,V.ref x2]++ [V.ref x3,V.ref x4]))) x4 (Vbdeab.most x):=hx4.same s4
  generalize hH4:bC H3 p4 (.lst ([V.ref x1,V.ref x2]++ [V.ref x3,V.ref x4]))=H4 at*
  have hp4':H4 p4=some (.lst ([x1,x2,x3,x4].map V.ref)):=by rw [←hH4,af];rfl
  have qs:∀(i:Nat) y,[x1,x2,x3,x4][i]?=some y→∃q,[Vbdeab.mean x,variance x,Vbdeab.least x,Vbdeab.most x][i]?=some q∧ir T H4 y q:=fun i y hy=>by
   match i,hy with
   | 0,hy=>cases hy;exact⟨_,rfl,q1⟩
   | 1,hy=>cases hy;exact⟨_,rfl,q2⟩
   | 2,hy=>cases hy;exact⟨_,rfl,q3⟩
   | 3,hy=>cases hy;exact⟨_,rfl,q4⟩
   | _+4,hy=>cases hy
  refine⟨p4,rfl,⟨_,aX.of hp4'⟩,c9 (xs:= [x1,x2,x3,x4].map V.ref) (fun i σ H'=>i≤4∧∃(v1:Option V),σ= [some (.ref b),some (.ref r),some (.int d),some (.int 0),some (.ref z),some (.ref N),v1]∧H' N=some (.lst ((0::(([Vbdeab.mean x,variance x,Vbdeab.least x,Vbdeab.most x].take i).flatMap shownQ)).map V.int))∧(∀b o,H4 b=some o→b≠N→H' b=some o)) ⟨Nat.zero_le _,none,rfl,hN4,fun b o e _=>e⟩ (fun i σ H' _ ⟨_,_,_,_,kp⟩=>aX.of (kp _ _ hp4' (fun q=>by rw [q,hN4] at hp4';cases hp4'))) ?_ ?_⟩
  ·rintro i u σ H5 hu ⟨hi,v1,rfl,hN5,kp⟩
   obtain⟨y,hy,rfl⟩:=fg hu
   have hi':i<4:=(List.getElem?_eq_some_iff.mp hy).1
   obtain⟨q,hq,dq,hqa⟩:=qs i y hy
   have hqa5:=kp _ _ hqa (bb hqa hN4 (by intro z;cases z))
   refine⟨_,rfl,.inl ⟨rfl,_,aX.of hN5⟩,_,rfl,y,q,rfl,⟨dq,hqa5⟩,fun A hA=> ?_⟩
   have sA:=aC.laid (o:= .lst ((shownQ q).map V.int)) hA
   have fl:∀l:List Vbdeab.Q,(l.flatMap shownQ).length=2*l.length:=fun l=>by
    induction l with
    | nil=>rfl
    | cons a r ih=>rw [List.flatMap_cons,List.length_append,ih,List.length_cons];show 2+_=_;omega
   refine⟨N,A,_,_,rfl,rfl,sA _ _ hN5,af,?_,hi',_,rfl,?_,fun c o e hc=> ?_⟩
   ·rw [List.length_map,List.length_cons,fl,List.length_take,List.length_map]
    show 2*min i 4+1+2≤2 ^ 24
    omega
   ·rw [af,Ch.bj hq,List.flatMap_append,←List.map_append,List.cons_append]
    simp
   ·rw [ak hc]
    exact sA _ _ (kp c o e hc)
  ·rintro σ H5 ⟨hi,v1,rfl,hN5,kp⟩
   have nN:H1 N=none:=hN
   have s15:aC H1 H5:=fun c o e=>kp c o (S4 _ _ (sN _ _ e)) (aw e nN)
   refine⟨_,rfl,?_⟩
   rw [es] at kk
   exact kk H5 N as _ (W1.same s15) hd1 hN5 (ki1.trans (KI.same s15)) (ki1.nf nN)
def EE (S:State) (d p q t:Int):Int:=if Al S d<0 then Al S d else if Vbdeab.fraction p q=none∨¬(0≤t∧t≤1) then -5 else 0
def tF (T:Tx K mg):Sp:=fun vs H Q _=>∃(G:Gh) (b r l a:Addr) (as:List Addr) (S:State) (ns:List Int) (pos:Nat) (d p q t:Int),vs= [.ref b,.int d,.int p,.int q,.int t]∧Wd G T H b r l a as S ns pos∧Sz 140 q∧∀H',aC H H'→Q (.int (EE S d p q t)) H'
theorem ka (T:Tx K mg):cM P w base T.gq 5 (tF T):=by
 refine T.gq.okA kC ?_
 rintro _ A _ s H _ Q E hr ⟨G,b,r,l,a,as,S,ns,pos,d,p,q,t,rfl,W,qz,k⟩
 refine⟨_,(ac (aW 5 kC.nd (be T.bP (bM T) hr (ab (pv 0) (ab (pv 1) ad))))
   (ac (aQ (aO jj (pv 5) am (aV _)) (ae (aj (pv 5))) aE)
   (ac (aQ (jn (fI (aO iS (be T.b7 (bQ T) hr (ab (pv 2) (ab (pv 3) ad))) ck (aV _)) (fN (aS (aP (be T.bE (a4 T) hr (ab (pv 4) (ab am (ab am ad))))))))) (ae (aj (dI T.jc))) aE)
   (ae (aj am))))),?_⟩
 refine⟨_,rfl,_,rfl,G,b,r,l,a,as,S,ns,pos,d,rfl,W,?_⟩
 refine⟨_,rfl,_,_,rfl,rfl,_,rfl,aU (fun h1=> ?_) (fun h1=> ?_)⟩
 ·have e:EE S d p q t=Al S d:=if_pos (of_decide_eq_true h1)
  rw [e] at k
  exact⟨_,rfl,k H (aC.refl' H)⟩
 ·have e:EE S d p q t=if Vbdeab.fraction p q=none∨¬(0≤t∧t≤1) then -5 else 0:=if_neg fun z=>h1 (decide_eq_true z)
  rw [e] at k
  refine⟨_,rfl,_,rfl,p,q,rfl,qz.mono (by decide),fun v H2 o2 s2=> ?_⟩
  cases hf:Vbdeab.fraction p q with
  | none=>
   rw [hf] at o2 k
   obtain rfl:v= .non:=o2
   rw [if_pos (.inl rfl)] at k
   exact⟨rfl,_,rfl,gY (k H2 s2)⟩
  | some f=>
   rw [hf] at o2 k
   obtain⟨y,rfl,_⟩:=o2
   refine⟨rfl,_,rfl,_,rfl,t,0,1,rfl,_,rfl,aU (fun h3=> ?_) (fun h3=> ?_)⟩
   ·rw [if_pos (.inr (df h3))] at k
    exact k H2 s2
   ·rw [if_neg (fun z=>z.elim (fun q=>by cases q) fun q=>q (bL h3))] at k
    exact k H2 s2
open Vbdeab (Class Dist)
theorem zc (S:State) (d p q t:Int):(EE S d p q t<0∧(∀f:Dist→Vbdeab.Q→List Int,onDist S d (fun x=>match Vbdeab.fraction p q with
  | none=>(S,[-5])
  | some v=>if within t 0 1=false then(S,[-5]) else(S,f x v))=(S,[EE S d p q t])))∨
  (EE S d p q t=0∧(0≤d∧d≤63)∧(0≤t∧t≤1)∧∃x v,S.dist d.toNat=some x∧Vbdeab.fraction p q=some v∧∀f:Dist→Vbdeab.Q→List Int,onDist S d (fun x=>match Vbdeab.fraction p q with
  | none=>(S,[-5])
  | some v=>if within t 0 1=false then(S,[-5]) else(S,f x v))=(S,f x v)):=by
 unfold EE
 rcases fe S d with⟨h,e⟩ | ⟨h,h2,e⟩ | ⟨h,x,h2,e⟩
 ·rw [e,if_pos (by decide)]
  exact .inl ⟨by decide,fun f=>ji.1 h⟩
 ·rw [e,if_pos (by decide)]
  exact .inl ⟨by decide,fun f=>ji.2.1 h h2⟩
 ·rw [e,if_neg (by decide)]
  cases hf:Vbdeab.fraction p q with
  | none=>
   rw [if_pos (.inl rfl)]
   exact .inl ⟨by decide,fun f=>ji.2.2 h x h2⟩
  | some v=>
   by_cases c:0≤t∧t≤1
   ·rw [if_neg (fun z=>z.elim (fun q=>by cases q) fun q=>q c)]
    refine .inr ⟨rfl,h,c,x,v,h2,rfl,fun f=>(ji.2.2 h x h2).trans ?_⟩
    show(if within t 0 1=false then _ else _)=_
    rw [bT,decide_eq_true c,if_neg (by decide)]
   ·rw [if_pos (.inr c)]
    refine .inl ⟨by decide,fun f=>(ji.2.2 h x h2).trans ?_⟩
    show(if within t 0 1=false then _ else _)=_
    rw [bT,decide_eq_false c,if_pos rfl]
def tE (T:Tx K mg):Sp:=cp T (fun dd c rest=>∃d p q t,dd=d::p::q::t::rest∧c= .below d p q t∧Sz 140 q)
theorem Eu (T:Tx K mg):cM P w base T.re 6 (tE T):=by
 refine T.re.okA iU ?_
 rintro _ A _ s H _ Q E hr ⟨G,b,r,l,a,as,S,ns,pos,c,rest,rfl,W,⟨d,p,q,t,hd,rfl,qz⟩,kk⟩
 refine⟨_,(ac (aW 2 iU.nd (dm (pv 1) T.au (ah T) hr))
   (ac (aW 3 iU.nd (dm (pv 1) T.au (ah T) hr))
   (ac (aW 4 iU.nd (dm (pv 1) T.au (ah T) hr))
   (ac (aW 5 iU.nd (dm (pv 1) T.au (ah T) hr))
   (ac (aW 6 iU.nd (be T.gq (ka T) hr (ab (pv 0) (ab (pv 2) (ab (pv 3) (ab (pv 4) (ab (pv 5) ad)))))))
   (ac (aQ (aO jj (pv 6) am (aV _)) (ae (aj (aG (ab (pv 6) ad)))) aE)
   (ae (aj (aB dF (aG (ab am ad)) (be T.eF (fB T) hr (ab (be T.kL (uu T) hr (ab (fP (ao (pv 0) rfl) (pv 2)) (ab (be T.b7 (bQ T) hr (ab (pv 3) (ab (pv 4) ad))) (ab (pv 5) ad)))) ad))))))))))),?_⟩
 have W0:=W;have ki0:=KI.refl H;have hd0:=hd
 refine aK W0 hd0 ki0 rfl fun H1 W1 hd1 ki1=> ?_
 refine aK W1 hd1 ki1 rfl fun H2 W2 hd2 ki2=> ?_
 refine aK W2 hd2 ki2 rfl fun H3 W3 hd3 ki3=> ?_
 refine aK W3 hd3 ki3 rfl fun H4 W4 hd4 ki4=> ?_
 have es:=ER S d p q t
 refine⟨_,rfl,_,rfl,_,rfl,_,rfl,_,rfl,G,b,r,l,a,as,S,ns,_,d,p,q,t,rfl,W4,qz,fun H5 s5=> ?_⟩
 have W5:=W4.same s5
 have ki5:=ki4.trans (KI.same s5)
 rcases zc S d p q t with⟨hneg,hon⟩ | ⟨e0,hd63,ht,x,f,hx,hf,hon⟩
 ·replace es:=es.trans (hon fun x v=>0::shownQ (Vbdeab.below (decide (t=1)) v x))
  refine⟨_,rfl,_,_,rfl,rfl,_,rfl,aU (fun _=> ?_) (fun h1=>absurd (decide_eq_true hneg) h1)⟩
  refine⟨_,rfl,?_⟩
  exact⟨(by show 1≤sizeLine;decide),aD kk W5 hd4 ki5 es⟩
 ·replace es:=es.trans (hon fun x v=>0::shownQ (Vbdeab.below (decide (t=1)) v x))
  rw [e0] at*
  obtain⟨vs,v,g2,g3,g4,g5,g6⟩:=W5.dGet hd63
  rw [hx] at g6
  obtain⟨z,rfl,hz⟩:=g6
  obtain⟨db,hb⟩:=id W5.bank
  refine⟨_,rfl,_,_,rfl,rfl,_,rfl,(by show 1≤sizeLine;decide),fun A1 hA1=> ?_⟩
  have sa:=aC.laid (o:= .lst [V.int 0]) hA1
  refine⟨_,rfl,b,_,db,_,_,rfl,(sa _ _ hb),T.aN.cl,T.aN.no _ (by decide),rfl,_,rfl,G.l2,_,_,_,rfl,rfl,aX.of (sa _ _ g2),g5,_,rfl,_,rfl,p,q,rfl,qz.mono (by decide),fun u H6 o6 s6=> ?_⟩
  rw [hf] at o6
  obtain⟨y,rfl,hy⟩:=o6
  refine⟨_,rfl,G.av l,z,y,x,f,decide (t=1),by rw [←FK ht];rfl,(hz.same sa).same s6,hy,k7 hf,fun y2 H7 hy2 s7=> ?_⟩
  refine⟨y2,_,rfl,hy2,fun A2 hA2=> ?_⟩
  have sb:=aC.laid (o:= .lst ((shownQ (Vbdeab.below (decide (t=1)) f x)).map V.int)) hA2
  have SS:=((sa.trans s6).trans s7).trans sb
  refine⟨A1,A2,_,_,rfl,rfl,sb _ _ (s7 _ _ (s6 _ _ af)),af,(by show 1+2≤2 ^ 24;decide),?_⟩
  exact aD kk (W5.same SS) hd4 (ki5.trans (KI.same SS)) es
def wn (T:Tx K mg):Sp:=cp T (fun dd c rest=>∃d p q t,dd=d::p::q::t::rest∧c= .hits d p q t∧Sz 140 q)
theorem GH (T:Tx K mg):cM P w base T.wI 8 (wn T):=by
 refine T.wI.okA jU ?_
 rintro _ A _ s H _ Q E hr ⟨G,b,r,l,a,as,S,ns,pos,c,rest,rfl,W,⟨d,p,q,t,hd,rfl,qz⟩,kk⟩
 refine⟨_,(ac (aW 2 jU.nd (dm (pv 1) T.au (ah T) hr))
   (ac (aW 3 jU.nd (dm (pv 1) T.au (ah T) hr))
   (ac (aW 4 jU.nd (dm (pv 1) T.au (ah T) hr))
   (ac (aW 5 jU.nd (dm (pv 1) T.au (ah T) hr))
   (ac (aW 6 jU.nd (be T.gq (ka T) hr (ab (pv 0) (ab (pv 2) (ab (pv 3) (ab (pv 4) (ab (pv 5) ad)))))))
   (ac (aQ (aO jj (pv 6) am (aV _)) (ae (aj (aG (ab (pv 6) ad)))) aE)
   (ae (aj (aG (ab am (ab (be T.oB (xC T) hr (ab (fP (ao (pv 0) rfl) (pv 2)) (ab (be T.b7 (bQ T) hr (ab (pv 3) (ab (pv 4) ad))) (ab (pv 5) ad)))) ad))))))))))),?_⟩
 have W0:=W;have ki0:=KI.refl H;have hd0:=hd
 refine aK W0 hd0 ki0 rfl fun H1 W1 hd1 ki1=> ?_
 refine aK W1 hd1 ki1 rfl fun H2 W2 hd2 ki2=> ?_
 refine aK W2 hd2 ki2 rfl fun H3 W3 hd3 ki3=> ?_
 refine aK W3 hd3 ki3 rfl fun H4 W4 hd4 ki4=> ?_
 have es:=G2 S d p q t
 refine⟨_,rfl,_,rfl,_,rfl,_,rfl,_,rfl,G,b,r,l,a,as,S,ns,_,d,p,q,t,rfl,W4,qz,fun H5 s5=> ?_⟩
 have W5:=W4.same s5
 have ki5:=ki4.trans (KI.same s5)
 rcases zc S d p q t with⟨hneg,hon⟩ | ⟨e0,hd63,ht,x,f,hx,hf,hon⟩
 ·replace es:=es.trans (hon fun x v=> [0,((Vbdeab.hits (decide (t=1)) v x:Nat):Int)])
  refine⟨_,rfl,_,_,rfl,rfl,_,rfl,aU (fun _=> ?_) (fun h1=>absurd (decide_eq_true hneg) h1)⟩
  refine⟨_,rfl,?_⟩
  exact⟨(by show 1≤sizeLine;decide),aD kk W5 hd4 ki5 es⟩
 ·replace es:=es.trans (hon fun x v=> [0,((Vbdeab.hits (decide (t=1)) v x:Nat):Int)])
  rw [e0] at*
  obtain⟨vs,v,g2,g3,g4,g5,g6⟩:=W5.dGet hd63
  rw [hx] at g6
  obtain⟨z,rfl,hz⟩:=g6
  obtain⟨db,hb⟩:=id W5.bank
  refine⟨_,rfl,_,_,rfl,rfl,_,rfl,_,rfl,b,_,db,_,_,rfl,hb,T.aN.cl,T.aN.no _ (by decide),rfl,_,rfl,G.l2,_,_,_,rfl,rfl,aX.of g2,g5,_,rfl,_,rfl,p,q,rfl,qz.mono (by decide),fun u H6 o6 s6=> ?_⟩
  rw [hf] at o6
  obtain⟨y,rfl,hy⟩:=o6
  refine⟨_,rfl,G.av l,z,y,x,f,decide (t=1),by rw [←FK ht];rfl,hz.same s6,hy,k7 hf,fun H7 s7=> ?_⟩
  exact⟨(by show 2≤sizeLine;decide),aD kk (W5.same (s6.trans s7)) hd4 (ki5.trans (KI.same (s6.trans s7))) es⟩
end
end Pf
namespace Pf
open PySem PySem.Spec PyProof.Rows L2
section
variable {P:Program} {w:World} {K:PySem.W.Frag} {mg:Str→Option Value} {base:Heap}
theorem Wd.tab {G:Gh} {T:Tx K mg} {H H':Hp} {b r l a:Addr} {as:List Addr} {S:State} {ns:List Int} {pos:Nat} (W:Wd G T H b r l a as S ns pos) (k:fZ H H' G.P) (t':TB G.P H'):Wd G T H' b r l a as S ns pos:=by
 obtain⟨⟨dx,hb⟩,⟨dr,hr⟩,hq,hl,nd,len,sl,at_,ok,dw⟩:=W
 have kp:∀c o,H c=some o→(∀ps,o≠ .tbl ps)→H' c=some o:=fun c o e n=>k c o e fun z=>by
  rcases dw.tb with q | ⟨_,q,_⟩
  ·rw [z,q] at e;exact n _ (Option.some.inj e).symm
  ·rw [z,q] at e;exact n _ (Option.some.inj e).symm
 exact⟨⟨dx,kp _ _ hb (by intro ps z;cases z)⟩,⟨dr,kp _ _ hr (by intro ps z;cases z)⟩,hq.keep (fun _ _ _ e=>kp _ _ e (by intro ps z;cases z)),kp _ _ hl (by intro ps z;cases z),nd,len,sl,fun j z u h2 h3=>let ⟨d,h⟩:=at_ j z u h2 h3;⟨d,kp _ _ h (by intro ps z;cases z)⟩,ok,dw.keep (.tab k dw.tb t') fun c xs e _=>kp _ _ e (by intro ps z;cases z)⟩
theorem Wd.both {G:Gh} {T:Tx K mg} {H H':Hp} {b r l a:Addr} {as:List Addr} {S:State} {ns:List Int} {pos:Nat} (W:Wd G T H b r l a as S ns pos) {k:Nat} {x:Addr} {t t':Stream} (hx:as[k]?=some x) (h0:bD T H x t) (h1:bD T H' x t') (hlt:t'.state<Vbdeab.P)
  (kp:∀c o,H c=some o→c≠x→c≠G.P→H' c=some o) (tb:TB G.P H'):Wd G T H' b r l a as (S.put k t') ns pos:=by
 obtain⟨dx,e1⟩:=h1
 have W1:Wd G T (bC H x (.ins T.aI.C dx (sf t'))) b r l a as (S.put k t') ns pos:=W.stream hx h0 ⟨dx,af⟩ (fun c o e n=>by rw [ak n];exact e) hlt
 refine W1.tab (fun c o e n=> ?_) tb
 by_cases q:c=x
 ·subst q
  rw [af] at e
  cases e
  exact e1
 ·rw [ak q] at e
  exact kp c o e q n
theorem je.kp {T:Tx K mg} {av:List Addr} {H H':Hp} {rs:List Addr} {l:List (Int×Int)} (h:je T H rs l) (s:KP av H H'):je T H' rs l:=⟨h.1,fun j r q a b=>s.rt (h.2 j r q a b)⟩
theorem je.snoc {T:Tx K mg} {H:Hp} {rs:List Addr} {l:List (Int×Int)} {r:Addr} {q:Int×Int} (h:je T H rs l) (v:dW T H r q.1 q.2):je T H (rs++ [r]) (l++ [q]):=by
 refine⟨by rw [List.length_append,List.length_append,h.1];rfl,fun j r' q' a b=> ?_⟩
 rcases Nat.lt_or_ge j rs.length with z | z
 ·rw [List.getElem?_append_left z] at a
  rw [List.getElem?_append_left (by rw [←h.1];exact z)] at b
  exact h.2 j r' q' a b
 ·rw [List.getElem?_append_right z] at a
  rw [List.getElem?_append_right (by rw [←h.1];exact z),←h.1] at b
  cases e:j - rs.length with
  | zero=>rw [e] at a b;cases a;cases b;exact v
  | succ m=>rw [e] at a;cases a
theorem AQ (l:List Vbdeab.Q):(l.flatMap shownQ).length=2*l.length:=by
 induction l with
 | nil=>rfl
 | cons a r ih=>rw [List.flatMap_cons,List.length_append,ih,List.length_cons];show 2+_=_;omega
theorem G0 (S:State) (d k:Int):Vbdeab.step S (.draw d k)=onDist S d fun x=>onStream S k fun t=> .ok ((Vbdeab.raw t).1,shownQ (Vbdeab.value x (Vbdeab.raw t).2)):=by rw [Vbdeab.step]
theorem ET (S:State) (d k n:Int):Vbdeab.step S (.draws d k n)=onDist S d fun x=>onStream S k fun t=>if within n 0 1000=false then .error (-3) else .ok ((Vbdeab.raws n.toNat t).1,n::(Vbdeab.raws n.toNat t).2.flatMap fun u=>shownQ (Vbdeab.value x u)):=by rw [Vbdeab.step]
def EK (T:Tx K mg):Sp:=fun vs H Q _=>∃(G:Gh) (b r l a:Addr) (as:List Addr) (S:State) (ns:List Int) (pos d k n:Nat) (x:Vbdeab.Dist),vs= [.ref b,.int d,.int k,.int n]∧Wd G T H b r l a as S ns pos∧d<64∧k<64∧n≤1000∧S.dist d=some x∧∀(H':Hp) (p:Addr),Wd G T H' b r l a as (S.put k (Vbdeab.raws n (S.stream k)).1) ns pos→H' p=some (.lst (((Vbdeab.raws n (S.stream k)).2.flatMap fun u=>shownQ (Vbdeab.value x u)).map V.int))→KI H H'→NF H p→Q (.ref p) H'
theorem yU (T:Tx K mg):cM P w base T.yo 6 (EK T):=by
 refine T.yo.okA gA ?_
 rintro _ A _ s H _ Q E hr ⟨G,b,r,l,a,as,S,ns,pos,d,k,n,x,rfl,W,hd,hk,hn,hx,kk⟩
 refine⟨_,(ac (aW 4 gA.nd (fP (ao (pv 0) rfl) (pv 1)))
   (ac (aW 5 gA.nd (fP (ao (pv 0) rfl) (pv 2)))
   (ac (aW 6 gA.nd (aG ad))
   (ac (cZ PassesOwn.never rfl (bW (be T.cJ (xy T) hr (ab (iB (own:= [("i",8)]) rfl gA.nd (bR rfl T.cr (ab (pv 3) ad)) (bK (N:= ["bank","d","k","many","distribution","stream","numbers","ratio","i"]) (sc:=ag vN) (by decide+kernel)) (fun _ _ _ _ _=>(i9 8 gA.nd)) (fun _ _ _ _ _=>cQ) (fun _ _ _ _ _=>(wB (pv 4) T.cU (eZ T) hr (ab (dm (pv 5) T.br (bF T) hr) ad)))) ad))) (i9 7 gA.nd) (ae (eU (oS PySem.F.plainAttrs_list PySem.F.slot_list_extend PySem.F.type_list_extend qU (pv 6) (ab (be T.eF (fB T) hr (ab (pv 7) ad)) ad)))))
   (ae (aj (pv 6))))))),?_⟩
 obtain⟨db,hb⟩:=id W.bank
 obtain⟨vs,v,g2,g3,g4,g5,g6⟩:=W.dGet (d:=(d:Int)) (by omega)
 obtain⟨sx,t,e1,e2,e3,e4,e5⟩:=W.sGet hk
 rw [show(d:Int).toNat=d from rfl,hx] at g6
 obtain⟨z,rfl,hz⟩:=g6
 rw [e3] at kk
 obtain⟨ds,hs⟩:=id e4
 obtain⟨dz,_,_,_,_,_,DD⟩:=id hz
 refine⟨_,rfl,b,_,db,_,_,rfl,hb,T.aN.cl,T.aN.no _ (by decide),rfl,_,rfl,G.l2,_,_,_,rfl,rfl,aX.of g2,g5,?_⟩
 refine⟨_,rfl,b,_,db,_,_,rfl,hb,T.aN.cl,T.aN.no _ (by decide),rfl,_,rfl,l,_,_,_,rfl,rfl,aX.of W.lst,lh rfl e1,Nat.zero_le _,fun N hN=> ?_⟩
 have sN:=aC.laid (o:= .lst []) hN
 refine⟨_,rfl,(n:Int),rfl,by omega,by omega,fun D hD=> ?_⟩
 have nND:N≠D:=aw af hD
 have hD0:H D=none:=sN.free hD
 refine eY (n:=n) (fun i H'=>∃(rs:List Addr) (ps:List (Int×Int)),H' D=some (.lst (rs.map V.ref))∧je T H' rs ps∧(∀q∈ps,0<q.2∧Sz 600 q.2∧Sz 600 q.1)∧(ps.map fun q=>Vbdeab.mkQ q.1 q.2.toNat)=(Vbdeab.raws i t).2.map (Vbdeab.value x)∧H' N=some (.lst [])∧bD T H' sx (Vbdeab.raws i t).1∧fZ H H' sx) ?_ ?_ ?_
 ·refine⟨[],[],af,⟨rfl,fun j r q a b=>by cases a⟩,fun q hq=>(nomatch hq),(by rw [Ch.cy];rfl),(by rw [ak nND,af]),⟨ds,?_⟩,fun c o e _=> ?_⟩
  ·rw [Ch.cy,ak (aw hs hD0)]
   exact sN _ _ hs
  ·rw [ak (aw e hD0)]
   exact sN _ _ e
 ·rintro i H3 hi ⟨rs,ps,hD3,hrs,hps,heq,hN3,⟨d3,hs3⟩,kp3⟩
  have KQ3:KQ (G.av l) H H3:=KQ.keep1 kp3 hs rfl
  have hz3:=hz.kp KQ3.toKP
  refine⟨rfl,_,rfl,z,dz,_,rfl,kp3 _ _ DD.inst (bb DD.inst hs (HN (by decide))),rfl,_,rfl,sx,d3,_,rfl,hs3,rfl,sx,_,rfl,⟨d3,hs3⟩,fun H4 ⟨d4,hs4⟩ kp4=> ?_⟩
  have KQ4:KQ (G.av l) H3 H4:=KQ.keep1 kp4 hs3 rfl
  refine⟨G.av l,z,x,_,rfl,hz3.kp KQ4.toKP,Ch.sY,fun y H5 hy s5=> ?_⟩
  have hD5:=s5 _ _ (kp4 _ _ hD3 (bb hD3 hs3 (by intro z;cases z)))
  have hN5:=s5 _ _ (kp4 _ _ hN3 (bb hN3 hs3 (by intro z;cases z)))
  obtain⟨yn,ym,hyt,yiz,ynz,ymz⟩:=hy
  have hlen:ps.length=i:=by
   have:=congrArg List.length heq
   rw [List.length_map,List.length_map,Ch.fc] at this
   exact this
  have hrs5:je T H5 rs ps:=(hrs.kp KQ4.toKP).kp (av:=G.av l) (.same s5)
  refine⟨_,hD5,(by rw [List.length_map,hrs.1,hlen];show i<2 ^ 24;omega),rs++ [y],ps++ [(yn,ym)],by rw [af,List.map_append];rfl,(hrs5.snoc (q:=(yn,ym)) hyt).si (fH.lst hD5),fun q hq=> ?_,?_,by rw [ak nND];exact hN5,⟨d4,?_⟩,fun c o e nc=> ?_⟩
  ·rcases List.mem_append.mp hq with w | w
   ·exact hps q w
   ·rw [List.mem_singleton.mp w]
    exact⟨yiz.dpos,ymz.mono (by decide),ynz.mono (by decide)⟩
  ·rw [List.map_append,heq,Ch.eu,List.map_append]
   congr 1
   show [Vbdeab.mkQ yn ym.toNat]= [Vbdeab.value x _]
   rw [←yiz.eq]
  ·rw [ak (aw hs hD0),Ch.eu]
   exact s5 _ _ hs4
  ·rw [ak (aw e hD0)]
   exact s5 _ _ (kp4 _ _ (kp3 _ _ e nc) nc)
 ·rintro H3 ⟨rs,ps,hD3,hrs,hps,heq,hN3,hs3,kp3⟩
  have KQ3:KQ (G.av l) H H3:=KQ.keep1 kp3 hs rfl
  have hlen:ps.length=n:=by
   have:=congrArg List.length heq
   rw [List.length_map,List.length_map,Ch.fc] at this
   exact this
  refine⟨D,G.P,rs,ps,rfl,hD3,hrs,by omega,hps,W.dw.to,W.dw.bm.keep KQ3.x,KQ3.t _ W.dw.tb,fun H4 p xs hp4 xlen hxs k4 tb4 np4=> ?_⟩
  have tb3:=KQ3.t _ W.dw.tb
  have nT:∀(Hx:Hp) c o,TB G.P Hx→Hx c=some o→(∀ps,o≠ .tbl ps)→c≠G.P:=fun Hx c o tb e hn w=>by
   rcases tb with tb | ⟨_,tb,_⟩
   ·rw [w,tb] at e;exact hn _ (Option.some.inj e).symm
   ·rw [w,tb] at e;exact hn _ (Option.some.inj e).symm
  have hN4:H4 N=some (.lst []):=k4 _ _ hN3 (nT H3 _ _ tb3 hN3 (by intro ps z;cases z))
  have pN:p≠N:=fun w=>by rw [w,hN3] at np4;cases np4
  generalize hms:(Vbdeab.raws n t).2.map (Vbdeab.value x)=ms at heq
  have mlen:ms.length=n:=by rw [←hms,List.length_map,Ch.fc]
  have qs:∀(i:Nat) y,xs[i]?=some y→∃q,ms[i]?=some q∧ir T H4 y q:=fun i y hy=>by
   have hi:i<ps.length:=by rw [←xlen];exact(List.getElem?_eq_some_iff.mp hy).1
   refine⟨_,by rw [←heq,List.getElem?_map,List.getElem?_eq_getElem hi];rfl,hxs i y _ hy (List.getElem?_eq_getElem hi)⟩
  refine⟨p,rfl,⟨_,aX.of hp4⟩,c9 (xs:=xs.map V.ref) (fun i σ H'=>i≤n∧∃(v1 v2:Option V),σ= [some (.ref b),some (.int d),some (.int k),some (.int n),some (.ref z),some (.ref sx),some (.ref N),v1,v2]∧H' N=some (.lst (((ms.take i).flatMap shownQ).map V.int))∧(∀c o,H4 c=some o→c≠N→H' c=some o)) ⟨Nat.zero_le _,none,none,rfl,hN4,fun c o e _=>e⟩ (fun i σ H' _ ⟨_,_,_,_,_,kp⟩=>aX.of (kp _ _ hp4 pN)) ?_ ?_⟩
  ·rintro i u σ H5 hu ⟨hi,v1,v2,rfl,hN5,kp⟩
   obtain⟨y,hy,rfl⟩:=fg hu
   have hi':i<n:=by rw [←hlen,←xlen];exact(List.getElem?_eq_some_iff.mp hy).1
   obtain⟨q,hq,dq,hqa⟩:=qs i y hy
   have hqa5:=kp _ _ hqa (bb hqa hN4 (by intro z;cases z))
   refine⟨_,rfl,.inl ⟨rfl,_,aX.of hN5⟩,_,rfl,y,q,rfl,⟨dq,hqa5⟩,fun A hA=> ?_⟩
   have sA:=aC.laid (o:= .lst ((shownQ q).map V.int)) hA
   refine⟨N,A,_,_,rfl,rfl,sA _ _ hN5,af,?_,hi',_,_,rfl,?_,fun c o e hc=> ?_⟩
   ·rw [List.length_map,AQ,List.length_take,List.length_map]
    show 2*min i _+2≤2 ^ 24
    omega
   ·rw [af,Ch.bj hq,List.flatMap_append,←List.map_append]
    simp
   ·rw [ak hc]
    exact sA _ _ (kp c o e hc)
  ·rintro σ H5 ⟨hi,v1,v2,rfl,hN5,kp⟩
   have tb5:TB G.P H5:=tb4.keep (fun c ps e=>kp _ _ e (bb e hN4 (by intro z;cases z))) fun c φ e=>kp _ _ e (bb e hN4 (by intro z;cases z))
   have kpF:∀c o,H c=some o→c≠sx→c≠G.P→H5 c=some o:=fun c o e n1 n2=>kp _ _ (k4 _ _ (kp3 _ _ e n1) n2) (aw e hN)
   have sF:bD T H5 sx (Vbdeab.raws n t).1:=by
    obtain⟨d3,hs3⟩:=hs3
    exact⟨d3,kp _ _ (k4 _ _ hs3 (nT H3 _ _ tb3 hs3 (by intro ps z;cases z))) (aw hs hN)⟩
   refine⟨_,rfl,?_⟩
   rw [List.length_map,xlen,hlen,List.take_of_length_le (by rw [mlen];exact Nat.le_refl _),←hms,List.flatMap_map] at hN5
   refine kk H5 N (W.both e1 e4 sF (qX e5 _) kpF tb5) hN5 (fun c xs e=>kpF _ _ e (bb e hs (by intro z;cases z)) (nT H _ _ W.dw.tb e (by intro ps z;cases z))) (KI.nf (KI.refl H) hN)
def wk (T:Tx K mg):Sp:=cp T (fun dd c rest=>∃d k,dd=d::k::rest∧c= .draw d k)
theorem GF (T:Tx K mg):cM P w base T.wH 7 (wk T):=by
 refine T.wH.okA qZ ?_
 rintro _ A _ s H _ Q E hr ⟨G,b,r,l,a,as,S,ns,pos,c,rest,rfl,W,⟨d,k,hd,rfl⟩,kk⟩
 refine⟨_,(ac (aW 2 qZ.nd (dm (pv 1) T.au (ah T) hr))
   (ac (aW 3 qZ.nd (dm (pv 1) T.au (ah T) hr))
   (ac (aW 4 qZ.nd (be T.bP (bM T) hr (ab (pv 0) (ab (pv 2) ad))))
   (ac (aQ (aO jj (pv 4) am (aV _)) (ae (aj (aG (ab (pv 4) ad)))) aE)
   (ac (aQ (aS (aP (be T.bn (aY T) hr (ab (pv 3) ad)))) (ae (aj (aG (ab (dI T.a7) ad)))) aE)
   (ae (aj (aB dF (aG (ab am ad)) (be T.yo (yU T) hr (ab (pv 0) (ab (pv 2) (ab (pv 3) (ab am ad))))))))))))),?_⟩
 have W0:=W;have ki0:=KI.refl H;have hd0:=hd
 refine aK W0 hd0 ki0 rfl fun H1 W1 hd1 ki1=> ?_
 refine aK W1 hd1 ki1 rfl fun H2 W2 hd2 ki2=> ?_
 have es:=G0 S d k
 refine⟨_,rfl,_,rfl,G,b,r,l,a,as,S,ns,_,d,rfl,W2,?_⟩
 rcases fe S d with⟨h,e⟩ | ⟨h,h2,e⟩ | ⟨h,x,h2,e⟩
 ·rw [e,ji.1 h] at*
  refine⟨_,rfl,_,_,rfl,rfl,_,rfl,_,rfl,?_⟩
  exact⟨(by show 1≤sizeLine;decide),aD kk W2 hd2 ki2 es⟩
 ·rw [e] at*
  rw [ji.2.1 h h2] at es
  refine⟨_,rfl,_,_,rfl,rfl,_,rfl,_,rfl,?_⟩
  exact⟨(by show 1≤sizeLine;decide),aD kk W2 hd2 ki2 es⟩
 ·rw [e] at*
  rw [ji.2.2 h x h2] at es
  refine⟨_,rfl,_,_,rfl,rfl,_,rfl,_,rfl,k,rfl,_,rfl,aU (fun h3=> ?_) (fun h3=> ?_)⟩
  ·rw [gw (df h3)] at es
   exact⟨(by show 1≤sizeLine;decide),aD kk W2 hd2 ki2 es⟩
  ·have hk:=bL h3
   rw [kf (r:=((Vbdeab.raw (S.stream k.toNat)).1,shownQ (Vbdeab.value x (Vbdeab.raw (S.stream k.toNat)).2))) hk rfl] at es
   refine⟨(by show 1≤sizeLine;decide),fun A1 hA1=> ?_⟩
   have sa:=aC.laid (o:= .lst [V.int 0]) hA1
   refine⟨_,rfl,_,rfl,_,rfl,G,b,r,l,a,as,S,ns,_,d.toNat,k.toNat,1,x,by rw [Int.toNat_of_nonneg h.1,Int.toNat_of_nonneg hk.1];rfl,W2.same sa,by omega,by omega,by decide,h2,fun H3 p W3 hp3 ki3 nf3=> ?_⟩
   have r1:Vbdeab.raws 1 (S.stream k.toNat)=((Vbdeab.raw (S.stream k.toNat)).1,[(Vbdeab.raw (S.stream k.toNat)).2]):=by rw [Ch.eu,Ch.cy];rfl
   rw [r1] at W3 hp3
   have hA3:=ki3 A1 [0] af
   have hp3':H3 p=some (.lst ((shownQ (Vbdeab.value x (Vbdeab.raw (S.stream k.toNat)).2)).map V.int)):=by rw [hp3];simp
   refine⟨A1,p,_,_,rfl,rfl,hA3,hp3',(by show 1+2≤2 ^ 24;decide),?_⟩
   have fin:=aD kk W3 hd2 ((ki2.trans (KI.same sa)).trans ki3) es
   exact fin
def tI (T:Tx K mg):Sp:=cp T (fun dd c rest=>∃d k n,dd=d::k::n::rest∧c= .draws d k n)
theorem Ew (T:Tx K mg):cM P w base T.rj 7 (tI T):=by
 refine T.rj.okA kD ?_
 rintro _ A _ s H _ Q E hr ⟨G,b,r,l,a,as,S,ns,pos,c,rest,rfl,W,⟨d,k,n,hd,rfl⟩,kk⟩
 refine⟨_,(ac (aW 2 kD.nd (dm (pv 1) T.au (ah T) hr))
   (ac (aW 3 kD.nd (dm (pv 1) T.au (ah T) hr))
   (ac (aW 4 kD.nd (dm (pv 1) T.au (ah T) hr))
   (ac (aW 5 kD.nd (be T.bP (bM T) hr (ab (pv 0) (ab (pv 2) ad))))
   (ac (aQ (aO jj (pv 5) am (aV _)) (ae (aj (aG (ab (pv 5) ad)))) aE)
   (ac (aQ (aS (aP (be T.bn (aY T) hr (ab (pv 3) ad)))) (ae (aj (aG (ab (dI T.a7) ad)))) aE)
   (ac (aQ (aS (aP (be T.fv (e9 T) hr (ab (pv 4) ad)))) (ae (aj (aG (ab (dI T.dU) ad)))) aE)
   (ae (aj (aB dF (aG (ab am (ab (pv 4) ad))) (be T.yo (yU T) hr (ab (pv 0) (ab (pv 2) (ab (pv 3) (ab (pv 4) ad))))))))))))))),?_⟩
 have W0:=W;have ki0:=KI.refl H;have hd0:=hd
 refine aK W0 hd0 ki0 rfl fun H1 W1 hd1 ki1=> ?_
 refine aK W1 hd1 ki1 rfl fun H2 W2 hd2 ki2=> ?_
 refine aK W2 hd2 ki2 rfl fun H3 W3 hd3 ki3=> ?_
 have es:=ET S d k n
 refine⟨_,rfl,_,rfl,G,b,r,l,a,as,S,ns,_,d,rfl,W3,?_⟩
 rcases fe S d with⟨h,e⟩ | ⟨h,h2,e⟩ | ⟨h,x,h2,e⟩
 ·rw [e,ji.1 h] at*
  refine⟨_,rfl,_,_,rfl,rfl,_,rfl,_,rfl,?_⟩
  exact⟨(by show 1≤sizeLine;decide),aD kk W3 hd3 ki3 es⟩
 ·rw [e] at*
  rw [ji.2.1 h h2] at es
  refine⟨_,rfl,_,_,rfl,rfl,_,rfl,_,rfl,?_⟩
  exact⟨(by show 1≤sizeLine;decide),aD kk W3 hd3 ki3 es⟩
 ·rw [e] at*
  rw [ji.2.2 h x h2] at es
  refine⟨_,rfl,_,_,rfl,rfl,_,rfl,_,rfl,k,rfl,_,rfl,aU (fun h3=> ?_) (fun h3=> ?_)⟩
  ·rw [gw (df h3)] at es
   exact⟨(by show 1≤sizeLine;decide),aD kk W3 hd3 ki3 es⟩
  ·have hk:=bL h3
   refine⟨_,rfl,n,rfl,_,rfl,aU (fun h4=> ?_) (fun h4=> ?_)⟩
   ·rw [gx (e:= -3) hk (by rw [bT,if_pos (cN (df h4))])] at es
    exact⟨(by show 1≤sizeLine;decide),aD kk W3 hd3 ki3 es⟩
   ·have hn:=bL h4
    rw [kf (r:=((Vbdeab.raws n.toNat (S.stream k.toNat)).1,n::(Vbdeab.raws n.toNat (S.stream k.toNat)).2.flatMap fun u=>shownQ (Vbdeab.value x u))) hk (by rw [bT,decide_eq_true hn,if_neg (by decide)])] at es
    refine⟨_,rfl,(by show 2≤sizeLine;decide),fun A1 hA1=> ?_⟩
    have sa:=aC.laid (o:= .lst [V.int 0,V.int n]) hA1
    refine⟨_,rfl,_,rfl,_,rfl,_,rfl,G,b,r,l,a,as,S,ns,_,d.toNat,k.toNat,n.toNat,x,by rw [Int.toNat_of_nonneg h.1,Int.toNat_of_nonneg hk.1,Int.toNat_of_nonneg hn.1];rfl,W3.same sa,by omega,by omega,by omega,h2,fun H4 p W4 hp4 ki4 nf4=> ?_⟩
    have hA4:=ki4 A1 [0,n] af
    have fl:((Vbdeab.raws n.toNat (S.stream k.toNat)).2.flatMap fun u=>shownQ (Vbdeab.value x u)).length=2*n.toNat:=by
     have:=AQ ((Vbdeab.raws n.toNat (S.stream k.toNat)).2.map (Vbdeab.value x))
     rw [List.flatMap_map,List.length_map,Ch.fc] at this
     exact this
    refine⟨A1,p,_,_,rfl,rfl,hA4,hp4,(by rw [List.length_map,List.length_map,fl];show 2+2*n.toNat≤2 ^ 24;omega),?_⟩
    have fin:=aD kk W4 hd3 ((ki3.trans (KI.same sa)).trans ki4) es
    exact fin
end
end Pf
namespace Pf
open PySem PySem.Spec PyProof.Rows L2
section
variable {P:Program} {w:World} {K:PySem.W.Frag} {mg:Str→Option Value} {base:Heap} {G:Gh}
def iw (T:Tx K mg):Addr→Sp→Prop:=fun f sp=>(f=T.oJ.f∧sp=tR T)∨(f=T.kM.f∧sp=qy T)∨(f=T.i7.f∧sp=ol T)∨(f=T.kS.f∧sp=qE T)∨(f=T.z4.f∧sp=zP T)∨(f=T.tY.f∧sp=wo T)
theorem pr {A:Around} (T:Tx K mg) (hr:du 3 A):∀f sp,iw T f sp→∃k fd ps,iq P w K mg base x8 k f fd ps sp∧du k A∧PySem.W.keepIn K (.ref f)=true∧gE K fd ps []:=by
 rintro f sp (⟨rfl,rfl⟩ | ⟨rfl,rfl⟩ | ⟨rfl,rfl⟩ | ⟨rfl,rfl⟩ | ⟨rfl,rfl⟩ | ⟨rfl,rfl⟩)
 ·exact⟨_,_,_,EA T,hr.mono (by decide),T.oJ.F.kp,T.oJ.b⟩
 ·exact⟨_,_,_,C7 T,hr.mono (by decide),T.kM.F.kp,T.kM.b⟩
 ·exact⟨_,_,_,BR T,hr.mono (by decide),T.i7.F.kp,T.i7.b⟩
 ·exact⟨_,_,_,Dc T,hr.mono (by decide),T.kS.F.kp,T.kS.b⟩
 ·exact⟨_,_,_,Ii T,hr.mono (by decide),T.z4.F.kp,T.z4.b⟩
 ·exact⟨_,_,_,GJ T,hr.mono (by decide),T.tY.F.kp,T.tY.b⟩
def pB (T:Tx K mg):Sp:=fun vs H Q _=>∃(b r:Addr) (p:Int),vs= [.ref b,.int p,.ref r]∧((p=11∧tR T [.ref b,.ref r] H Q E0)∨(p=12∧qy T [.ref b,.ref r] H Q E0)∨(p=13∧ol T [.ref b,.ref r] H Q E0)∨(p=14∧qE T [.ref b,.ref r] H Q E0)∨(p=15∧zP T [.ref b,.ref r] H Q E0)∨(p=16∧wo T [.ref b,.ref r] H Q E0))
theorem pA (T:Tx K mg):cM P w base T.gC 4 (pB T):=by
 refine T.gC.okA iL ?_
 rintro _ A _ s H _ Q E hr ⟨b,r,p,rfl,k⟩
 refine⟨_,(ac (aW 3 iL.nd (jN (FS T.bv) (pv 1)))
   (ae (aj (ml (i:=3) (iw T) rfl (Or.inl rfl) (pr T hr) (ab (pv 0) (ab (pv 2) ad)))))),?_⟩
 rcases k with⟨rfl,k⟩ | ⟨rfl,k⟩ | ⟨rfl,k⟩ | ⟨rfl,k⟩ | ⟨rfl,k⟩ | ⟨rfl,k⟩
 ·exact⟨_,rfl,T.bv.a,_,_,_,rfl,T.bv.gd _ _,rfl,rfl,_,_,rfl,.inl ⟨rfl,rfl⟩,_,rfl,_,rfl,k⟩
 ·exact⟨_,rfl,T.bv.a,_,_,_,rfl,T.bv.gd _ _,rfl,rfl,_,_,rfl,.inr (.inl ⟨rfl,rfl⟩),_,rfl,_,rfl,k⟩
 ·exact⟨_,rfl,T.bv.a,_,_,_,rfl,T.bv.gd _ _,rfl,rfl,_,_,rfl,.inr (.inr (.inl ⟨rfl,rfl⟩)),_,rfl,_,rfl,k⟩
 ·exact⟨_,rfl,T.bv.a,_,_,_,rfl,T.bv.gd _ _,rfl,rfl,_,_,rfl,.inr (.inr (.inr (.inl ⟨rfl,rfl⟩))),_,rfl,_,rfl,k⟩
 ·exact⟨_,rfl,T.bv.a,_,_,_,rfl,T.bv.gd _ _,rfl,rfl,_,_,rfl,.inr (.inr (.inr (.inr (.inl ⟨rfl,rfl⟩)))),_,rfl,_,rfl,k⟩
 ·exact⟨_,rfl,T.bv.a,_,_,_,rfl,T.bv.gd _ _,rfl,rfl,_,_,rfl,.inr (.inr (.inr (.inr (.inr (⟨rfl,rfl⟩))))),_,rfl,_,rfl,k⟩
def gF (T:Tx K mg):Addr→Sp→Prop:=fun f sp=>(f=T.t8.f∧sp=wu T)∨(f=T.z5.f∧sp=zQ T)∨(f=T.t7.f∧sp=wr T)∨(f=T.t9.f∧sp=wv T)∨(f=T.tU.f∧sp=wf T)∨(f=T.kR.f∧sp=qC T)∨(f=T.oI.f∧sp=tQ T)∨(f=T.zY.f∧sp=zM T)∨(f=T.tX.f∧sp=wm T)∨(f=T.tW.f∧sp=wj T)∨(f=T.oG.f∧sp=tN T)
theorem l6 {A:Around} (T:Tx K mg) (hr:du 7 A):∀f sp,gF T f sp→∃k fd ps,iq P w K mg base x8 k f fd ps sp∧du k A∧PySem.W.keepIn K (.ref f)=true∧gE K fd ps []:=by
 rintro f sp (⟨rfl,rfl⟩ | ⟨rfl,rfl⟩ | ⟨rfl,rfl⟩ | ⟨rfl,rfl⟩ | ⟨rfl,rfl⟩ | ⟨rfl,rfl⟩ | ⟨rfl,rfl⟩ | ⟨rfl,rfl⟩ | ⟨rfl,rfl⟩ | ⟨rfl,rfl⟩ | ⟨rfl,rfl⟩)
 ·exact⟨_,_,_,GM T,hr.mono (by decide),T.t8.F.kp,T.t8.b⟩
 ·exact⟨_,_,_,Ij T,hr.mono (by decide),T.z5.F.kp,T.z5.b⟩
 ·exact⟨_,_,_,GK T,hr.mono (by decide),T.t7.F.kp,T.t7.b⟩
 ·exact⟨_,_,_,GN T,hr.mono (by decide),T.t9.F.kp,T.t9.b⟩
 ·exact⟨_,_,_,Gy T,hr.mono (by decide),T.tU.F.kp,T.tU.b⟩
 ·exact⟨_,_,_,Da T,hr.mono (by decide),T.kR.F.kp,T.kR.b⟩
 ·exact⟨_,_,_,Ez T,hr.mono (by decide),T.oI.F.kp,T.oI.b⟩
 ·exact⟨_,_,_,Ih T,hr.mono (by decide),T.zY.F.kp,T.zY.b⟩
 ·exact⟨_,_,_,GG T,hr.mono (by decide),T.tX.F.kp,T.tX.b⟩
 ·exact⟨_,_,_,GB T,hr.mono (by decide),T.tW.F.kp,T.tW.b⟩
 ·exact⟨_,_,_,Ex T,hr.mono (by decide),T.oG.F.kp,T.oG.b⟩
def mH (T:Tx K mg):Sp:=fun vs H Q _=>∃(b r:Addr) (p:Int),vs= [.ref b,.int p,.ref r]∧((p=0∧wu T [.ref b,.ref r] H Q E0)∨(p=1∧zQ T [.ref b,.ref r] H Q E0)∨(p=2∧wr T [.ref b,.ref r] H Q E0)∨(p=3∧wv T [.ref b,.ref r] H Q E0)∨(p=4∧wf T [.ref b,.ref r] H Q E0)∨(p=5∧qC T [.ref b,.ref r] H Q E0)∨(p=6∧tQ T [.ref b,.ref r] H Q E0)∨(p=7∧zM T [.ref b,.ref r] H Q E0)∨(p=8∧wm T [.ref b,.ref r] H Q E0)∨(p=9∧wj T [.ref b,.ref r] H Q E0)∨(p=10∧tN T [.ref b,.ref r] H Q E0))
theorem mh (T:Tx K mg):cM P w base T.ft 8 (mH T):=by
 refine T.ft.okA gL ?_
 rintro _ A _ s H _ Q E hr ⟨b,r,p,rfl,k⟩
 refine⟨_,(ac (aW 3 gL.nd (jN (FS T.aL) (pv 1)))
   (ae (aj (ml (i:=3) (gF T) rfl (Or.inl rfl) (l6 T hr) (ab (pv 0) (ab (pv 2) ad)))))),?_⟩
 rcases k with⟨rfl,k⟩ | ⟨rfl,k⟩ | ⟨rfl,k⟩ | ⟨rfl,k⟩ | ⟨rfl,k⟩ | ⟨rfl,k⟩ | ⟨rfl,k⟩ | ⟨rfl,k⟩ | ⟨rfl,k⟩ | ⟨rfl,k⟩ | ⟨rfl,k⟩
 ·exact⟨_,rfl,T.aL.a,_,_,_,rfl,T.aL.gd _ _,rfl,rfl,_,_,rfl,.inl ⟨rfl,rfl⟩,_,rfl,_,rfl,k⟩
 ·exact⟨_,rfl,T.aL.a,_,_,_,rfl,T.aL.gd _ _,rfl,rfl,_,_,rfl,.inr (.inl ⟨rfl,rfl⟩),_,rfl,_,rfl,k⟩
 ·exact⟨_,rfl,T.aL.a,_,_,_,rfl,T.aL.gd _ _,rfl,rfl,_,_,rfl,.inr (.inr (.inl ⟨rfl,rfl⟩)),_,rfl,_,rfl,k⟩
 ·exact⟨_,rfl,T.aL.a,_,_,_,rfl,T.aL.gd _ _,rfl,rfl,_,_,rfl,.inr (.inr (.inr (.inl ⟨rfl,rfl⟩))),_,rfl,_,rfl,k⟩
 ·exact⟨_,rfl,T.aL.a,_,_,_,rfl,T.aL.gd _ _,rfl,rfl,_,_,rfl,.inr (.inr (.inr (.inr (.inl ⟨rfl,rfl⟩)))),_,rfl,_,rfl,k⟩
 ·exact⟨_,rfl,T.aL.a,_,_,_,rfl,T.aL.gd _ _,rfl,rfl,_,_,rfl,.inr (.inr (.inr (.inr (.inr (.inl ⟨rfl,rfl⟩))))),_,rfl,_,rfl,k⟩
 ·exact⟨_,rfl,T.aL.a,_,_,_,rfl,T.aL.gd _ _,rfl,rfl,_,_,rfl,.inr (.inr (.inr (.inr (.inr (.inr (.inl ⟨rfl,rfl⟩)))))),_,rfl,_,rfl,k⟩
 ·exact⟨_,rfl,T.aL.a,_,_,_,rfl,T.aL.gd _ _,rfl,rfl,_,_,rfl,.inr (.inr (.inr (.inr (.inr (.inr (.inr (.inl ⟨rfl,rfl⟩))))))),_,rfl,_,rfl,k⟩
 ·exact⟨_,rfl,T.aL.a,_,_,_,rfl,T.aL.gd _ _,rfl,rfl,_,_,rfl,.inr (.inr (.inr (.inr (.inr (.inr (.inr (.inr (.inl ⟨rfl,rfl⟩)))))))),_,rfl,_,rfl,k⟩
 ·exact⟨_,rfl,T.aL.a,_,_,_,rfl,T.aL.gd _ _,rfl,rfl,_,_,rfl,.inr (.inr (.inr (.inr (.inr (.inr (.inr (.inr (.inr (.inl ⟨rfl,rfl⟩))))))))),_,rfl,_,rfl,k⟩
 ·exact⟨_,rfl,T.aL.a,_,_,_,rfl,T.aL.gd _ _,rfl,rfl,_,_,rfl,.inr (.inr (.inr (.inr (.inr (.inr (.inr (.inr (.inr (.inr (⟨rfl,rfl⟩)))))))))),_,rfl,_,rfl,k⟩
def gR (T:Tx K mg):Addr→Sp→Prop:=fun f sp=>(f=T.kN.f∧sp=qA T)∨(f=T.kO.f∧sp=qB T)∨(f=T.ua.f∧sp=wx T)∨(f=T.ow.f∧sp=tG T)∨(f=T.tV.f∧sp=wg T)
theorem mZ {A:Around} (T:Tx K mg) (hr:du 11 A):∀f sp,gR T f sp→∃k fd ps,iq P w K mg base x8 k f fd ps sp∧du k A∧PySem.W.keepIn K (.ref f)=true∧gE K fd ps []:=by
 rintro f sp (⟨rfl,rfl⟩ | ⟨rfl,rfl⟩ | ⟨rfl,rfl⟩ | ⟨rfl,rfl⟩ | ⟨rfl,rfl⟩)
 ·exact⟨_,_,_,C8 T,hr.mono (by decide),T.kN.F.kp,T.kN.b⟩
 ·exact⟨_,_,_,C9 T,hr.mono (by decide),T.kO.F.kp,T.kO.b⟩
 ·exact⟨_,_,_,GO T,hr.mono (by decide),T.ua.F.kp,T.ua.b⟩
 ·exact⟨_,_,_,Ev T,hr.mono (by decide),T.ow.F.kp,T.ow.b⟩
 ·exact⟨_,_,_,Gz T,hr.mono (by decide),T.tV.F.kp,T.tV.b⟩
def og (T:Tx K mg):Sp:=fun vs H Q _=>∃(b r:Addr) (p:Int),vs= [.ref b,.int p,.ref r]∧((p=17∧qA T [.ref b,.ref r] H Q E0)∨(p=18∧qB T [.ref b,.ref r] H Q E0)∨(p=19∧wx T [.ref b,.ref r] H Q E0)∨(p=27∧tG T [.ref b,.ref r] H Q E0)∨(p=28∧wg T [.ref b,.ref r] H Q E0))
theorem nt (T:Tx K mg):cM P w base T.fV 12 (og T):=by
 refine T.fV.okA ia ?_
 rintro _ A _ s H _ Q E hr ⟨b,r,p,rfl,k⟩
 refine⟨_,(ac (aW 3 ia.nd (jN (FS T.bB) (pv 1)))
   (ae (aj (ml (i:=3) (gR T) rfl (Or.inl rfl) (mZ T hr) (ab (pv 0) (ab (pv 2) ad)))))),?_⟩
 rcases k with⟨rfl,k⟩ | ⟨rfl,k⟩ | ⟨rfl,k⟩ | ⟨rfl,k⟩ | ⟨rfl,k⟩
 ·exact⟨_,rfl,T.bB.a,_,_,_,rfl,T.bB.gd _ _,rfl,rfl,_,_,rfl,.inl ⟨rfl,rfl⟩,_,rfl,_,rfl,k⟩
 ·exact⟨_,rfl,T.bB.a,_,_,_,rfl,T.bB.gd _ _,rfl,rfl,_,_,rfl,.inr (.inl ⟨rfl,rfl⟩),_,rfl,_,rfl,k⟩
 ·exact⟨_,rfl,T.bB.a,_,_,_,rfl,T.bB.gd _ _,rfl,rfl,_,_,rfl,.inr (.inr (.inl ⟨rfl,rfl⟩)),_,rfl,_,rfl,k⟩
 ·exact⟨_,rfl,T.bB.a,_,_,_,rfl,T.bB.gd _ _,rfl,rfl,_,_,rfl,.inr (.inr (.inr (.inl ⟨rfl,rfl⟩))),_,rfl,_,rfl,k⟩
 ·exact⟨_,rfl,T.bB.a,_,_,_,rfl,T.bB.gd _ _,rfl,rfl,_,_,rfl,.inr (.inr (.inr (.inr (⟨rfl,rfl⟩)))),_,rfl,_,rfl,k⟩
def gS (T:Tx K mg):Addr→Sp→Prop:=fun f sp=>(f=T.rp.f∧sp=tP T)∨(f=T.wH.f∧sp=wk T)∨(f=T.rj.f∧sp=tI T)∨(f=T.mP.f∧sp=qF T)∨(f=T.j1.f∧sp=oj T)∨(f=T.re.f∧sp=tE T)∨(f=T.wI.f∧sp=wn T)
theorem m4 {A:Around} (T:Tx K mg) (hr:du 8 A):∀f sp,gS T f sp→∃k fd ps,iq P w K mg base x8 k f fd ps sp∧du k A∧PySem.W.keepIn K (.ref f)=true∧gE K fd ps []:=by
 rintro f sp (⟨rfl,rfl⟩ | ⟨rfl,rfl⟩ | ⟨rfl,rfl⟩ | ⟨rfl,rfl⟩ | ⟨rfl,rfl⟩ | ⟨rfl,rfl⟩ | ⟨rfl,rfl⟩)
 ·exact⟨_,_,_,Ey T,hr.mono (by decide),T.rp.F.kp,T.rp.b⟩
 ·exact⟨_,_,_,GF T,hr.mono (by decide),T.wH.F.kp,T.wH.b⟩
 ·exact⟨_,_,_,Ew T,hr.mono (by decide),T.rj.F.kp,T.rj.b⟩
 ·exact⟨_,_,_,Dd T,hr.mono (by decide),T.mP.F.kp,T.mP.b⟩
 ·exact⟨_,_,_,BQ T,hr.mono (by decide),T.j1.F.kp,T.j1.b⟩
 ·exact⟨_,_,_,Eu T,hr.mono (by decide),T.re.F.kp,T.re.b⟩
 ·exact⟨_,_,_,GH T,hr.mono (by decide),T.wI.F.kp,T.wI.b⟩
def oh (T:Tx K mg):Sp:=fun vs H Q _=>∃(b r:Addr) (p:Int),vs= [.ref b,.int p,.ref r]∧((p=20∧tP T [.ref b,.ref r] H Q E0)∨(p=21∧wk T [.ref b,.ref r] H Q E0)∨(p=22∧tI T [.ref b,.ref r] H Q E0)∨(p=23∧qF T [.ref b,.ref r] H Q E0)∨(p=24∧oj T [.ref b,.ref r] H Q E0)∨(p=25∧tE T [.ref b,.ref r] H Q E0)∨(p=26∧wn T [.ref b,.ref r] H Q E0))
theorem nu (T:Tx K mg):cM P w base T.fW 9 (oh T):=by
 refine T.fW.okA ib ?_
 rintro _ A _ s H _ Q E hr ⟨b,r,p,rfl,k⟩
 refine⟨_,(ac (aW 3 ib.nd (jN (FS T.bq) (pv 1)))
   (ae (aj (ml (i:=3) (gS T) rfl (Or.inl rfl) (m4 T hr) (ab (pv 0) (ab (pv 2) ad)))))),?_⟩
 rcases k with⟨rfl,k⟩ | ⟨rfl,k⟩ | ⟨rfl,k⟩ | ⟨rfl,k⟩ | ⟨rfl,k⟩ | ⟨rfl,k⟩ | ⟨rfl,k⟩
 ·exact⟨_,rfl,T.bq.a,_,_,_,rfl,T.bq.gd _ _,rfl,rfl,_,_,rfl,.inl ⟨rfl,rfl⟩,_,rfl,_,rfl,k⟩
 ·exact⟨_,rfl,T.bq.a,_,_,_,rfl,T.bq.gd _ _,rfl,rfl,_,_,rfl,.inr (.inl ⟨rfl,rfl⟩),_,rfl,_,rfl,k⟩
 ·exact⟨_,rfl,T.bq.a,_,_,_,rfl,T.bq.gd _ _,rfl,rfl,_,_,rfl,.inr (.inr (.inl ⟨rfl,rfl⟩)),_,rfl,_,rfl,k⟩
 ·exact⟨_,rfl,T.bq.a,_,_,_,rfl,T.bq.gd _ _,rfl,rfl,_,_,rfl,.inr (.inr (.inr (.inl ⟨rfl,rfl⟩))),_,rfl,_,rfl,k⟩
 ·exact⟨_,rfl,T.bq.a,_,_,_,rfl,T.bq.gd _ _,rfl,rfl,_,_,rfl,.inr (.inr (.inr (.inr (.inl ⟨rfl,rfl⟩)))),_,rfl,_,rfl,k⟩
 ·exact⟨_,rfl,T.bq.a,_,_,_,rfl,T.bq.gd _ _,rfl,rfl,_,_,rfl,.inr (.inr (.inr (.inr (.inr (.inl ⟨rfl,rfl⟩))))),_,rfl,_,rfl,k⟩
 ·exact⟨_,rfl,T.bq.a,_,_,_,rfl,T.bq.gd _ _,rfl,rfl,_,_,rfl,.inr (.inr (.inr (.inr (.inr (.inr (⟨rfl,rfl⟩)))))),_,rfl,_,rfl,k⟩
def rG (T:Tx K mg):Sp:=fun vs H Q _=>∃(p:Int),vs= [.int p]∧Q (.bl (AA [(0,.ref T.t8.f),(1,.ref T.z5.f),(2,.ref T.t7.f),(3,.ref T.t9.f),(4,.ref T.tU.f),(5,.ref T.kR.f),(6,.ref T.oI.f),(7,.ref T.zY.f),(8,.ref T.tX.f),(9,.ref T.tW.f),(10,.ref T.oG.f)] p).isSome) H
theorem rA (T:Tx K mg):cM P w base T.i4 1 (rG T):=by
 refine T.i4.okA rD ?_
 rintro _ A _ s H _ Q E hr ⟨p,rfl,k⟩
 refine⟨_,(ae (aj (EB (pv 0) (FS T.aL)))),?_⟩
 exact⟨_,rfl,T.aL.a,_,p,rfl,T.aL.gd _ _,rfl,k⟩
def vd (T:Tx K mg):Sp:=fun vs H Q _=>∃(p:Int),vs= [.int p]∧Q (.bl (AA [(11,.ref T.oJ.f),(12,.ref T.kM.f),(13,.ref T.i7.f),(14,.ref T.kS.f),(15,.ref T.z4.f),(16,.ref T.tY.f)] p).isSome) H
theorem uw (T:Tx K mg):cM P w base T.kQ 1 (vd T):=by
 refine T.kQ.okA uW ?_
 rintro _ A _ s H _ Q E hr ⟨p,rfl,k⟩
 refine⟨_,(ae (aj (EB (pv 0) (FS T.bv)))),?_⟩
 exact⟨_,rfl,T.bv.a,_,p,rfl,T.bv.gd _ _,rfl,k⟩
def tK (T:Tx K mg):Sp:=fun vs H Q _=>∃(p:Int),vs= [.int p]∧Q (.bl (AA [(17,.ref T.kN.f),(18,.ref T.kO.f),(19,.ref T.ua.f),(27,.ref T.ow.f),(28,.ref T.tV.f)] p).isSome) H
theorem sO (T:Tx K mg):cM P w base T.jE 1 (tK T):=by
 refine T.jE.okA tq ?_
 rintro _ A _ s H _ Q E hr ⟨p,rfl,k⟩
 refine⟨_,(ae (aj (EB (pv 0) (FS T.bB)))),?_⟩
 exact⟨_,rfl,T.bB.a,_,p,rfl,T.bB.gd _ _,rfl,k⟩
theorem vy {ns l:List Int} {i:Nat} {z:Int} (h:ns.drop i=l) (hz:z∈l):z∈ns:=List.mem_of_mem_drop (by rw [h];exact hz)
theorem KM {ns:List Int} {i:Nat} {a b c:Int} {wa rest:List Int} (hl:ns.length≤7500) (h:ns.drop i=a::b::c::(wa++rest)):wa.length≤7500:=by
 have:=congrArg List.length h
 simp only [List.length_drop,List.length_cons,List.length_append] at this
 omega
theorem kx {H H1:Hp} {A:Hp→List Addr→Nat→Prop} {B:Nat→Prop} {C D:Hp→Addr→Prop} (ki:KI H H1) (kk:∀H' q as' pos',A H' as' pos'→B pos'→C H' q→KI H H'→NF H q→D H' q):∀H' q as' pos',A H' as' pos'→B pos'→C H' q→KI H1 H'→NF H1 q→D H' q:=
 fun H2 p as2 pos2 w2 d2 e2 k2 n2=>kk H2 p as2 pos2 w2 d2 e2 (ki.trans k2) fun x xs q=>n2 x xs (ki x xs q)
def wd (T:Tx K mg):Sp:=fun vs H Q _=>∃(G:Gh) (b r l a:Addr) (as:List Addr) (S:State) (ns:List Int) (pos:Nat) (p:Nat) (cl:List Int) (xs:List (List Int)) (rest:List Int),vs= [.ref b,.ref r]∧Wd G T H b r l a as S ns pos∧ns.drop pos=(p:Int)::(cl++PyFlat.putRows xs++rest)∧PyVbdeab.shape (p:Int)=some (cl.length,xs.length)∧p≤28∧iy ns∧ns.length≤7500∧
 ∀(H':Hp) (q:Addr) (as':List Addr) (pos':Nat),Wd G T H' b r l a as' (does S (((p:Int)::cl)::xs)).1 ns pos'→ns.drop pos'=rest→H' q=some (.lst ((does S (((p:Int)::cl)::xs)).2.map V.int))→KI H H'→NF H q→Q (.ref q) H'
theorem vD (T:Tx K mg):cM P w base T.lW 13 (wd T):=by
 refine T.lW.okA mD ?_
 rintro _ A _ s H _ Q E hr ⟨G,b,r,l,a,as,S,ns,pos,p,cl,xs,rest,rfl,W,hd,hsh,hp28,hsm,hln,kk⟩
 refine⟨_,(ac (aW 2 mD.nd (dm (pv 1) T.au (ah T) hr))
   (ac (aQ (aP (be T.i4 (rA T) hr (ab (pv 2) ad))) (ae (aj (be T.ft (mh T) hr (ab (pv 0) (ab (pv 2) (ab (pv 1) ad)))))) aE)
   (ac (aQ (aP (be T.kQ (uw T) hr (ab (pv 2) ad))) (ae (aj (be T.gC (pA T) hr (ab (pv 0) (ab (pv 2) (ab (pv 1) ad)))))) aE)
   (ac (aQ (aP (be T.jE (sO T) hr (ab (pv 2) ad))) (ae (aj (be T.fV (nt T) hr (ab (pv 0) (ab (pv 2) (ab (pv 1) ad)))))) aE)
   (ae (aj (be T.fW (nu T) hr (ab (pv 0) (ab (pv 2) (ab (pv 1) ad)))))))))),?_⟩
 obtain⟨g1,hd1⟩:=jf hd
 obtain⟨dr,hr0⟩:=id W.rd
 refine⟨_,rfl,r,dr,_,rfl,hr0,rfl,r,a,pos,ns,_,rfl,⟨dr,hr0⟩,W.sq,g1,fun H1 hr1 kp1=> ?_⟩
 have W1:=W.reader hr1 kp1
 have ki1:=KI.keep1 kp1 hr0
 match p,cl,xs,hp28,hsh,hd1,kk with
 | 0,[k,x],[],_,_,hd1,kk=>
  have hd1:ns.drop (pos+1)=k::x::rest:=by rw [hd1];rfl
  exact⟨_,rfl,0,rfl,_,rfl,⟨_,rfl,_,rfl,_,rfl,b,r,0,rfl,.inl ⟨rfl,G,b,r,l,a,as,S,ns,_,.seed k x,rest,rfl,W1,⟨k,x,hd1,rfl⟩,kx ki1 kk⟩⟩⟩
 | 1,[k],[],_,_,hd1,kk=>
  have hd1:ns.drop (pos+1)=k::rest:=by rw [hd1];rfl
  exact⟨_,rfl,1,rfl,_,rfl,⟨_,rfl,_,rfl,_,rfl,b,r,1,rfl,.inr (.inl ⟨rfl,G,b,r,l,a,as,S,ns,_,.raw k,rest,rfl,W1,⟨k,hd1,rfl⟩,kx ki1 kk⟩)⟩⟩
 | 2,[k,n],[],_,_,hd1,kk=>
  have hd1:ns.drop (pos+1)=k::n::rest:=by rw [hd1];rfl
  exact⟨_,rfl,2,rfl,_,rfl,⟨_,rfl,_,rfl,_,rfl,b,r,2,rfl,.inr (.inr (.inl ⟨rfl,G,b,r,l,a,as,S,ns,_,.raws k n,rest,rfl,W1,⟨k,n,hd1,rfl⟩,kx ki1 kk⟩))⟩⟩
 | 3,[k,n],[],_,_,hd1,kk=>
  have hd1:ns.drop (pos+1)=k::n::rest:=by rw [hd1];rfl
  exact⟨_,rfl,3,rfl,_,rfl,⟨_,rfl,_,rfl,_,rfl,b,r,3,rfl,.inr (.inr (.inr (.inl ⟨rfl,G,b,r,l,a,as,S,ns,_,.skip k n,rest,rfl,W1,⟨k,n,hd1,rfl⟩,kx ki1 kk⟩)))⟩⟩
 | 4,[k,n],[],_,_,hd1,kk=>
  have hd1:ns.drop (pos+1)=k::n::rest:=by rw [hd1];rfl
  exact⟨_,rfl,4,rfl,_,rfl,⟨_,rfl,_,rfl,_,rfl,b,r,4,rfl,.inr (.inr (.inr (.inr (.inl ⟨rfl,G,b,r,l,a,as,S,ns,_,.back k n,rest,rfl,W1,⟨k,n,hd1,rfl⟩,kx ki1 kk⟩))))⟩⟩
 | 5,[k,n],[],_,_,hd1,kk=>
  have hd1:ns.drop (pos+1)=k::n::rest:=by rw [hd1];rfl
  exact⟨_,rfl,5,rfl,_,rfl,⟨_,rfl,_,rfl,_,rfl,b,r,5,rfl,.inr (.inr (.inr (.inr (.inr (.inl ⟨rfl,G,b,r,l,a,as,S,ns,_,.mirror k n,rest,rfl,W1,⟨k,n,hd1,rfl⟩,kx ki1 kk⟩)))))⟩⟩
 | 6,[k],[],_,_,hd1,kk=>
  have hd1:ns.drop (pos+1)=k::rest:=by rw [hd1];rfl
  exact⟨_,rfl,6,rfl,_,rfl,⟨_,rfl,_,rfl,_,rfl,b,r,6,rfl,.inr (.inr (.inr (.inr (.inr (.inr (.inl ⟨rfl,G,b,r,l,a,as,S,ns,_,.where_ k,rest,rfl,W1,⟨k,hd1,rfl⟩,kx ki1 kk⟩))))))⟩⟩
 | 7,[x,y],[],_,_,hd1,kk=>
  have hd1:ns.drop (pos+1)=x::y::rest:=by rw [hd1];rfl
  exact⟨_,rfl,7,rfl,_,rfl,⟨_,rfl,_,rfl,_,rfl,b,r,7,rfl,.inr (.inr (.inr (.inr (.inr (.inr (.inr (.inl ⟨rfl,G,b,r,l,a,as,S,ns,_,.far x y,rest,rfl,W1,⟨x,y,hd1,rfl⟩,kx ki1 kk⟩)))))))⟩⟩
 | 8,[k,y],[],_,_,hd1,kk=>
  have hd1:ns.drop (pos+1)=k::y::rest:=by rw [hd1];rfl
  exact⟨_,rfl,8,rfl,_,rfl,⟨_,rfl,_,rfl,_,rfl,b,r,8,rfl,.inr (.inr (.inr (.inr (.inr (.inr (.inr (.inr (.inl ⟨rfl,G,b,r,l,a,as,S,ns,_,.goto k y,rest,rfl,W1,⟨k,y,hd1,rfl⟩,kx ki1 kk⟩))))))))⟩⟩
 | 9,[k,j],[],_,_,hd1,kk=>
  have hd1:ns.drop (pos+1)=k::j::rest:=by rw [hd1];rfl
  exact⟨_,rfl,9,rfl,_,rfl,⟨_,rfl,_,rfl,_,rfl,b,r,9,rfl,.inr (.inr (.inr (.inr (.inr (.inr (.inr (.inr (.inr (.inl ⟨rfl,G,b,r,l,a,as,S,ns,_,.copy k j,rest,rfl,W1,⟨k,j,hd1,rfl⟩,kx ki1 kk⟩)))))))))⟩⟩
 | 10,[k,n,g],[],_,_,hd1,kk=>
  have hd1:ns.drop (pos+1)=k::n::g::rest:=by rw [hd1];rfl
  exact⟨_,rfl,10,rfl,_,rfl,⟨_,rfl,_,rfl,_,rfl,b,r,10,rfl,.inr (.inr (.inr (.inr (.inr (.inr (.inr (.inr (.inr (.inr (⟨rfl,G,b,r,l,a,as,S,ns,_,.space k n g,rest,rfl,W1,⟨k,n,g,hd1,rfl⟩,kx ki1 kk⟩))))))))))⟩⟩
 | 11,[k,u,v],[],_,_,hd1,kk=>
  have hd1:ns.drop (pos+1)=k::u::v::rest:=by rw [hd1];rfl
  exact⟨_,rfl,11,rfl,_,rfl,⟨_,rfl,11,rfl,_,rfl,⟨_,rfl,_,rfl,_,rfl,b,r,11,rfl,.inl ⟨rfl,G,b,r,l,a,as,S,ns,_,.whole k u v,rest,rfl,W1,⟨k,u,v,hd1,rfl⟩,kx ki1 kk⟩⟩⟩⟩
 | 12,[k],[ws],_,_,hd1,kk=>
  have hd1:ns.drop (pos+1)=k::(ws.length:Int)::(ws++rest):=by rw [hd1];simp [PyFlat.putRows,PyFlat.putRow]
  exact⟨_,rfl,12,rfl,_,rfl,⟨_,rfl,12,rfl,_,rfl,⟨_,rfl,_,rfl,_,rfl,b,r,12,rfl,.inr (.inl ⟨rfl,G,b,r,l,a,as,S,ns,_,.choose k ws,rest,rfl,W1,⟨k,ws.length,ws,hd1,rfl,rfl⟩,kx ki1 kk⟩)⟩⟩⟩
 | 13,[k,n],[],_,_,hd1,kk=>
  have hd1:ns.drop (pos+1)=k::n::rest:=by rw [hd1];rfl
  exact⟨_,rfl,13,rfl,_,rfl,⟨_,rfl,13,rfl,_,rfl,⟨_,rfl,_,rfl,_,rfl,b,r,13,rfl,.inr (.inr (.inl ⟨rfl,G,b,r,l,a,as,S,ns,_,.shuffle k n,rest,rfl,W1,⟨k,n,hd1,rfl⟩,kx ki1 kk⟩))⟩⟩⟩
 | 14,[k,n,m],[],_,_,hd1,kk=>
  have hd1:ns.drop (pos+1)=k::n::m::rest:=by rw [hd1];rfl
  exact⟨_,rfl,14,rfl,_,rfl,⟨_,rfl,14,rfl,_,rfl,⟨_,rfl,_,rfl,_,rfl,b,r,14,rfl,.inr (.inr (.inr (.inl ⟨rfl,G,b,r,l,a,as,S,ns,_,.sample k n m,rest,rfl,W1,⟨k,n,m,hd1,rfl⟩,kx ki1 kk⟩)))⟩⟩⟩
 | 15,[k],[ws],_,_,hd1,kk=>
  have hd1:ns.drop (pos+1)=k::(ws.length:Int)::(ws++rest):=by rw [hd1];simp [PyFlat.putRows,PyFlat.putRow]
  exact⟨_,rfl,15,rfl,_,rfl,⟨_,rfl,15,rfl,_,rfl,⟨_,rfl,_,rfl,_,rfl,b,r,15,rfl,.inr (.inr (.inr (.inr (.inl ⟨rfl,G,b,r,l,a,as,S,ns,_,.mix k ws,rest,rfl,W1,⟨k,ws.length,ws,hd1,rfl,rfl⟩,kx ki1 kk⟩))))⟩⟩⟩
 | 16,[k,m],[ws],_,_,hd1,kk=>
  have hd1:ns.drop (pos+1)=k::m::(ws.length:Int)::(ws++rest):=by rw [hd1];simp [PyFlat.putRows,PyFlat.putRow]
  exact⟨_,rfl,16,rfl,_,rfl,⟨_,rfl,16,rfl,_,rfl,⟨_,rfl,_,rfl,_,rfl,b,r,16,rfl,.inr (.inr (.inr (.inr (.inr (⟨rfl,G,b,r,l,a,as,S,ns,_,.lots k m ws,rest,rfl,W1,⟨k,m,ws.length,ws,hd1,rfl,rfl⟩,kx ki1 kk⟩)))))⟩⟩⟩
 | 17,[d,kind],[wa,wb],_,_,hd1,kk=>
  have hd1:ns.drop (pos+1)=d::kind::(wa.length:Int)::(wa++((wb.length:Int)::(wb++rest))):=by rw [hd1];simp [PyFlat.putRows,PyFlat.putRow]
  exact⟨_,rfl,17,rfl,_,rfl,⟨_,rfl,17,rfl,_,rfl,⟨_,rfl,17,rfl,_,rfl,⟨_,rfl,_,rfl,_,rfl,b,r,17,rfl,.inl ⟨rfl,G,b,r,l,a,as,S,ns,_,.define d kind wa wb,rest,rfl,W1,⟨d,kind,wa.length,wa,wb.length,wb,hd1,rfl,rfl,rfl,fun z hz=>hsm z (vy hd1 (by simp [hz])),fun z hz=>hsm z (vy hd1 (by simp [hz])),KM hln hd1⟩,kx ki1 kk⟩⟩⟩⟩⟩
 | 18,[d],[],_,_,hd1,kk=>
  have hd1:ns.drop (pos+1)=d::rest:=by rw [hd1];rfl
  exact⟨_,rfl,18,rfl,_,rfl,⟨_,rfl,18,rfl,_,rfl,⟨_,rfl,18,rfl,_,rfl,⟨_,rfl,_,rfl,_,rfl,b,r,18,rfl,.inr (.inl ⟨rfl,G,b,r,l,a,as,S,ns,_,.forget d,rest,rfl,W1,⟨d,hd1,rfl⟩,kx ki1 kk⟩)⟩⟩⟩⟩
 | 19,[d],[],_,_,hd1,kk=>
  have hd1:ns.drop (pos+1)=d::rest:=by rw [hd1];rfl
  exact⟨_,rfl,19,rfl,_,rfl,⟨_,rfl,19,rfl,_,rfl,⟨_,rfl,19,rfl,_,rfl,⟨_,rfl,_,rfl,_,rfl,b,r,19,rfl,.inr (.inr (.inl ⟨rfl,G,b,r,l,a,as,S,ns,_,.told d,rest,rfl,W1,⟨d,hd1,rfl⟩,kx ki1 kk⟩))⟩⟩⟩⟩
 | 20,[d,u],[],_,_,hd1,kk=>
  have hd1:ns.drop (pos+1)=d::u::rest:=by rw [hd1];rfl
  exact⟨_,rfl,20,rfl,_,rfl,⟨_,rfl,20,rfl,_,rfl,⟨_,rfl,20,rfl,_,rfl,⟨_,rfl,_,rfl,_,rfl,b,r,20,rfl,.inl ⟨rfl,G,b,r,l,a,as,S,ns,_,.value d u,rest,rfl,W1,⟨d,u,hd1,rfl⟩,kx ki1 kk⟩⟩⟩⟩⟩
 | 21,[d,k],[],_,_,hd1,kk=>
  have hd1:ns.drop (pos+1)=d::k::rest:=by rw [hd1];rfl
  exact⟨_,rfl,21,rfl,_,rfl,⟨_,rfl,21,rfl,_,rfl,⟨_,rfl,21,rfl,_,rfl,⟨_,rfl,_,rfl,_,rfl,b,r,21,rfl,.inr (.inl ⟨rfl,G,b,r,l,a,as,S,ns,_,.draw d k,rest,rfl,W1,⟨d,k,hd1,rfl⟩,kx ki1 kk⟩)⟩⟩⟩⟩
 | 22,[d,k,n],[],_,_,hd1,kk=>
  have hd1:ns.drop (pos+1)=d::k::n::rest:=by rw [hd1];rfl
  exact⟨_,rfl,22,rfl,_,rfl,⟨_,rfl,22,rfl,_,rfl,⟨_,rfl,22,rfl,_,rfl,⟨_,rfl,_,rfl,_,rfl,b,r,22,rfl,.inr (.inr (.inl ⟨rfl,G,b,r,l,a,as,S,ns,_,.draws d k n,rest,rfl,W1,⟨d,k,n,hd1,rfl⟩,kx ki1 kk⟩))⟩⟩⟩⟩
 | 23,[d],[],_,_,hd1,kk=>
  have hd1:ns.drop (pos+1)=d::rest:=by rw [hd1];rfl
  exact⟨_,rfl,23,rfl,_,rfl,⟨_,rfl,23,rfl,_,rfl,⟨_,rfl,23,rfl,_,rfl,⟨_,rfl,_,rfl,_,rfl,b,r,23,rfl,.inr (.inr (.inr (.inl ⟨rfl,G,b,r,l,a,as,S,ns,_,.shares d,rest,rfl,W1,⟨d,hd1,rfl⟩,kx ki1 kk⟩)))⟩⟩⟩⟩
 | 24,[d],[],_,_,hd1,kk=>
  have hd1:ns.drop (pos+1)=d::rest:=by rw [hd1];rfl
  exact⟨_,rfl,24,rfl,_,rfl,⟨_,rfl,24,rfl,_,rfl,⟨_,rfl,24,rfl,_,rfl,⟨_,rfl,_,rfl,_,rfl,b,r,24,rfl,.inr (.inr (.inr (.inr (.inl ⟨rfl,G,b,r,l,a,as,S,ns,_,.moments d,rest,rfl,W1,⟨d,hd1,rfl⟩,kx ki1 kk⟩))))⟩⟩⟩⟩
 | 25,[d,p,q,t],[],_,_,hd1,kk=>
  have hd1:ns.drop (pos+1)=d::p::q::t::rest:=by rw [hd1];rfl
  exact⟨_,rfl,25,rfl,_,rfl,⟨_,rfl,25,rfl,_,rfl,⟨_,rfl,25,rfl,_,rfl,⟨_,rfl,_,rfl,_,rfl,b,r,25,rfl,.inr (.inr (.inr (.inr (.inr (.inl ⟨rfl,G,b,r,l,a,as,S,ns,_,.below d p q t,rest,rfl,W1,⟨d,p,q,t,hd1,rfl,hsm q (vy hd1 (by simp))⟩,kx ki1 kk⟩)))))⟩⟩⟩⟩
 | 26,[d,p,q,t],[],_,_,hd1,kk=>
  have hd1:ns.drop (pos+1)=d::p::q::t::rest:=by rw [hd1];rfl
  exact⟨_,rfl,26,rfl,_,rfl,⟨_,rfl,26,rfl,_,rfl,⟨_,rfl,26,rfl,_,rfl,⟨_,rfl,_,rfl,_,rfl,b,r,26,rfl,.inr (.inr (.inr (.inr (.inr (.inr (⟨rfl,G,b,r,l,a,as,S,ns,_,.hits d p q t,rest,rfl,W1,⟨d,p,q,t,hd1,rfl,hsm q (vy hd1 (by simp))⟩,kx ki1 kk⟩))))))⟩⟩⟩⟩
 | 27,[d,e,f,v,w],[],_,_,hd1,kk=>
  have hd1:ns.drop (pos+1)=d::e::f::v::w::rest:=by rw [hd1];rfl
  exact⟨_,rfl,27,rfl,_,rfl,⟨_,rfl,27,rfl,_,rfl,⟨_,rfl,27,rfl,_,rfl,⟨_,rfl,_,rfl,_,rfl,b,r,27,rfl,.inr (.inr (.inr (.inl ⟨rfl,G,b,r,l,a,as,S,ns,_,.blend d e f v w,rest,rfl,W1,⟨d,e,f,v,w,hd1,rfl⟩,kx ki1 kk⟩)))⟩⟩⟩⟩
 | 28,[d,e,p,q,t,s],[],_,_,hd1,kk=>
  have hd1:ns.drop (pos+1)=d::e::p::q::t::s::rest:=by rw [hd1];rfl
  exact⟨_,rfl,28,rfl,_,rfl,⟨_,rfl,28,rfl,_,rfl,⟨_,rfl,28,rfl,_,rfl,⟨_,rfl,_,rfl,_,rfl,b,r,28,rfl,.inr (.inr (.inr (.inr (⟨rfl,G,b,r,l,a,as,S,ns,_,.bend d e p q t s,rest,rfl,W1,⟨d,e,p,q,t,s,hd1,rfl,hsm q (vy hd1 (by simp)),hsm s (vy hd1 (by simp))⟩,kx ki1 kk⟩))))⟩⟩⟩⟩
theorem Es {α:Type} {l:List α} {y:α} (h:l.Nodup) (hy:y ∉ l):(l++ [y]).Nodup:=by
 rw [List.nodup_append]
 refine⟨h,by simp,fun a ha b hb=> ?_⟩
 rw [List.mem_singleton.mp hb]
 intro e
 rw [e] at ha
 exact hy ha
def zE (T:Tx K mg):Sp:=fun vs H Q _=>∃(p dx:Addr),vs= [.ref p]∧H p=some (.ins T.aN.C dx [])∧∀(H':Hp) (l l2:Addr) (as:List Addr),H' p=some (.ins T.aN.C dx (Mq l l2))→H' l=some (.lst (as.map V.ref))→as.Nodup→as.length=64→(∀(j:Nat) (x:Addr),as[j]?=some x→bD T H' x ⟨j,j,0,false⟩)→H' l2=some (.lst (List.replicate 64 .non))→l≠l2→(∀b o,H b=some o→b≠p→H' b=some o)→Q .non H'
theorem yP (T:Tx K mg):pk mg P w base T.lF 3 (zE T):=by
 refine T.lF.okA kt ?_
 rintro _ A _ s H _ Q E hr ⟨p,dx,rfl,hp,k⟩
 refine⟨_,(ac (bS (pv 0) (iB (own:= [("k",1)]) rfl kt.nd (bR rfl T.cr (ab (dI T.wJ) ad)) (bK (N:= ["self","k"]) (sc:=ag lP) (by decide+kernel)) (fun _ _ _ _ _=>(i9 1 kt.nd)) (fun _ _ _ _ _=>cQ) (fun _ _ _ _ _=>(BT (T.aI.mk' T.dJ) (fz T) (hr.mono (by decide)) rfl T.aI.mgC T.dJ.b .nil wU (ab (pv 1) ad)))) rfl)
   (ae (bS (pv 0) (aB Il (aG (ab ck ad)) (dI T.D6)) rfl))),?_⟩
 refine⟨64,rfl,by decide,by decide,fun D hD=> ?_⟩
 have npD:p≠D:=aw hp hD
 refine eY (n:=64) (fun i H'=>∃as:List Addr,H' D=some (.lst (as.map V.ref))∧as.Nodup∧as.length=i∧(∀(j:Nat) (x:Addr),as[j]?=some x→bD T H' x ⟨j,j,0,false⟩)∧aC H H') ?_ ?_ ?_
 ·exact⟨[],af,List.nodup_nil,rfl,fun j x h=>by simp at h,aC.laid hD⟩
 ·rintro i H1 hi ⟨as,h1,h2,h3,h4,s1⟩
  refine⟨rfl,_,rfl,?_⟩
  intro y dy ny nd _
  refine cn ny nd (fun H2 hy s2=> ?_) ⟨i,by rw [Int.zero_add],rfl⟩
  have nyD:y≠D:=Ne.symm (aw h1 ny)
  have nya:y ∉ as:=fun m=>by
   obtain⟨j,hj,e⟩:=List.getElem_of_mem m
   obtain⟨d,h⟩:=h4 j y (by rw [List.getElem?_eq_getElem hj,e])
   rw [ny] at h
   cases h
  refine⟨_,s2 _ _ h1,(by rw [List.length_map,h3];show i<2 ^ 24;omega),as++ [y],?_,Es h2 nya,by rw [List.length_append,h3];rfl,fun j x hx=> ?_,fun b o e=> ?_⟩
  ·rw [af,List.map_append]
   rfl
  ·rcases Nat.lt_or_ge j as.length with q | q
   ·rw [List.getElem?_append_left q] at hx
    obtain⟨d,h⟩:=h4 j x hx
    have h':=s2 _ _ h
    exact⟨d,by rw [ak (bb h' (s2 _ _ h1) (by intro z;cases z))];exact h'⟩
   ·rw [List.getElem?_append_right q] at hx
    have hj:j - as.length=0:=by
     have:=(List.getElem?_eq_some_iff.mp hx).1
     simp at this
     omega
    rw [hj] at hx
    have ej:j=i:=by omega
    cases hx
    subst ej
    exact⟨dy,by rw [ak nyD];exact hy⟩
  ·have nbD:b≠D:=aw e hD
   rw [ak nbD]
   exact s2 _ _ (s1 _ _ e)
 ·rintro H1 ⟨as,h1,h2,h3,h4,s1⟩
  refine⟨_,rfl,p,_,dx,[],rfl,s1 _ _ hp,T.aN.cl,T.aN.no _ (by decide),(by show 0<1000;decide),?_⟩
  refine⟨(by show 1≤sizeLine;decide),fun A hA=>⟨A,64,_,rfl,rfl,af,by decide,by decide,(by show 1*64≤2 ^ 24;decide),fun B hB=> ?_⟩⟩
  have npA:p≠A:=aw af hA
  have hpA:=aC.laid (o:= .lst [V.non]) hA p _ af
  have npB:p≠B:=aw hpA hB
  have up:∀c o,H1 c=some o→c≠p→c≠A∧c≠B:=fun c o e n=>by
   have e1:bC H1 p (.ins T.aN.C dx (jo "streams" (.ref D) [])) c=some o:=by rw [ak n];exact e
   exact⟨aw e1 hA,aw (aC.laid (o:= .lst [V.non]) hA c _ e1) hB⟩
  refine⟨_,rfl,p,_,dx,_,rfl,aC.laid hB p _ hpA,T.aN.cl,T.aN.no _ (by decide),(by show 1<1000;decide),?_⟩
  have keep:∀c o (x y z:HO),H1 c=some o→c≠p→bC (bC (bC (bC H1 p x) A y) B z) p (.ins T.aN.C dx (Mq D B)) c=some o:=fun c o x y z e n=>by
   obtain⟨n1,n2⟩:=up c o e n
   rw [ak n,ak n2,ak n1,ak n]
   exact e
  refine k _ D B as af (keep _ _ _ _ _ h1 (Ne.symm npD)) h2 h3 (fun j x hx=> ?_) ?_ (up _ _ h1 (Ne.symm npD)).2 fun b o e hb=>keep _ _ _ _ _ (s1 _ _ e) hb
  ·obtain⟨d,h⟩:=h4 j x hx
   exact⟨d,keep _ _ _ _ _ h (bb h (s1 _ _ hp) (BE (by show ¬4=0;decide)))⟩
  ·rw [ak (Ne.symm npB),af]
   rfl
theorem Wd.listAt {T:Tx K mg} {H:Hp} {b r l a:Addr} {as:List Addr} {S:State} {ns:List Int} {pos:Nat} (W:Wd G T H b r l a as S ns pos) (ys:List V):Wd G T (bC H G.o (.lst ys)) b r l a as S ns pos:=by
 obtain⟨⟨dx,hb⟩,⟨dr,hr⟩,hq,hl,nd,len,sl,at_,ok,dw⟩:=W
 obtain⟨xs,h⟩:=dw.oo
 have kp:∀c u,H c=some u→c≠G.o→bC H G.o (.lst ys) c=some u:=fun c u e n=>by rw [ak n];exact e
 have kq:KQ (G.av l) H (bC H G.o (.lst ys)):= .set (by unfold Gh.av;simp) h
 refine⟨⟨dx,kp _ _ hb (bb hb h (by intro z;cases z))⟩,⟨dr,kp _ _ hr (bb hr h (by intro z;cases z))⟩,hq.keep (fun _ _ _ e=>kp _ _ e (bb e h (by intro z;cases z))),kp _ _ hl dw.n1,nd,len,sl,fun j x t h1 h2=> ?_,ok,?_⟩
 ·obtain⟨d,h'⟩:=at_ j x t h1 h2
  exact⟨d,kp _ _ h' (bb h' h (by intro z;cases z))⟩
 ·obtain⟨⟨vs,h1,h2,h3⟩,dlen,_,n1,n2,n3,tb,to,bm⟩:=dw
  exact⟨⟨vs,kp _ _ h1 n2,h2,fun j v x a b=>(h3 j v x a b).kp kq.toKP⟩,dlen,⟨ys,af⟩,n1,n2,n3,kq.t _ tb,to,bm.keep kq.x⟩
theorem Bl {j:Nat} {t:Stream} (h:Vbdeab.start.streams[j]?=some t):t=⟨j,j,0,false⟩∧j<64:=by
 unfold Vbdeab.start at h
 simp only [List.getElem?_map] at h
 cases e:(List.range 64)[j]? with
 | none=>rw [e] at h;cases h
 | some z=>
  rw [e] at h
  obtain⟨hj,ez⟩:=List.getElem?_eq_some_iff.mp e
  rw [List.getElem_range] at ez
  rw [List.length_range] at hj
  subst ez
  exact⟨(Option.some.inj h).symm,hj⟩
theorem EH {p:Int} (h:p<0∨28<p):PyVbdeab.shape p=none:=by
 unfold PyVbdeab.shape
 rw [if_neg (by omega),if_neg (by omega),if_neg (by omega),if_neg (by omega),if_neg (by omega),if_neg (by omega),if_neg (by omega),if_neg (by omega),if_neg (by omega),if_neg (by omega),if_neg (by omega),if_neg (by omega),if_neg (by omega),if_neg (by omega),if_neg (by omega),if_neg (by omega),if_neg (by omega),if_neg (by omega),if_neg (by omega),if_neg (by omega),if_neg (by omega),if_neg (by omega),if_neg (by omega),if_neg (by omega),if_neg (by omega),if_neg (by omega),if_neg (by omega),if_neg (by omega),if_neg (by omega)]
theorem DB {p:Int} {n k:Nat} (h:PyVbdeab.shape p=some (n,k)):0≤p∧p≤28:=by
 by_cases q:p<0∨28<p
 ·rw [EH q] at h
  cases h
 ·omega
theorem IV:∀(p:Nat) (cl:List Int) (xs:List (List Int)),p≤28→PyVbdeab.shape (p:Int)=some (cl.length,xs.length)→PyVbdeab.whole (((p:Int)::cl)::xs)=(((p:Int)::cl)::xs)
 | 0,[_,_],[],_,_=>rfl
 | 1,[_],[],_,_=>rfl
 | 2,[_,_],[],_,_=>rfl
 | 3,[_,_],[],_,_=>rfl
 | 4,[_,_],[],_,_=>rfl
 | 5,[_,_],[],_,_=>rfl
 | 6,[_],[],_,_=>rfl
 | 7,[_,_],[],_,_=>rfl
 | 8,[_,_],[],_,_=>rfl
 | 9,[_,_],[],_,_=>rfl
 | 10,[_,_,_],[],_,_=>rfl
 | 11,[_,_,_],[],_,_=>rfl
 | 12,[_],[_],_,_=>rfl
 | 13,[_,_],[],_,_=>rfl
 | 14,[_,_,_],[],_,_=>rfl
 | 15,[_],[_],_,_=>rfl
 | 16,[_,_],[_],_,_=>rfl
 | 17,[_,_],[_,_],_,_=>rfl
 | 18,[_],[],_,_=>rfl
 | 19,[_],[],_,_=>rfl
 | 20,[_,_],[],_,_=>rfl
 | 21,[_,_],[],_,_=>rfl
 | 22,[_,_,_],[],_,_=>rfl
 | 23,[_],[],_,_=>rfl
 | 24,[_],[],_,_=>rfl
 | 25,[_,_,_,_],[],_,_=>rfl
 | 26,[_,_,_,_],[],_,_=>rfl
 | 27,[_,_,_,_,_],[],_,_=>rfl
 | 28,[_,_,_,_,_,_],[],_,_=>rfl
theorem IU {c:List (List Int)} (h:PyFlat.okCall PyVbdeab.shape c):PyVbdeab.whole c=c:=by
 obtain⟨p,cl,xs,rfl,hs⟩:=h
 obtain⟨h1,h2⟩:=DB hs
 obtain⟨pn,rfl⟩:∃pn:Nat,p=(pn:Int):=⟨p.toNat,by omega⟩
 exact IV pn cl xs (by omega) hs
theorem CV {α:Type} {f:α→α}:∀{l:List α},(∀x∈l,f x=x)→l.map f=l
 | [],_=>rfl
 | a::l,h=>by rw [List.map_cons,h a List.mem_cons_self,CV fun x hx=>h x (List.mem_cons_of_mem _ hx)]
theorem G9 (x:List Int) (l:List (List Int)):PyFlat.told (x::l)=(x.length:Int)::(x++PyFlat.told l):=by
 unfold PyFlat.told
 rw [List.flatMap_cons]
 rfl
theorem IB {shape:Int→Option (Nat×Nat)} {c:List (List Int)} (h:PyFlat.okCall shape c) (rest:List (List (List Int))):∃(p:Int) (cl:List Int) (xs:List (List Int)),c=(p::cl)::xs∧shape p=some (cl.length,xs.length)∧PyFlat.put (c::rest)=p::(cl++PyFlat.putRows xs++PyFlat.put rest):=by
 obtain⟨p,cl,xs,rfl,hs⟩:=h
 refine⟨p,cl,xs,rfl,hs,?_⟩
 show(p::cl)++PyFlat.putRows xs++PyFlat.put rest=_
 simp
def u9 (T:Tx K mg):Sp:=fun vs H Q _=>∃(a Pl:Addr) (ns:List Int) (cs:List (List (List Int))),vs= [.ref a]∧wN K H a ns∧E7 T Pl∧Ac K mg Pl H∧TB Pl H∧PyFlat.calls PyVbdeab.shape ns.length ns=some cs∧iy ns∧ns.length≤7500∧(PyVbdeab.answers ns).length≤10000000∧∀(H':Hp) (p:Addr),H' p=some (.lst ((PyVbdeab.answers ns).map V.int))→Q (.ref p) H'
theorem BN (T:Tx K mg):cM P w base T.jY 14 (u9 T):=by
 refine T.jY.okA ic ?_
 rintro _ A _ s H _ Q E hr ⟨a,Pl,ns,cs,rfl,hs,hto,hbm,htb,hcs,hsm,hln,hlen,kk⟩
 refine⟨_,(ac (aW 1 ic.nd (Iu (T.aN.mk' T.lF) (yP T) (hr.mono (by decide)) rfl T.aN.mgC T.lF.b .nil wU))
   (ac (aW 2 ic.nd (xq T.lU (vB T) hr (ab (pv 0) ad)))
   (ac (aW 3 ic.nd (aG ad))
   (ac (jk PassesOwn.never (aS (aP (dm (pv 2) T.jC (sK T) hr))) (ac (aW 4 ic.nd (be T.lW (vD T) hr (ab (pv 1) (ab (pv 2) ad))))
   (ac (eU (oS PySem.F.plainAttrs_list PySem.F.slot_list_append PySem.F.type_list_append gI (pv 3) (ab (a5 aT (by rfl) T.eV PySem.boot_len (ab (pv 4) ad)) ad)))
   (ae (eU (oS PySem.F.plainAttrs_list PySem.F.slot_list_extend PySem.F.type_list_extend qU (pv 3) (ab (pv 4) ad)))))))
   (ae (aj (pv 3))))))),?_⟩
 obtain⟨eput,okc⟩:=PyFlat.put_calls _ _ _ hcs
 have eans:PyVbdeab.answers ns=PyFlat.told (PyFlat.played VbdeabNeutral.step VbdeabNeutral.start cs):=by
  unfold PyVbdeab.answers PyVbdeab.calls
  rw [hcs]
  show PyFlat.told (PyFlat.played _ _ (cs.map PyVbdeab.whole))=_
  rw [CV fun c hc=>IU (okc c hc)]
 intro b db nb ndb _
 refine⟨b,db,rfl,af,fun H1 l l2 as hb1 hl1 nd1 ln1 at1 hl2 nll kp1=>⟨rfl,?_⟩⟩
 have s1:aC H H1:=aC.made nb ndb kp1
 refine⟨_,rfl,?_⟩
 intro r dr nr ndr _
 refine cn nr ndr (fun H2 hr2 s2=> ?_) ⟨a,rfl,rfl⟩
 refine⟨Nat.zero_le _,fun o ho=> ?_⟩
 have s3:aC H2 (bC H2 o (.lst [])):=aC.laid ho
 have S3:aC H (bC H2 o (.lst [])):=(s1.trans s2).trans s3
 have W0:Wd ⟨o,l2,Pl⟩ T (bC H2 o (.lst [])) b r l a as Vbdeab.start ns 0:=by
  refine⟨⟨db,s3 _ _ (s2 _ _ hb1)⟩,⟨dr,s3 _ _ hr2⟩,hs.keep (fun _ _ _ e=>S3 _ _ e),s3 _ _ (s2 _ _ hl1),nd1,ln1,?_,fun j x t h1 h2=> ?_,fun t ht=> ?_,⟨⟨_,s3 _ _ (s2 _ _ hl2),List.length_replicate ..,fun j v x h1 h2=> ?_⟩,List.length_replicate ..,⟨[],af⟩,aw (s2 _ _ hl1) ho,aw (s2 _ _ hl2) ho,nll,htb.keep (fun _ _ e=>S3 _ _ e) (fun _ _ e=>S3 _ _ e),hto,hbm.keep fun _ _ _ e=>S3 _ _ e⟩⟩
  ·unfold Vbdeab.start
   simp
  ·obtain⟨e,_⟩:=Bl h2
   obtain⟨d,h⟩:=at1 j x h1
   rw [e]
   exact⟨d,s3 _ _ (s2 _ _ h)⟩
  ·obtain⟨j,hj,e⟩:=List.getElem_of_mem ht
   obtain⟨e2,hj2⟩:=Bl (List.getElem?_eq_getElem hj)
   rw [←e,e2]
   show j<18446744073709551616
   omega
  ·have hv:v= .non:=List.eq_of_mem_replicate (List.mem_of_getElem? h1)
   have hx:x=none:=List.eq_of_mem_replicate (List.mem_of_getElem? h2)
   rw [hv,hx]
   exact rfl
 refine⟨fun m σ H'=>∃(as':List Addr) (S:State) (pos:Nat) (cs':List (List (List Int))) (outs:List Int) (v:Option V),m=cs'.length∧σ= [some (.ref a),some (.ref b),some (.ref r),some (.ref o),v]∧Wd ⟨o,l2,Pl⟩ T H' b r l a as' S ns pos∧ns.drop pos=PyFlat.put cs'∧(∀c∈cs',PyFlat.okCall PyVbdeab.shape c)∧H' o=some (.lst (outs.map V.int))∧PyVbdeab.answers ns=outs++PyFlat.told (PyFlat.played VbdeabNeutral.step S cs'),⟨cs.length,as,Vbdeab.start,0,cs,[],none,rfl,rfl,W0,eput,okc,af,eans⟩,?_⟩
 rintro m σ H3 ⟨as3,S,pos,cs3,outs,v,rfl,rfl,W3,hd3,ok3,ho3,e3⟩
 obtain⟨dr3,hr3⟩:=id W3.rd
 refine⟨_,rfl,r,dr3,_,rfl,hr3,rfl,r,a,pos,ns,rfl,⟨dr3,hr3⟩,W3.sq,_,rfl,aU (fun hl=>⟨_,fun _ _ z=>z,?_⟩) (fun hl=> ?_)⟩
 ·have hl':=df hl
  cases cs3 with
  | nil=>
   exfalso
   have:=congrArg List.length hd3
   rw [List.length_drop] at this
   simp [PyFlat.put] at this
   omega
  | cons c cs4=>
   obtain⟨p,cl,xs,rfl,hsh,hput⟩:=IB (ok3 c List.mem_cons_self) cs4
   obtain⟨q0,q28⟩:=DB hsh
   obtain⟨pn,rfl⟩:∃pn:Nat,p=(pn:Int):=⟨p.toNat,by omega⟩
   rw [hput] at hd3
   have estep:VbdeabNeutral.step S (((pn:Int)::cl)::xs)=does S (((pn:Int)::cl)::xs):=rfl
   refine⟨_,rfl,_,rfl,⟨o,l2,Pl⟩,b,r,l,a,as3,S,ns,pos,pn,cl,xs,PyFlat.put cs4,rfl,W3,hd3,hsh,by omega,hsm,hln,fun H4 q as4 pos4 W4 hd4 hq4 ki4 nf4=> ?_⟩
   have ho4:=ki4 _ _ ho3
   have noq:o≠q:=nf4 _ _ ho3
   have e4:PyVbdeab.answers ns=(outs++ [((does S (((pn:Int)::cl)::xs)).2.length:Int)]++(does S (((pn:Int)::cl)::xs)).2)++PyFlat.told (PyFlat.played VbdeabNeutral.step (does S (((pn:Int)::cl)::xs)).1 cs4):=by
    rw [e3,PyFlat.played,G9,estep]
    simp
   have hlen4:=congrArg List.length e4
   simp only [List.length_append,List.length_singleton] at hlen4
   refine⟨_,rfl,.inl ⟨rfl,_,aX.of ho4⟩,_,rfl,q,_,rfl,.inl (aX.of hq4),o,_,_,rfl,rfl,ho4,(by rw [List.length_map];show outs.length<2 ^ 24;omega),?_⟩
   refine⟨_,rfl,.inl ⟨rfl,_,aX.of af⟩,_,rfl,o,q,_,_,rfl,rfl,af,(by rw [ak (Ne.symm noq)];exact hq4),(by rw [List.length_append,List.length_map,List.length_map];show outs.length+1+(does S (((pn:Int)::cl)::xs)).2.length≤2 ^ 24;omega),?_⟩
   refine⟨cs4.length,by rw [List.length_cons];omega,as4,_,pos4,cs4,outs++ [((does S (((pn:Int)::cl)::xs)).2.length:Int)]++(does S (((pn:Int)::cl)::xs)).2,_,rfl,rfl,?_,hd4,fun c hc=>ok3 c (List.mem_cons_of_mem _ hc),?_,e4⟩
   ·exact(W4.listAt _).listAt _
   ·rw [af,List.length_map,List.map_append,List.map_append]
    rfl
 ·have hl':=bL hl
  cases cs3 with
  | cons c cs4=>
   exfalso
   obtain⟨p,cl,xs,rfl,hsh,hput⟩:=IB (ok3 c List.mem_cons_self) cs4
   rw [hput,List.drop_eq_nil_of_le hl'] at hd3
   cases hd3
  | nil=>
   refine⟨_,rfl,?_⟩
   rw [e3] at kk
   have:PyFlat.told (PyFlat.played VbdeabNeutral.step S [])= []:=rfl
   rw [this,List.append_nil] at kk
   exact kk H3 o ho3
end
end Pf
section
namespace Pf
open PySem PySem.Spec PyProof.Rows L2
structure Na (K:PySem.W.Frag) (a:Addr) (kfs:List (Int×V)):Prop where
 gd:∀(P:Program) (w:World),GD P w K a kfs
def wM:List DictEntry→List (Int×V)→Prop
 | [],[]=>True
 | e::es,p::ps=>(∃t,e.key= .int p.1 t)∧e.hash=hashInt p.1∧cj p.2 e.val∧wM es ps
 | _,_=>False
def KH:List DictEntry→List (Int×V)→List (vo×Value)
 | e::es,p::ps=>((Sum.inl p.1:vo),e.val)::KH es ps
 | _,_=> []
theorem HD:∀{es:List DictEntry} {kfs:List (Int×V)},wM es kfs→KV (kfs.map fun p=>((Sum.inl p.1:vo),p.2)) (KH es kfs)
 | [],[],_=> .nil
 | e::es,p::ps,⟨_,_,h3,r⟩=> .cons ⟨rfl,h3⟩ (HD r)
 | [],_::_,h=>h.elim
 | _::_,[],h=>h.elim
theorem AO {P:Program} {w:World}:∀{es:List DictEntry} {kfs:List (Int×V)},wM es kfs→Pairs (jL P w) es (KH es kfs)
 | [],[],_=> .nil
 | e::es,p::ps,⟨⟨t,h1⟩,_,h3,r⟩=> .cons (by rw [h1];show Value.isInt p.1 (.int p.1 t)=true;simp [Value.isInt]) rfl (AO r)
 | [],_::_,h=>h.elim
 | _::_,[],h=>h.elim
theorem CJ {P:Program} {w:World}:∀{es:List DictEntry} {kfs:List (Int×V)},wM es kfs→∀e∈es,∃k,(jL P w).is k e.key=true∧e.hash=(jL P w).hash k
 | [],_,_,e,m=>nomatch m
 | e::es,p::ps,⟨⟨t,h1⟩,h2,_,r⟩,x,m=>by
  rcases List.mem_cons.mp m with rfl | m
  ·exact⟨Sum.inl p.1,by rw [h1];show Value.isInt p.1 (.int p.1 t)=true;simp [Value.isInt],h2⟩
  ·exact CJ r x m
 | _::_,[],h,_,_=>h.elim
theorem Fo:∀{es:List DictEntry} {kfs:List (Int×V)},wM es kfs→(KH es kfs).map (·.1)=(kfs.map (·.1)).map (Sum.inl:Int→vo)
 | [],[],_=>rfl
 | e::es,p::ps,⟨_,_,_,r⟩=>by
  show Sum.inl p.1::(KH es ps).map (·.1)=_
  rw [Fo r]
  rfl
 | [],_::_,h=>h.elim
 | _::_,[],h=>h.elim
theorem KJ {es:List DictEntry} {kfs:List (Int×V)} (e:wM es kfs) (h:(kfs.map (·.1)).Nodup):((KH es kfs).map (·.1)).Nodup:=by
 rw [Fo e]
 generalize kfs.map (·.1)=z at h
 clear e
 induction z with
 | nil=>exact List.nodup_nil
 | cons a r ih=>
  obtain⟨h1,h2⟩:=List.nodup_cons.mp h
  rw [List.map_cons]
  refine List.nodup_cons.mpr ⟨fun m=> ?_,ih h2⟩
  obtain⟨b,hb,e⟩:=List.mem_map.mp m
  cases e
  exact h1 hb
theorem KB {K:PySem.W.Frag} {a:Addr} {kfs:List (Int×V)} {es:Array DictEntry} {ep:Nat} (l:K.lookup a=some ⟨.type "dict",none,.dict es ep,#[]⟩) (he:wM es.toList kfs) (nd:(kfs.map (·.1)).Nodup) (ne:(a==sysModules)=false):Na K a kfs:=
 ⟨fun P w=>⟨ne,fun h X=>⟨KH es.toList kfs,HD he,_,es,ep,X a _ l,⟨rfl,rfl,rfl⟩,rfl,fun e m=>CJ he e (by simpa using m),AO he,KJ he nd⟩⟩⟩
section
variable {K:PySem.W.Frag} {h:Heap} {mg:Str→Option Value} {x q:Str} {st:Stmt} {ps ats:List Str} {f C a:Addr} {oc kV doc pm cdv ct:Value} {od an:Option Addr} {osl:Array (Option Value)}
def uk {z:Int} {t:Tok} (X:K.In h) (G:h.Ns mainGlobals mg) (e:PySem.W.nsIn K mainGlobals x=some (some (.int z t))):GC mg x (.int z):=⟨_,PySem.W.mg_of X G e,⟨_,rfl⟩⟩
def LH:List Int→Bool
 | []=>true
 | a::l=> !(l.contains a) && LH l
theorem Ic:∀{l:List Int},LH l=true→l.Nodup
 | [],_=>List.nodup_nil
 | a::l,h=>by
  obtain⟨h1,h2⟩:=Bool.and_eq_true_iff.mp (show(!(l.contains a) && LH l)=true from h)
  refine List.nodup_cons.mpr ⟨fun m=> ?_,Ic h2⟩
  rw [List.contains_iff_mem.mpr m] at h1
  cases h1
def Md (K:PySem.W.Frag) (C:Addr) (l:List Str):Prop:=∀y∈l,iM K C y
theorem JA:Md K C []:=fun _ h=>nomatch h
theorem Ig {y:Str} {l:List Str} (h:PySem.W.findIn K (.ref C) y=some none) (t:Md K C l):Md K C (y::l):=fun b m=>(List.mem_cons.mp m).elim (fun e=>by rw [e];exact h) (t b)
def Jt (X:K.In h) (G:h.Ns mainGlobals mg) (e:PySem.W.nsIn K mainGlobals x=some (some (.ref C))) (pg:PySem.W.plainGet K C Str.empty=true) (hd:PySem.W.hasDictIn K C=true) (po:PySem.W.plainOver K C=true)
  (sa:PySem.W.findIn K (.ref C) "__setattr__"=some (some (.builtin "object.__setattr__"))) (mks:PySem.W.makesIn K C=true) (kc:PySem.W.keepIn K (.ref C)=true) (no:Md K C ats):Kl K mg x ats:=⟨C,⟨pg,hd,po,sa⟩,PySem.W.mg_of X G e,no,mks,kc⟩
def cF (X:K.In h) (G:h.Ns mainGlobals mg) (e:PySem.W.nsIn K mainGlobals x=some (some (.ref f))) (lk:K.lookup f=some ⟨oc,od,.func (PySem.W.fnOf x x (mU st) (gX st) (ag st) .none kV doc pm an cdv ct),osl⟩)
  (cd:PySem.W.codeIn K cdv x=true) (kp:PySem.W.keepIn K (.ref f)=true) (ba:∀us:List Value,us.length=ps.length→bindArgs (PySem.W.fnOf x x (mU st) (gX st) (ag st) .none kV doc pm an cdv ct) ⟨us,[]⟩=pure (ps.zip us)):Df K mg x st ps:=
 ⟨f,_,HG lk cd kp,ba,PySem.W.mg_of X G e⟩
def px {c:Kl K mg x ats} {m:Str} (e:PySem.W.findIn K (.ref c.C) m=some (some (.ref f))) (i:PySem.W.isFn K (.ref f)=true) (lk:K.lookup f=some ⟨oc,od,.func (PySem.W.fnOf m q (mU st) (gX st) (ag st) .none kV doc pm an cdv ct),osl⟩)
  (cd:PySem.W.codeIn K cdv q=true) (kp:PySem.W.keepIn K (.ref f)=true) (ba:∀us:List Value,us.length=ps.length→bindArgs (PySem.W.fnOf m q (mU st) (gX st) (ag st) .none kV doc pm an cdv ct) ⟨us,[]⟩=pure (ps.zip us)):Me K c.C m q st ps:=
 ⟨f,_,HG lk cd kp,ba,⟨e,i,kp⟩,c.cl⟩
def Jp {kfs:List (Int×V)} {es:Array DictEntry} {ep:Nat} (X:K.In h) (G:h.Ns mainGlobals mg) (e:PySem.W.nsIn K mainGlobals x=some (some (.ref a))) (l:K.lookup a=some ⟨.type "dict",none,.dict es ep,#[]⟩) (he:wM es.toList kfs) (nd:LH (kfs.map (·.1))=true) (ne:(a==sysModules)=false):Hh K mg x kfs:=
 ⟨a,PySem.W.mg_of X G e,(KB l he (Ic nd) ne).gd,rfl⟩
end
theorem Hq {ns:List Int} (h:PyVbdeab.answers_asked ns=true):∃cs,PyFlat.calls PyVbdeab.shape ns.length ns=some cs∧(PyVbdeab.answers ns).length≤10000000:=by
 unfold PyVbdeab.answers_asked at h
 cases e:PyFlat.calls PyVbdeab.shape ns.length ns with
 | none=>rw [e] at h;cases h
 | some cs=>
  rw [e] at h
  simp only [Bool.and_eq_true] at h
  exact⟨cs,rfl,of_decide_eq_true h.2⟩
theorem K3 {K:PySem.W.Frag} {H0 H:Hp} {a:Addr} {ns:List Int} (hx:∀b u,H0 b=some u→H b=some u) (hO:Cy H0) (h:aX K H0 a (ns.map V.int)):wN K H a ns:=by
 rcases h with(h | ⟨o,h⟩) | h
 ·rcases hO a with z | ⟨o,u,z⟩
  ·rw [z] at h;cases h
  ·rw [z] at h;cases h
 ·exact .inl ⟨o,hx _ _ h⟩
 ·exact .inr fun _=> .inr h
theorem II {a:PySem.W.Codec.denoteAll PySem.Challenge.fa_toldchance_s01_answers} (h:PySem.W.Codec.withinAll PySem.Challenge.fa_toldchance_s01_answers a=true):iy a.1∧a.1.length≤7500:=by
 have h1:(PySem.W.Codec.inLen 0 7500 a.1 && a.1.all (PySem.W.Codec.inInt (Int.negSucc 99999999999999999999999999999999999999999) (Int.ofNat 100000000000000000000000000000000000000000)))=true:=(Bool.and_eq_true_iff.mp (show(_ && _)=true from h)).1
 obtain⟨h2,h3⟩:=Bool.and_eq_true_iff.mp h1
 refine⟨fun x hx=> ?_,?_⟩
 ·have h4:=List.all_eq_true.mp h3 x hx
  unfold PySem.W.Codec.inInt at h4
  obtain⟨h5,h6⟩:=Bool.and_eq_true_iff.mp h4
  have h7: -100000000000000000000000000000000000000000≤x:=of_decide_eq_true h5
  have h8:x≤100000000000000000000000000000000000000000:=of_decide_eq_true h6
  unfold Sz
  have e:(2:Nat) ^ 140=1393796574908163946345982392040522594123776:=by decide
  rw [e]
  omega
 ·unfold PySem.W.Codec.inLen PySem.W.Codec.inNat at h2
  exact of_decide_eq_true (Bool.and_eq_true_iff.mp h2).2
theorem JY {K:PySem.W.Frag} {h:Heap} {mg:Str→Option Value} {Goal:Prop} (_:K.In h) (T:Tx K mg) (main:Tx K mg→Goal):Goal:=main T
theorem Jq {q:Program} {loose:List Str} {mean:ExcName→Option Value} {mg mb:Str→Option Value} {h:Heap} {K:PySem.W.Frag} {d:DefRec} {f c Pl bm:Addr} {oc oc2:Value} {od od2:Option Addr} {osl osl2:Array (Option Value)} {fd:FuncData} {vs:Array Value}
  (T:Tx K mg) (TT:Top q loose mean mg mb h) (X:K.In h) (hrec:(recsOf q).find? (fun e=>e.name==("all_lowest":Str))=some d)
  (hf:PySem.W.nsIn K mainGlobals "all_lowest"=some (some (.ref f))) (lf:K.lookup f=some ⟨oc,od,.func fd,osl⟩) (hc:fd.code= .ref c) (lc:K.lookup c=some ⟨oc2,od2,.fields vs,osl2⟩) (hv:(vs[11]?:Option Value)=some (.ref Pl))
  (kP:K.lookup Pl=none) (hb:PySem.W.nsIn K mainGlobals "__builtins__"=some (some (.ref bm))) (kb:K.lookup bm=none):
  ∃ob:Obj,PySem.W.CodeHd h c Pl∧h.get? Pl=some (PySem.W.tabObj #[])∧K.lookup Pl=none∧h.get? bm=some ob∧ob.data= .plain∧K.lookup bm=none∧E7 T Pl∧
   ∀H:Hp,H bm=some (.frz ob (.ext fun _=>True))→Ac K mg Pl H:=by
 have ht:PySem.W.tabIn K "all_lowest"=some (c,Pl):=by
  unfold PySem.W.tabIn
  simp only [hf,lf,hc,lc,hv]
 obtain⟨hC,hP⟩:=PySem.W.tab_of TT X hrec ht
 obtain⟨bm',ob,b1,b2,b3,b4,b5,b6⟩:=TT.bmain
 have eb:bm'=bm:=by
  have z:=b1.symm.trans (PySem.W.mg_of X TT.g hb)
  injection z with z
  injection z
 subst eb
 have ef:f=T.cJ.f:=by
  have z:=(PySem.W.mg_of X TT.g hf).symm.trans T.cJ.mgx
  injection z with z
  injection z
 obtain⟨oc3,od3,kV,doc,pm,an,cdv,ct,osl3,e1,lk,hcd⟩:=T.cJ.F.ex
 have efd:T.cJ.fd=fd:=by
  rw [ef,lk] at lf
  have z:Data.func T.cJ.fd=Data.func fd:=congrArg Obj.data (Option.some.inj lf)
  injection z
 refine⟨ob,hC,hP,kP,b3,b6,kb,⟨c,by rw [efd];exact hc,fun h' X'=> ?_⟩,fun H hH=> .inr ⟨bm',b1,b2,fun z=> ?_,fun z=> ?_,ob,b4,b5,b6,hH⟩⟩
 ·obtain⟨o,vs',file,tf,flags,tg,inF,text,tt,g1,r⟩:=hC
  have z:=X _ _ lc
  rw [g1] at z
  refine⟨o,vs',file,tf,flags,tg,inF,text,tt,?_,r⟩
  rw [Option.some.inj z]
  exact X' _ _ lc
 ·obtain⟨o,es,ep,g1,g2,_⟩:=TT.g
  rw [←z,b3] at g1
  cases g1
  rw [b6] at g2
  cases g2
 ·rw [←z,b3] at hP
  rw [Option.some.inj hP] at b6
  cases b6
end Pf
end
end
open PySem PySem.W PyProof.Rows
set_option maxRecDepth 100000 in
set_option maxHeartbeats 0 in
theorem PySem.Challenge.cw_toldchance_s01_answers_holds : PySem.Challenge.rw_toldchance_s01_answers.Holds := by
 w_on
 refine hdTop ?_
 k_fillS
 refine L2.Lg (r:=PySem.Challenge.rw_toldchance_s01_answers) (k:=14) (CX:=L2.x8) (ps:= ["calls"]) (by decide+kernel) rfl rfl ⟨rfl,by decide,by decide⟩ (fun w h Y=>PySem.W.kIn_of Y) ?F (fun _ _ _ _ z=>z)
 case F=>
  intro w mean mg mb fa h TT Y KX hmg
  have G:=TT.g
  refine' Pf.JY (mg:=mg) KX ?T ?main
  case T=>
   refine' ⟨Pf.uk KX G ?_,
   Pf.uk KX G ?_,
   Pf.uk KX G ?_,
   Pf.uk KX G ?_,
   Pf.uk KX G ?_,
   Pf.uk KX G ?_,
   Pf.uk KX G ?_,
   Pf.uk KX G ?_,
   Pf.uk KX G ?_,
   Pf.uk KX G ?_,
   Pf.uk KX G ?_,
   Pf.uk KX G ?_,
   Pf.uk KX G ?_,
   Pf.uk KX G ?_,
   Pf.uk KX G ?_,
   Pf.uk KX G ?_,
   Pf.uk KX G ?_,
   Pf.uk KX G ?_,
   Pf.uk KX G ?_,
   Pf.uk KX G ?_,
   Pf.uk KX G ?_,
   Pf.uk KX G ?_,
   Pf.uk KX G ?_,
   Pf.uk KX G ?_,
   Pf.uk KX G ?_,
   Pf.uk KX G ?_,
   Pf.uk KX G ?_,
   Pf.uk KX G ?_,
   Pf.uk KX G ?_,
   PySem.W.mg_none_of KX G ?_,
   PySem.W.mg_none_of KX G ?_,
   PySem.W.mg_none_of KX G ?_,
   PySem.W.mg_none_of KX G ?_,
   PySem.W.mg_none_of KX G ?_,
   PySem.W.mg_none_of KX G ?_,
   PySem.W.mg_none_of KX G ?_,
   PySem.W.mg_none_of KX G ?_,
   PySem.W.mg_none_of KX G ?_,
   PySem.W.mg_none_of KX G ?_,
   PySem.W.mg_none_of KX G ?_,
   Pf.Jt KX G ?_ ?_ ?_ ?_ ?_ ?_ ?_ ?_,
   Pf.Jt KX G ?_ ?_ ?_ ?_ ?_ ?_ ?_ ?_,
   Pf.Jt KX G ?_ ?_ ?_ ?_ ?_ ?_ ?_ ?_,
   Pf.Jt KX G ?_ ?_ ?_ ?_ ?_ ?_ ?_ ?_,
   Pf.Jt KX G ?_ ?_ ?_ ?_ ?_ ?_ ?_ ?_,
   Pf.Jt KX G ?_ ?_ ?_ ?_ ?_ ?_ ?_ ?_,
   Pf.Jt KX G ?_ ?_ ?_ ?_ ?_ ?_ ?_ ?_,
   Pf.Jt KX G ?_ ?_ ?_ ?_ ?_ ?_ ?_ ?_,
   Pf.px ?_ ?_ ?_ ?_ ?_ ?_,
   Pf.px ?_ ?_ ?_ ?_ ?_ ?_,
   Pf.px ?_ ?_ ?_ ?_ ?_ ?_,
   Pf.cF KX G ?_ ?_ ?_ ?_ ?_,
   Pf.cF KX G ?_ ?_ ?_ ?_ ?_,
   Pf.cF KX G ?_ ?_ ?_ ?_ ?_,
   Pf.cF KX G ?_ ?_ ?_ ?_ ?_,
   Pf.cF KX G ?_ ?_ ?_ ?_ ?_,
   Pf.cF KX G ?_ ?_ ?_ ?_ ?_,
   Pf.cF KX G ?_ ?_ ?_ ?_ ?_,
   Pf.cF KX G ?_ ?_ ?_ ?_ ?_,
   Pf.cF KX G ?_ ?_ ?_ ?_ ?_,
   Pf.cF KX G ?_ ?_ ?_ ?_ ?_,
   Pf.px ?_ ?_ ?_ ?_ ?_ ?_,
   Pf.px ?_ ?_ ?_ ?_ ?_ ?_,
   Pf.px ?_ ?_ ?_ ?_ ?_ ?_,
   Pf.px ?_ ?_ ?_ ?_ ?_ ?_,
   Pf.cF KX G ?_ ?_ ?_ ?_ ?_,
   Pf.cF KX G ?_ ?_ ?_ ?_ ?_,
   Pf.cF KX G ?_ ?_ ?_ ?_ ?_,
   Pf.cF KX G ?_ ?_ ?_ ?_ ?_,
   Pf.cF KX G ?_ ?_ ?_ ?_ ?_,
   Pf.cF KX G ?_ ?_ ?_ ?_ ?_,
   Pf.cF KX G ?_ ?_ ?_ ?_ ?_,
   Pf.cF KX G ?_ ?_ ?_ ?_ ?_,
   Pf.cF KX G ?_ ?_ ?_ ?_ ?_,
   Pf.cF KX G ?_ ?_ ?_ ?_ ?_,
   Pf.cF KX G ?_ ?_ ?_ ?_ ?_,
   Pf.cF KX G ?_ ?_ ?_ ?_ ?_,
   Pf.px ?_ ?_ ?_ ?_ ?_ ?_,
   Pf.px ?_ ?_ ?_ ?_ ?_ ?_,
   Pf.px ?_ ?_ ?_ ?_ ?_ ?_,
   Pf.px ?_ ?_ ?_ ?_ ?_ ?_,
   Pf.cF KX G ?_ ?_ ?_ ?_ ?_,
   Pf.cF KX G ?_ ?_ ?_ ?_ ?_,
   Pf.cF KX G ?_ ?_ ?_ ?_ ?_,
   Pf.cF KX G ?_ ?_ ?_ ?_ ?_,
   Pf.cF KX G ?_ ?_ ?_ ?_ ?_,
   Pf.cF KX G ?_ ?_ ?_ ?_ ?_,
   Pf.px ?_ ?_ ?_ ?_ ?_ ?_,
   Pf.px ?_ ?_ ?_ ?_ ?_ ?_,
   Pf.px ?_ ?_ ?_ ?_ ?_ ?_,
   Pf.px ?_ ?_ ?_ ?_ ?_ ?_,
   Pf.px ?_ ?_ ?_ ?_ ?_ ?_,
   Pf.cF KX G ?_ ?_ ?_ ?_ ?_,
   Pf.cF KX G ?_ ?_ ?_ ?_ ?_,
   Pf.cF KX G ?_ ?_ ?_ ?_ ?_,
   Pf.cF KX G ?_ ?_ ?_ ?_ ?_,
   Pf.cF KX G ?_ ?_ ?_ ?_ ?_,
   Pf.cF KX G ?_ ?_ ?_ ?_ ?_,
   Pf.cF KX G ?_ ?_ ?_ ?_ ?_,
   Pf.cF KX G ?_ ?_ ?_ ?_ ?_,
   Pf.cF KX G ?_ ?_ ?_ ?_ ?_,
   Pf.px ?_ ?_ ?_ ?_ ?_ ?_,
   Pf.px ?_ ?_ ?_ ?_ ?_ ?_,
   Pf.px ?_ ?_ ?_ ?_ ?_ ?_,
   Pf.px ?_ ?_ ?_ ?_ ?_ ?_,
   Pf.px ?_ ?_ ?_ ?_ ?_ ?_,
   Pf.px ?_ ?_ ?_ ?_ ?_ ?_,
   Pf.px ?_ ?_ ?_ ?_ ?_ ?_,
   Pf.px ?_ ?_ ?_ ?_ ?_ ?_,
   Pf.px ?_ ?_ ?_ ?_ ?_ ?_,
   Pf.px ?_ ?_ ?_ ?_ ?_ ?_,
   Pf.px ?_ ?_ ?_ ?_ ?_ ?_,
   Pf.px ?_ ?_ ?_ ?_ ?_ ?_,
   Pf.px ?_ ?_ ?_ ?_ ?_ ?_,
   Pf.px ?_ ?_ ?_ ?_ ?_ ?_,
   Pf.px ?_ ?_ ?_ ?_ ?_ ?_,
   Pf.px ?_ ?_ ?_ ?_ ?_ ?_,
   Pf.cF KX G ?_ ?_ ?_ ?_ ?_,
   Pf.cF KX G ?_ ?_ ?_ ?_ ?_,
   Pf.cF KX G ?_ ?_ ?_ ?_ ?_,
   Pf.cF KX G ?_ ?_ ?_ ?_ ?_,
   Pf.cF KX G ?_ ?_ ?_ ?_ ?_,
   Pf.cF KX G ?_ ?_ ?_ ?_ ?_,
   Pf.cF KX G ?_ ?_ ?_ ?_ ?_,
   Pf.cF KX G ?_ ?_ ?_ ?_ ?_,
   Pf.cF KX G ?_ ?_ ?_ ?_ ?_,
   Pf.cF KX G ?_ ?_ ?_ ?_ ?_,
   Pf.cF KX G ?_ ?_ ?_ ?_ ?_,
   Pf.cF KX G ?_ ?_ ?_ ?_ ?_,
   Pf.cF KX G ?_ ?_ ?_ ?_ ?_,
   Pf.cF KX G ?_ ?_ ?_ ?_ ?_,
   Pf.cF KX G ?_ ?_ ?_ ?_ ?_,
   Pf.cF KX G ?_ ?_ ?_ ?_ ?_,
   Pf.cF KX G ?_ ?_ ?_ ?_ ?_,
   Pf.cF KX G ?_ ?_ ?_ ?_ ?_,
   Pf.cF KX G ?_ ?_ ?_ ?_ ?_,
   Pf.cF KX G ?_ ?_ ?_ ?_ ?_,
   Pf.cF KX G ?_ ?_ ?_ ?_ ?_,
   Pf.cF KX G ?_ ?_ ?_ ?_ ?_,
   Pf.cF KX G ?_ ?_ ?_ ?_ ?_,
   Pf.cF KX G ?_ ?_ ?_ ?_ ?_,
   Pf.cF KX G ?_ ?_ ?_ ?_ ?_,
   Pf.cF KX G ?_ ?_ ?_ ?_ ?_,
   Pf.cF KX G ?_ ?_ ?_ ?_ ?_,
   Pf.cF KX G ?_ ?_ ?_ ?_ ?_,
   Pf.cF KX G ?_ ?_ ?_ ?_ ?_,
   Pf.cF KX G ?_ ?_ ?_ ?_ ?_,
   Pf.cF KX G ?_ ?_ ?_ ?_ ?_,
   Pf.cF KX G ?_ ?_ ?_ ?_ ?_,
   Pf.cF KX G ?_ ?_ ?_ ?_ ?_,
   Pf.cF KX G ?_ ?_ ?_ ?_ ?_,
   Pf.cF KX G ?_ ?_ ?_ ?_ ?_,
   Pf.cF KX G ?_ ?_ ?_ ?_ ?_,
   Pf.cF KX G ?_ ?_ ?_ ?_ ?_,
   Pf.px ?_ ?_ ?_ ?_ ?_ ?_,
   Pf.px ?_ ?_ ?_ ?_ ?_ ?_,
   Pf.px ?_ ?_ ?_ ?_ ?_ ?_,
   Pf.px ?_ ?_ ?_ ?_ ?_ ?_,
   Pf.cF KX G ?_ ?_ ?_ ?_ ?_,
   Pf.cF KX G ?_ ?_ ?_ ?_ ?_,
   Pf.cF KX G ?_ ?_ ?_ ?_ ?_,
   Pf.cF KX G ?_ ?_ ?_ ?_ ?_,
   Pf.cF KX G ?_ ?_ ?_ ?_ ?_,
   Pf.cF KX G ?_ ?_ ?_ ?_ ?_,
   Pf.cF KX G ?_ ?_ ?_ ?_ ?_,
   Pf.cF KX G ?_ ?_ ?_ ?_ ?_,
   Pf.cF KX G ?_ ?_ ?_ ?_ ?_,
   Pf.cF KX G ?_ ?_ ?_ ?_ ?_,
   Pf.cF KX G ?_ ?_ ?_ ?_ ?_,
   Pf.cF KX G ?_ ?_ ?_ ?_ ?_,
   Pf.cF KX G ?_ ?_ ?_ ?_ ?_,
   Pf.cF KX G ?_ ?_ ?_ ?_ ?_,
   Pf.cF KX G ?_ ?_ ?_ ?_ ?_,
   Pf.cF KX G ?_ ?_ ?_ ?_ ?_,
   Pf.cF KX G ?_ ?_ ?_ ?_ ?_,
   Pf.cF KX G ?_ ?_ ?_ ?_ ?_,
   Pf.cF KX G ?_ ?_ ?_ ?_ ?_,
   Pf.cF KX G ?_ ?_ ?_ ?_ ?_,
   Pf.cF KX G ?_ ?_ ?_ ?_ ?_,
   Pf.cF KX G ?_ ?_ ?_ ?_ ?_,
   Pf.cF KX G ?_ ?_ ?_ ?_ ?_,
   Pf.cF KX G ?_ ?_ ?_ ?_ ?_,
   Pf.cF KX G ?_ ?_ ?_ ?_ ?_,
   Pf.cF KX G ?_ ?_ ?_ ?_ ?_,
   Pf.cF KX G ?_ ?_ ?_ ?_ ?_,
   Pf.cF KX G ?_ ?_ ?_ ?_ ?_,
   Pf.cF KX G ?_ ?_ ?_ ?_ ?_,
   Pf.cF KX G ?_ ?_ ?_ ?_ ?_,
   Pf.cF KX G ?_ ?_ ?_ ?_ ?_,
   Pf.cF KX G ?_ ?_ ?_ ?_ ?_,
   Pf.cF KX G ?_ ?_ ?_ ?_ ?_,
   Pf.px ?_ ?_ ?_ ?_ ?_ ?_,
   Pf.cF KX G ?_ ?_ ?_ ?_ ?_,
   Pf.cF KX G ?_ ?_ ?_ ?_ ?_,
   Pf.Jp KX G ?_ ?_ ?_ ?_ ?_,
   Pf.Jp KX G ?_ ?_ ?_ ?_ ?_,
   Pf.Jp KX G ?_ ?_ ?_ ?_ ?_,
   Pf.Jp KX G ?_ ?_ ?_ ?_ ?_,
   Pf.Jp KX G ?_ ?_ ?_ ?_ ?_,
   Pf.Jp KX G ?_ ?_ ?_ ?_ ?_,
   Pf.Jp KX G ?_ ?_ ?_ ?_ ?_,
   Pf.Jp KX G ?_ ?_ ?_ ?_ ?_,
   Pf.Jp KX G ?_ ?_ ?_ ?_ ?_⟩
   all_goals first
    | k_is
    | (dsimp only [Pf.Jt];k_is)
    | (intro us hl;first | (match us,hl with | [_],_=>rfl) | (match us,hl with | [_,_],_=>rfl) | (match us,hl with | [_,_,_],_=>rfl) | (match us,hl with | [_,_,_,_],_=>rfl) | (match us,hl with | [_,_,_,_,_],_=>rfl) | (match us,hl with | [],_=>rfl))
    | (show Pf.LH _=true;rfl)
    | (show(_==_)=false;rfl)
    | ((repeat first | exact Pf.JA | refine Pf.Ig (by k_is) ?_);done)
    | ((repeat first | exact trivial | refine⟨⟨_,rfl⟩,rfl,⟨_,rfl⟩,?_⟩ | refine⟨⟨_,rfl⟩,rfl,rfl,?_⟩);done)
    | skip
  case main=>
   intro T
   have e:fa=T.jY.f:=by
    have z:=hmg.symm.trans T.jY.mgx
    injection z with z
    injection z
   subst e
   refine' Exists.elim (Pf.Jq T TT KX ?y0 ?y1 ?y2 ?y3 ?y4 ?y5 ?y6 ?y7 ?y8) ?go
   (case y0=>rfl)
   (case y1=>k_is)
   (case y2=>k_is)
   (case y3=>rfl)
   (case y4=>k_is)
   (case y5=>rfl)
   (case y6=>kernel_rfl)
   (case y7=>k_is)
   (case y8=>kernel_rfl)
   case go=>
    rintro ob ⟨t1,t2,t3,t4,t5,t6,hto,hbm⟩
    refine⟨T.jY.fd,Pf.u9 T,_,_,_,ob,T.jY.bt,fun base _ _=>Pf.BN T,t1,t2,t3,t4,t5,t6,fun H0 H xs a hx hO hPl hB hwi hask hD=> ?_⟩
    cases hD with
    | cons h1 h2=>
     cases h2
     cases h1 with
     | lst hs ha=>
      have e:=L2.Fl a.1 _ ha
      subst e
      obtain⟨cs,hcs,hlen⟩:=Pf.Hq (ns:=a.1) hask
      obtain⟨hsm,hln⟩:=Pf.II hwi
      exact⟨_,_,a.1,cs,rfl,Pf.K3 hx hO hs,hto,hbm H hB,.inl hPl,hcs,hsm,hln,hlen,fun H' p hp=> .lst (L2.aX.of hp) (L2.Fh _)⟩
