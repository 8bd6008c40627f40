/- Texts of one's own, merged: from: Package slices on data: Grow of nil (the kit's walk),Concat,ContainsFunc over lists of bytes. Own work. -/
import Derived.Lib.AppendZerosOnto
import Derived.Lib.Walk
import Derived.Test.YtofonnokanoflaaMg210
set_option linter.unusedVariables false
set_option linter.unusedSimpArgs false
namespace Go.Proofs.Ytofonnokanoflaa
open Go.RowKit IntWalk
set_option maxHeartbeats 1600000
attribute [local go_sem] Oper.semAt_some
abbrev dV (l:List (List UInt8)):D:=.sl (l.map fun l=>D.sl (l.map bD))
set_option maxRecDepth 20000 in
theorem NR (w:World) (ad:Option Addr) (n:Nat) (hn:0<n) (h9:n≤1000000000000) (i0:TypeInfo) (z:Value) (hi0:Try.prog.info? 25=some i0) (hz0:i0.zero=some z) (hs0:i0.size=1) (hb:i0.bytes=24) :
    Calls Try.prog 88 #[.slice ad 0 0,.int .i64 n] w fun e w' =>
      e=.returned (.slice (some ⟨w.heap.size,0,none⟩) 0 (grownCap w n 0 25))∧w'=w.drew.alloc (.cells (Builtin.zeroCells z.cells n++Builtin.zeroCells z.cells (grownCap w n 0 25-n)) 25):=by
  have h1:¬ ((n:Int)<0):=by omega
  have hold:(Builtin.firstCells i0.size 0 (.slice ad 0 0)).run Try.prog w.drew=.ok #[] w.drew:=by
    cases ad with
    | none=>exact run_firstCells_none _ i0.size 0 0 0
    | some a=>exact run_firstCells_some _ i0.size 0 a 0 0 [] (by simp) (fun j v hj=>by cases hj)
  have hrz:∀ ty,(Builtin.append_ #[28,3] ty #[.slice ad 0 0,.int .i64 (n:Int)]).run Try.prog w =
      .ok (.slice (some ⟨w.heap.size,0,none⟩) n (grownCap w n 0 25)) (w.drew.alloc (.cells (Builtin.zeroCells z.cells n++Builtin.zeroCells z.cells (grownCap w n 0 25-n)) 25)):=fun ty=>by
    have h:=Lib.run_append_grow_zeros w 28 3 ty 25 i0 z .i64 .i64 Try.underlying28 Try.underlying3 hi0 hz0 ad 0 0 [] hold n hn (by omega) (by omega) (by omega) (by rw[hb]; omega) (by rw[VG]; exact growslice_fits hn (by rw[hb]; omega))
    simpa using h
  have hGn:n≤grownCap w n 0 25:=grownCap_ge w _ _ _;obtain⟨Gc,hG⟩:∃ G,G=grownCap w n 0 25:=⟨_,rfl⟩
  rw[← hG] at hrz hGn ⊢;have hG63:Gc≤9223372036854775807:=by
    have:=grownCap_le_maxLen w n 0 25 (by unfold maxLen; omega);rw[← hG] at this;unfold maxLen at this;omega
  go_enter Try.func88,Try.ntmps88
  cases ad with
  | none =>
    go_wp2_with (at_builtin; refine Lib.wpList_append_run _ rfl _ _ _ _ rfl _ _ rfl rfl _ _ (hrz _) ?_)
    all_goals (go_ret; exact⟨rfl,rfl⟩)
  | some a =>
    obtain⟨ab,ao,asp⟩:=a
    go_wp2_with (at_builtin; refine Lib.wpList_append_run _ rfl _ _ _ _ rfl _ _ rfl rfl _ _ (hrz _) ?_)
    all_goals (go_ret; exact⟨rfl,rfl⟩)
theorem LX (w:World) (ad:Option Addr):Calls Try.prog 88 #[.slice ad 0 0,.int .i64 0] w fun e w'=>e=.returned (.slice ad 0 0)∧w'=w:=by
  go_enter Try.func88,Try.ntmps88
  cases ad with
  | none=>go_wp2; go_ret; exact⟨rfl,rfl⟩
  | some a =>
    obtain⟨ab,ao,asp⟩:=a
    go_wp2; go_ret; exact⟨rfl,rfl⟩
theorem S0 (G:aj) (n:Nat) (h9:n≤1000000000000):ou Try.prog G 88 [.c .nil,.c (.d (.int .i64 (n:Int)))] (.w (.c (.fr 1 []))):=by
  intro w S vs hS hG hvs;cases hvs with
  | cons h1 h2 =>
    cases h2 with
    | cons h2 h3 =>
      cases h3;obtain⟨ad,rfl⟩:∃ ad,_=Value.slice ad 0 0:=h1
      cases h2;obtain⟨i0,z,hi0,hs0,hb,hz0,_,hzl,hz⟩:=ic (show gj Try.prog 25=some (1,24,.sl []) by kernel_rfl);have hz1:z.cells.size=1:=by
        have:=(hz S w).length
        simpa [D.cells] using this
      rcases Vs n with rfl | hn
      ·refine (LX w ad).mono ?_;rintro e w' ⟨rfl,rfl⟩;exact⟨_,S,[],rfl,Below.refl _ _,fun b i hs=>⟨.inl hs,hS b i hs⟩,List.nodup_nil,.inl ⟨⟨ad,rfl⟩,rfl,rfl⟩⟩
      ·refine (NR w ad n hn h9 i0 z hi0 hz0 hs0 hb).mono ?_;have hGn:n≤grownCap w n 0 25:=grownCap_ge w _ _ _;have hGm:=grownCap_le_maxLen w n 0 25 (by unfold maxLen; omega);generalize grownCap w n 0 25=Gc at *
       rintro e w' ⟨rfl,rfl⟩;have hsz:(Builtin.zeroCells z.cells n++Builtin.zeroCells z.cells (Gc-n)).size=Gc:=by
         simp only[Builtin.zeroCells,hz1,Array.size_append,Array.size_map,Array.size_range];omega
       refine⟨_,S,[w.heap.size],rfl,(Below.refl _ _).drew.alloc (UJ _) _,fun b i hs=>⟨.inl hs,?_⟩,by simp,.inr ⟨w.heap.size,Gc,25,Gc,rfl,rfl,UR _,hGm,?_,by omega,UJ _,fun i hi=>?_,⟨_,_,(0,0),heap_alloc_new w.drew _,iH _,by simp,fun i hi=>by cases hi⟩⟩⟩
       ·have:=hS b i hs;have h2:(w.drew.alloc (.cells (Builtin.zeroCells z.cells n++Builtin.zeroCells z.cells (Gc-n)) 25)).heap.size=w.heap.size+1:=by simp
        omega
       ·have:=y3 w.drew (Builtin.zeroCells z.cells n++Builtin.zeroCells z.cells (Gc-n)) 25 (0,0);rw[hsz] at this;exact this
       ·have:=hS _ i hi;omega
def rK (l:List (List UInt8)) (g:Nat) (caps:List D) (i:Nat):St:=⟨bc [(0,.w (.c (.d (dV l)))),(1,.w (.c (.d (.fn g caps)))),(7,.w (.c (.d (.int .i64 (l.length:Int))))),(8,.w (.c (.d (.int .i64 (i:Int)))))],hL [],uL []⟩
def kv (p:List UInt8→Bool) (l:List (List UInt8)):Int:=match l.findIdx? p with | some i=>(i:Int) | none=>-1
theorem S4 {l:List (List UInt8)} {j:Nat} (h:j<l.length):l[j]?=some (l.getD j []):=by
  rw[UD,UB h]; rfl
theorem KL {l:List (List UInt8)} {j:Nat} (h:j<l.length):l.getD j []∈l:=by
  rw[UD,UB h]; exact U3 h
theorem KM {p:List UInt8→Bool} {l:List (List UInt8)} {i:Nat} (h:i<l.length) (hp:p (l.getD i [])=true) (hn:∀ j,j<i→p (l.getD j [])=false):kv p l=(i:Int):=by
  have:l.findIdx? p=some i:=by
    rw[List.findIdx?_eq_some_iff_getElem];have e:∀ k (hk:k<l.length),l[k]=l.getD k []:=fun k hk=>by rw[UD,UB hk]; rfl
    refine⟨h,by rw[e i h]; exact hp,fun j hj=>?_⟩;rw[e j (by omega)]
    simpa using hn j hj
  unfold kv;rw[this]
theorem KN {p:List UInt8→Bool} {l:List (List UInt8)} (hn:∀ j,j<l.length→p (l.getD j [])=false):kv p l=-1:=by
  have:l.findIdx? p=none:=by
    rw[List.findIdx?_eq_none_iff];intro x hx;obtain⟨j,hj,rfl⟩:=Va hx;have:=hn j hj;rw[UD,UB hj] at this;exact this
  unfold kv;rw[this]
theorem LY (p:List UInt8→Bool) (l:List (List UInt8)):decide (0≤kv p l)=l.any p:=by
  unfold kv;cases h:l.findIdx? p with
  | some i =>
    rw[List.findIdx?_eq_some_iff_getElem] at h;obtain⟨h1,h2,_⟩:=h;have:l.any p=true:=List.any_eq_true.2 ⟨_,U3 h1,h2⟩;rw[this];exact decide_eq_true (by simp only; omega)
  | none =>
    rw[List.findIdx?_eq_none_iff] at h;have:l.any p=false:=VW.2 fun x hx=>by rw[h x hx]; simp
    rw[this];rfl
def pI:aL := .seq (.reg [oO 9 (.bin .lss (.t 8) (.t 7))]) (.seq (.cond (.t 9) (.skip) (.exit 0)) (.seq (.block 1 (.seq (.reg [oM 10 8,oM 5 10]) (.seq (.reg [oM 11 1,oM 12 0,oM 13 5,oO 14 (.idxSl 1 (.t 12) (.t 13)),oO 15 (.load .sc (.t 14)),oO 16 (.call 1000000007 [(.t 11),(.t 15)] none)]) (.cond (.t 16) (.seq (.reg [oM 17 5,oM 4 17]) (.ret)) (.skip))))) (.reg [oO 18 (.bin .add (.t 8) (kI 1)),oM 8 18])))
def D7:aB:=⟨2,19,.seq (.reg [oO 4 (.mv (kI 0))]) (.seq (.seq (.reg [oM 6 0,oO 7 (.len (.t 6)),oO 8 (.mv (kI 0))]) (.block 0 (.loop pI))) (.seq (.reg [oO 4 (.mv (.k (.c (.d (.int .i64 (-1))))))]) (.ret))),[(4,none)]⟩
theorem NS:aA Try.prog { own:=[],comp:=[],frz:=[],nils:=[] } Try.f66=some D7:=by kernel_rfl
theorem Qx (G:aj) (l:List (List UInt8)) (g:Nat) (caps:List D) (p:List UInt8→Bool) (hl:l.length≤9223372036854775807) (hp:∀ x∈l,mM Try.prog G g caps [.sl (x.map bD)] (.w (.c (.d (.bool (p x)))))):ar Try.prog G 66 [dV l,.fn g caps] (.w (.c (.d (.int .i64 (kv p l))))):=by
  refine aF Try.func66 NS rfl rfl ?_;simp only[D7,ah,ae,aa,seval,iteOmega,toNatUp];refine bH (rK l g caps) (fun i=>l.length-i) (fun i=>i≤l.length∧∀ j,j<i→p (l.getD j [])=false) 0 ⟨UR _,fun j hj=>by omega⟩ ?_ ?_
  ·refine aG (fun i=>0) ?_ ?_ rfl rfl <;> simp only[wx,aw,aH,aa,seval,iteOmega,toNatUp] <;> rfl
  ·rintro i ⟨hi,hn⟩;by_cases hlt:i<l.length
   ·have g1:=S4 hlt;have hd:=hp _ (KL hlt);cases hpi:p (l.getD i [])
    ·rw[hpi] at hd;simp only[pI,rK,ae,aa,seval,iteOmega,toNatUp,aV,g1];refine Ba hd rfl (.inl rfl) ?_;simp only[ae,aa,seval,iteOmega,toNatUp];refine br (i+1) (by omega) ⟨by omega,fun j hj=>?_⟩ (aG (fun i=>0) ?_ ?_ rfl rfl)
     ·rcases U5 j i with h | h
      ·exact hn j h
      ·obtain rfl:j=i:=by omega
       exact hpi
     all_goals simp only[wx,aw,aH,aa,seval,iteOmega,toNatUp]
    ·rw[hpi] at hd;rw[KM hlt hpi hn];simp only[pI,rK,ae,aa,seval,iteOmega,toNatUp,aV,g1];refine Ba hd rfl (.inl rfl) ?_;simp only[ae,aa,seval,iteOmega,toNatUp];exact aP
   ·rw[KN fun j hj=>hn j (by omega)];simp only[pI,rK,ae,aa,seval,iteOmega,toNatUp];exact aP
def vp:aB:=⟨2,9,.seq (.reg [oO 4 (.mv (.k (.c (.d (.bool false)))))]) (.seq (.reg [oM 5 0,oM 6 1,oO 7 (.call 66 [(.t 5),(.t 6)] none),oO 8 (.bin .geq (.t 7) (kI 0)),oM 4 8]) (.ret)),[(4,none)]⟩
theorem NT:aA Try.prog { own:=[],comp:=[],frz:=[],nils:=[] } Try.f47=some vp:=by kernel_rfl
theorem Gs (G:aj) (l:List (List UInt8)) (g:Nat) (caps:List D) (p:List UInt8→Bool) (hl:l.length≤9223372036854775807) (hp:∀ x∈l,mM Try.prog G g caps [.sl (x.map bD)] (.w (.c (.d (.bool (p x)))))):ar Try.prog G 47 [dV l,.fn g caps] (.w (.c (.d (.bool (l.any p))))):=by
  refine aF Try.func47 NT rfl rfl ?_;have hi:=Qx G l g caps p hl hp;rw[← LY];generalize kv p l=n at *
  by_cases h:0≤n
  ·have hd:decide (0≤n)=true:=decide_eq_true h;rw[hd];simp only[vp,ah,ae,aa,seval,iteOmega,toNatUp];refine sD (hi) ?_;exact aP
  ·have hd:decide (0≤n)=false:=decide_eq_false h;have h2:n<0:=by omega
   rw[hd];simp only[vp,ah,ae,aa,seval,iteOmega,toNatUp];refine sD (hi) ?_;exact aP
def wa (ls:List (List (List UInt8))) (i:Nat):St:=⟨bc [(0,.w (.c (.d (.sl (ls.map dV))))),(3,.w (.c (.d (.int .i64 ((ls.take i).flatten.length:Int))))),(9,.w (.c (.d (.sl (ls.map dV))))),(10,.w (.c (.d (.int .i64 (ls.length:Int))))),(11,.w (.c (.d (.int .i64 (i:Int)))))],hL [],uL []⟩
def wb (ls:List (List (List UInt8))) (i:Nat):St:=⟨bc [(6,.w (.c (.own 1 1 0 (ls.take i).flatten.length))),(25,.w (.c (.d (.sl (ls.map dV))))),(26,.w (.c (.d (.int .i64 (ls.length:Int))))),(27,.w (.c (.d (.int .i64 (i:Int)))))],hL [(1,.row 1 ((ls.take i).flatten.map fun l=>D.sl (l.map bD)))],uL [1]⟩
theorem tz (ls:List (List (List UInt8))) {i:Nat} (h:i<ls.length):(ls.take (i+1)).flatten=(ls.take i).flatten++ls.getD i []:=by
  rw[UD,UB h,Vu h,List.flatten_append]; simp
theorem B0 (ls:List (List (List UInt8))) {i:Nat} (h:i<ls.length):(ls.take i).flatten.length+(ls.getD i []).length≤ls.flatten.length:=by
  rw[← UF,← tz ls h]
  conv=>rhs; rw[← Vh (i+1) ls]
  rw[List.flatten_append,UF]; omega
theorem HZ {l:List (List (List UInt8))} {j:Nat} (h:j<l.length):l[j]?=some (l.getD j []):=by
  rw[UD,UB h]; rfl
def tP:aL := .seq (.reg [oO 12 (.bin .lss (.t 11) (.t 10))]) (.seq (.cond (.t 12) (.skip) (.exit 0)) (.seq (.block 1 (.seq (.reg [oO 13 (.idxSl 1 (.t 9) (.t 11)),oO 14 (.load .sc (.t 13)),oM 5 14]) (.seq (.reg [oM 15 3,oM 16 5,oO 17 (.len (.t 16)),oO 18 (.bin .add (.t 15) (.t 17)),oM 3 18]) (.seq (.reg [oM 19 3,oO 20 (.bin .lss (.t 19) (kI 0))]) (.cond (.t 20) (.reg [oN (.lenStr .u)]) (.skip)))))) (.reg [oO 22 (.bin .add (.t 11) (kI 1)),oM 11 22])))
def tQ:aL := .seq (.reg [oO 28 (.bin .lss (.t 27) (.t 26))]) (.seq (.cond (.t 28) (.skip) (.exit 2)) (.seq (.block 3 (.seq (.reg [oO 29 (.idxSl 1 (.t 25) (.t 27)),oO 30 (.load .sc (.t 29)),oM 8 30]) (.reg [oM 31 6,oM 32 8,oO 33 (.app false 1 24 (.t 31) (.t 32)),oM 6 33]))) (.reg [oO 34 (.bin .add (.t 27) (kI 1)),oM 27 34])))
def D8:aB:=⟨1,36,.seq (.reg [oO 2 (.mv (.k (.c .nil)))]) (.seq (.reg [oO 3 (.mv (kI 0))]) (.seq (.seq (.reg [oM 9 0,oO 10 (.len (.t 9)),oO 11 (.mv (kI 0))]) (.block 0 (.loop tP))) (.seq (.reg [oM 23 3,oO 24 (.call 88 [(.k (.c .nil)),(.t 23)] (some (0,1))),oM 6 24]) (.seq (.seq (.reg [oM 25 0,oO 26 (.len (.t 25)),oO 27 (.mv (kI 0))]) (.block 2 (.loop tQ))) (.seq (.reg [oM 35 6,oM 2 35]) (.ret)))))),[(2,none)]⟩
theorem NU:aA Try.prog { own:=[24],comp:=[],frz:=[],nils:=[],bad:=true } Try.f78=some D8:=by kernel_rfl
theorem Qy (G:aj) (ls:List (List (List UInt8))) (hl:ls.length≤9223372036854775807) (hf:ls.flatten.length≤1000000000):ar Try.prog G 78 [.sl (ls.map dV)] (.w (.c (.fr 1 (ls.flatten.map fun l=>D.sl (l.map bD))))):=by
  refine aF Try.func78 NU rfl rfl ?_;simp only[D8,ah,ae,aa,seval,iteOmega,toNatUp];refine bH (wa ls) (fun i=>ls.length-i) (fun i=>i≤ls.length) 0 (UR _) ?_ ?_
  ·refine aG (fun i=>0) ?_ ?_ rfl rfl <;> simp only[wx,aw,aH,aa,seval,iteOmega,toNatUp] <;> rfl
  ·intro i hi;by_cases hlt:i<ls.length
   ·have g1:=HZ hlt;have h5:=B0 ls hlt;have h6:=tz ls hlt;have h7:(ls.take (i+1)).flatten.length=(ls.take i).flatten.length+(ls.getD i []).length:=by rw[h6,UF]
    simp only[tP,wa,ae,aa,seval,iteOmega,toNatUp,aV,g1];refine br (i+1) (by omega) (by omega) (aG (fun i=>0) ?_ ?_ rfl rfl) <;> simp only[wx,aw,aH,aa,seval,iteOmega,toNatUp,h7]
   ·have ht:ls.take i=ls:=UG (by omega);have hg:=S0 G ls.flatten.length (by omega);simp only[tP,wa,ae,aa,seval,iteOmega,toNatUp,ht];refine LI hg rfl rfl (.inl rfl) ?_;simp only[ae,aa,seval,iteOmega,toNatUp];refine bH (wb ls) (fun i=>ls.length-i) (fun i=>i≤ls.length) 0 (UR _) ?_ ?_
    ·refine aG (fun i=>192) ?_ ?_ rfl rfl <;> simp only[wx,aw,aH,aa,seval,iteOmega,toNatUp] <;> rfl
    ·intro i hi;by_cases hlt:i<ls.length
     ·have g1:=HZ hlt;have h5:=B0 ls hlt;have h6:=tz ls hlt;simp only[tQ,wb,ae,aa,seval,iteOmega,toNatUp,aV,g1,ct,kP];refine br (i+1) (by omega) (by omega) (aG (fun i=>264) ?_ ?_ rfl rfl) <;> simp only[wx,aw,aH,aa,seval,iteOmega,toNatUp,h6]
     ·have ht:ls.take i=ls:=UG (by omega);simp only[tQ,wb,ae,aa,seval,iteOmega,toNatUp,ht];exact ft (id:=1) (n:=ls.flatten.length) (s:=1) (by simp only[wx,aa,seval,iteOmega,toNatUp]) (by simp only[wx,aa,seval,iteOmega,toNatUp]) (by simp only[UQ])
theorem Qz (G:aj) (ls:List (List (List UInt8))) (hl:ls.length≤9223372036854775807) (hf:ls.flatten.length≤1000000000):ar Try.prog G 78 [.sl (ls.map dV)] (.w (.c (.d (.sl (ls.flatten.map fun l=>D.sl (l.map bD)))))):=j5 (Qy G ls hl hf)
end Go.Proofs.Ytofonnokanoflaa
