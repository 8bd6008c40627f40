/- Texts of one's own, merged: from: Package slices on data: Grow of nil (the kit's walk),Concat,ContainsFunc over lists of bytes. Own work. -/
import Derived.Lib.AppendZerosOnto
import Derived.Lib.Walk
import Derived.Test.YtofonnokanoflaaGreatMz210
set_option linter.unusedVariables false
set_option linter.unusedSimpArgs false
namespace Go.Proofs.YtofonnokanoflaaGreat
open Go.RowKit IntWalk
set_option maxHeartbeats 1600000
attribute [local go_sem] Oper.semAt_some
abbrev eF (l:List (List UInt8)):D:=.sl (l.map fun l=>D.sl (l.map bD))
set_option maxRecDepth 20000 in
theorem UB (w:World) (ad:Option Addr) (n:Nat) (hn:0<n) (h9:n≤1000000000000) (i0:TypeInfo) (z:Value) (hi0:Tryz.prog.info? 22=some i0) (hz0:i0.zero=some z) (hs0:i0.size=1) (hb:i0.bytes=24) :
    Calls Tryz.prog 132 #[.slice ad 0 0,.int .i64 n] w fun e w' =>
      e=.returned (.slice (some ⟨w.heap.size,0,none⟩) 0 (grownCap w n 0 22))∧w'=w.drew.alloc (.cells (Builtin.zeroCells z.cells n++Builtin.zeroCells z.cells (grownCap w n 0 22-n)) 22):=by
  have h1:¬ ((n:Int)<0):=by omega
  have hold:(Builtin.firstCells i0.size 0 (.slice ad 0 0)).run Tryz.prog w.drew=.ok #[] w.drew:=by
    cases ad with
    | none=>exact run_firstCells_none _ i0.size 0 0 0
    | some a=>exact run_firstCells_some _ i0.size 0 a 0 0 [] (by simp) (fun j v hj=>by cases hj)
  have hrz:∀ ty,(Builtin.append_ #[25,3] ty #[.slice ad 0 0,.int .i64 (n:Int)]).run Tryz.prog w =
      .ok (.slice (some ⟨w.heap.size,0,none⟩) n (grownCap w n 0 22)) (w.drew.alloc (.cells (Builtin.zeroCells z.cells n++Builtin.zeroCells z.cells (grownCap w n 0 22-n)) 22)):=fun ty=>by
    have h:=Lib.run_append_grow_zeros w 25 3 ty 22 i0 z .i64 .i64 Tryz.underlying25 Tryz.underlying3 hi0 hz0 ad 0 0 [] hold n hn (by omega) (by omega) (by omega) (by rw[hb]; omega) (by rw[acR]; exact growslice_fits hn (by rw[hb]; omega))
    simpa using h
  have hGn:n≤grownCap w n 0 22:=grownCap_ge w _ _ _;obtain⟨Gc,hG⟩:∃ G,G=grownCap w n 0 22:=⟨_,rfl⟩
  rw[← hG] at hrz hGn ⊢;have hG63:Gc≤9223372036854775807:=by
    have:=grownCap_le_maxLen w n 0 22 (by unfold maxLen; omega);rw[← hG] at this;unfold maxLen at this;omega
  go_enter Tryz.func132,Tryz.ntmps132
  cases ad with
  | none =>
    go_wp2_with (at_builtin; refine Lib.wpList_append_run _ rfl _ _ _ _ rfl _ _ rfl rfl _ _ (hrz _) ?_)
    all_goals (go_ret; exact⟨rfl,rfl⟩)
  | some a =>
    obtain⟨ab,ao,asp⟩:=a
    go_wp2_with (at_builtin; refine Lib.wpList_append_run _ rfl _ _ _ _ rfl _ _ rfl rfl _ _ (hrz _) ?_)
    all_goals (go_ret; exact⟨rfl,rfl⟩)
theorem S0 (w:World) (ad:Option Addr):Calls Tryz.prog 132 #[.slice ad 0 0,.int .i64 0] w fun e w'=>e=.returned (.slice ad 0 0)∧w'=w:=by
  go_enter Tryz.func132,Tryz.ntmps132
  cases ad with
  | none=>go_wp2; go_ret; exact⟨rfl,rfl⟩
  | some a =>
    obtain⟨ab,ao,asp⟩:=a
    go_wp2; go_ret; exact⟨rfl,rfl⟩
theorem Z8 (G:ah) (n:Nat) (h9:n≤1000000000000):ta Tryz.prog G 132 [.c .nil,.c (.d (.int .i64 (n:Int)))] (.w (.c (.fr 1 []))):=by
  intro w S vs hS hG hvs;cases hvs with
  | cons h1 h2 =>
    cases h2 with
    | cons h2 h3 =>
      cases h3;obtain⟨ad,rfl⟩:∃ ad,_=Value.slice ad 0 0:=h1
      cases h2;obtain⟨i0,z,hi0,hs0,hb,hz0,_,hzl,hz⟩:=jV (show jg Tryz.prog 22=some (1,24,.sl []) by kernel_rfl);have hz1:z.cells.size=1:=by
        have:=(hz S w).length
        simpa [D.cells] using this
      rcases acM n with rfl | hn
      ·refine (S0 w ad).mono ?_;rintro e w' ⟨rfl,rfl⟩;exact⟨_,S,[],rfl,Below.refl _ _,fun b i hs=>⟨.inl hs,hS b i hs⟩,List.nodup_nil,.inl ⟨⟨ad,rfl⟩,rfl,rfl⟩⟩
      ·refine (UB w ad n hn h9 i0 z hi0 hz0 hs0 hb).mono ?_;have hGn:n≤grownCap w n 0 22:=grownCap_ge w _ _ _;have hGm:=grownCap_le_maxLen w n 0 22 (by unfold maxLen; omega);generalize grownCap w n 0 22=Gc at *
       rintro e w' ⟨rfl,rfl⟩;have hsz:(Builtin.zeroCells z.cells n++Builtin.zeroCells z.cells (Gc-n)).size=Gc:=by
         simp only[Builtin.zeroCells,hz1,Array.size_append,Array.size_map,Array.size_range];omega
       refine⟨_,S,[w.heap.size],rfl,(Below.refl _ _).drew.alloc (abR _) _,fun b i hs=>⟨.inl hs,?_⟩,by simp,.inr ⟨w.heap.size,Gc,22,Gc,rfl,rfl,abM _,hGm,?_,by omega,abR _,fun i hi=>?_,⟨_,_,(0,0),heap_alloc_new w.drew _,kM _,by simp,fun i hi=>by cases hi⟩⟩⟩
       ·have:=hS b i hs;have h2:(w.drew.alloc (.cells (Builtin.zeroCells z.cells n++Builtin.zeroCells z.cells (Gc-n)) 22)).heap.size=w.heap.size+1:=by simp
        omega
       ·have:=Eu w.drew (Builtin.zeroCells z.cells n++Builtin.zeroCells z.cells (Gc-n)) 22 (0,0);rw[hsz] at this;exact this
       ·have:=hS _ i hi;omega
def wY (l:List (List UInt8)) (g:Nat) (caps:List D) (i:Nat):St:=⟨aT [(0,.w (.c (.d (eF l)))),(1,.w (.c (.d (.fn g caps)))),(7,.w (.c (.d (.int .i64 (l.length:Int))))),(8,.w (.c (.d (.int .i64 (i:Int)))))],hL [],uL []⟩
def nf (p:List UInt8→Bool) (l:List (List UInt8)):Int:=match l.findIdx? p with | some i=>(i:Int) | none=>-1
theorem OO {l:List (List UInt8)} {j:Nat} (h:j<l.length):l[j]?=some (l.getD j []):=by
  rw[abI,abF h]; rfl
theorem yK {l:List (List UInt8)} {j:Nat} (h:j<l.length):l.getD j []∈l:=by
  rw[abI,abF h]; exact aca h
theorem RL {p:List UInt8→Bool} {l:List (List UInt8)} {i:Nat} (h:i<l.length) (hp:p (l.getD i [])=true) (hn:∀ j,j<i→p (l.getD j [])=false):nf p l=(i:Int):=by
  have:l.findIdx? p=some i:=by
    rw[List.findIdx?_eq_some_iff_getElem];have e:∀ k (hk:k<l.length),l[k]=l.getD k []:=fun k hk=>by rw[abI,abF hk]; rfl
    refine⟨h,by rw[e i h]; exact hp,fun j hj=>?_⟩;rw[e j (by omega)]
    simpa using hn j hj
  unfold nf;rw[this]
theorem RN {p:List UInt8→Bool} {l:List (List UInt8)} (hn:∀ j,j<l.length→p (l.getD j [])=false):nf p l=-1:=by
  have:l.findIdx? p=none:=by
    rw[List.findIdx?_eq_none_iff];intro x hx;obtain⟨j,hj,rfl⟩:=acj hx;have:=hn j hj;rw[abI,abF hj] at this;exact this
  unfold nf;rw[this]
theorem S4 (p:List UInt8→Bool) (l:List (List UInt8)):decide (0≤nf p l)=l.any p:=by
  unfold nf;cases h:l.findIdx? p with
  | some i =>
    rw[List.findIdx?_eq_some_iff_getElem] at h;obtain⟨h1,h2,_⟩:=h;have:l.any p=true:=adG.2 ⟨_,aca h1,h2⟩;rw[this];exact decide_eq_true (by simp only; omega)
  | none =>
    rw[List.findIdx?_eq_none_iff] at h;have:l.any p=false:=ac4.2 fun x hx=>by rw[h x hx]; simp
    rw[this];rfl
def ut:aS := .seq (.reg [oO 9 (.bin .lss (.t 8) (.t 7))]) (.seq (.cond (.t 9) (.skip) (.exit 0)) (.seq (.block 1 (.seq (.reg [oM 10 8,oM 5 10]) (.seq (.reg [oM 11 1,oM 12 0,oM 13 5,oO 14 (.idxSl 1 (.t 12) (.t 13)),oO 15 (.load .sc (.t 14)),oO 16 (.call 1000000007 [(.t 11),(.t 15)] none)]) (.cond (.t 16) (.seq (.reg [oM 17 5,oM 4 17]) (.ret)) (.skip))))) (.reg [oO 18 (.bin .add (.t 8) (kI 1)),oM 8 18])))
def JG:aG:=⟨2,19,.seq (.reg [oO 4 (.mv (kI 0))]) (.seq (.seq (.reg [oM 6 0,oO 7 (.len (.t 6)),oO 8 (.mv (kI 0))]) (.block 0 (.loop ut))) (.seq (.reg [oO 4 (.mv (.k (.c (.d (.int .i64 (-1))))))]) (.ret))),[(4,none)]⟩
theorem UC:aF Tryz.prog { own:=[],comp:=[],frz:=[],nils:=[] } Tryz.f108=some JG:=by kernel_rfl
theorem Xp (G:ah) (l:List (List UInt8)) (g:Nat) (caps:List D) (p:List UInt8→Bool) (hl:l.length≤9223372036854775807) (hp:∀ x∈l,qw Tryz.prog G g caps [.sl (x.map bD)] (.w (.c (.d (.bool (p x)))))):aB Tryz.prog G 108 [eF l,.fn g caps] (.w (.c (.d (.int .i64 (nf p l))))):=by
  refine aI Tryz.func108 UC rfl rfl ?_;simp only[JG,af,ae,aa,seval,iteOmega,toNatUp];refine ba (wY l g caps) (fun i=>l.length-i) (fun i=>i≤l.length∧∀ j,j<i→p (l.getD j [])=false) 0 ⟨abM _,fun j hj=>by omega⟩ ?_ ?_
  ·refine ap (fun i=>0) ?_ ?_ rfl rfl <;> simp only[wx,aj,ar,aa,seval,iteOmega,toNatUp] <;> rfl
  ·rintro i ⟨hi,hn⟩;by_cases hlt:i<l.length
   ·have g1:=OO hlt;have hd:=hp _ (yK hlt);cases hpi:p (l.getD i [])
    ·rw[hpi] at hd;simp only[ut,wY,ae,aa,seval,iteOmega,toNatUp,aD,g1];refine GO hd rfl (.inl rfl) ?_;simp only[ae,aa,seval,iteOmega,toNatUp];refine aU (i+1) (by omega) ⟨by omega,fun j hj=>?_⟩ (ap (fun i=>0) ?_ ?_ rfl rfl)
     ·rcases ab1 j i with h | h
      ·exact hn j h
      ·obtain rfl:j=i:=by omega
       exact hpi
     all_goals simp only[wx,aj,ar,aa,seval,iteOmega,toNatUp]
    ·rw[hpi] at hd;rw[RL hlt hpi hn];simp only[ut,wY,ae,aa,seval,iteOmega,toNatUp,aD,g1];refine GO hd rfl (.inl rfl) ?_;simp only[ae,aa,seval,iteOmega,toNatUp];exact aM
   ·rw[RN fun j hj=>hn j (by omega)];simp only[ut,wY,ae,aa,seval,iteOmega,toNatUp];exact aM
def Ar:aG:=⟨2,9,.seq (.reg [oO 4 (.mv (.k (.c (.d (.bool false)))))]) (.seq (.reg [oM 5 0,oM 6 1,oO 7 (.call 108 [(.t 5),(.t 6)] none),oO 8 (.bin .geq (.t 7) (kI 0)),oM 4 8]) (.ret)),[(4,none)]⟩
theorem UD:aF Tryz.prog { own:=[],comp:=[],frz:=[],nils:=[] } Tryz.f83=some Ar:=by kernel_rfl
theorem MG (G:ah) (l:List (List UInt8)) (g:Nat) (caps:List D) (p:List UInt8→Bool) (hl:l.length≤9223372036854775807) (hp:∀ x∈l,qw Tryz.prog G g caps [.sl (x.map bD)] (.w (.c (.d (.bool (p x)))))):aB Tryz.prog G 83 [eF l,.fn g caps] (.w (.c (.d (.bool (l.any p))))):=by
  refine aI Tryz.func83 UD rfl rfl ?_;have hi:=Xp G l g caps p hl hp;rw[← S4];generalize nf p l=n at *
  by_cases h:0≤n
  ·have hd:decide (0≤n)=true:=decide_eq_true h;rw[hd];simp only[Ar,af,ae,aa,seval,iteOmega,toNatUp];refine sD (hi) ?_;exact aM
  ·have hd:decide (0≤n)=false:=decide_eq_false h;have h2:n<0:=by omega
   rw[hd];simp only[Ar,af,ae,aa,seval,iteOmega,toNatUp];refine sD (hi) ?_;exact aM
def Bh (ls:List (List (List UInt8))) (i:Nat):St:=⟨aT [(0,.w (.c (.d (.sl (ls.map eF))))),(3,.w (.c (.d (.int .i64 ((ls.take i).flatten.length:Int))))),(9,.w (.c (.d (.sl (ls.map eF))))),(10,.w (.c (.d (.int .i64 (ls.length:Int))))),(11,.w (.c (.d (.int .i64 (i:Int)))))],hL [],uL []⟩
def Bi (ls:List (List (List UInt8))) (i:Nat):St:=⟨aT [(6,.w (.c (.own 1 1 0 (ls.take i).flatten.length))),(25,.w (.c (.d (.sl (ls.map eF))))),(26,.w (.c (.d (.int .i64 (ls.length:Int))))),(27,.w (.c (.d (.int .i64 (i:Int)))))],hL [(1,.row 1 ((ls.take i).flatten.map fun l=>D.sl (l.map bD)))],uL [1]⟩
theorem yt (ls:List (List (List UInt8))) {i:Nat} (h:i<ls.length):(ls.take (i+1)).flatten=(ls.take i).flatten++ls.getD i []:=by
  rw[abI,abF h,acN h,List.flatten_append]; simp
theorem HC (ls:List (List (List UInt8))) {i:Nat} (h:i<ls.length):(ls.take i).flatten.length+(ls.getD i []).length≤ls.flatten.length:=by
  rw[← abJ,← yt ls h]
  conv=>rhs; rw[← acl (i+1) ls]
  rw[List.flatten_append,abJ]; omega
theorem OP {l:List (List (List UInt8))} {j:Nat} (h:j<l.length):l[j]?=some (l.getD j []):=by
  rw[abI,abF h]; rfl
def yL:aS := .seq (.reg [oO 12 (.bin .lss (.t 11) (.t 10))]) (.seq (.cond (.t 12) (.skip) (.exit 0)) (.seq (.block 1 (.seq (.reg [oO 13 (.idxSl 1 (.t 9) (.t 11)),oO 14 (.load .sc (.t 13)),oM 5 14]) (.seq (.reg [oM 15 3,oM 16 5,oO 17 (.len (.t 16)),oO 18 (.bin .add (.t 15) (.t 17)),oM 3 18]) (.seq (.reg [oM 19 3,oO 20 (.bin .lss (.t 19) (kI 0))]) (.cond (.t 20) (.reg [oN (.lenStr .u)]) (.skip)))))) (.reg [oO 22 (.bin .add (.t 11) (kI 1)),oM 11 22])))
def yM:aS := .seq (.reg [oO 28 (.bin .lss (.t 27) (.t 26))]) (.seq (.cond (.t 28) (.skip) (.exit 2)) (.seq (.block 3 (.seq (.reg [oO 29 (.idxSl 1 (.t 25) (.t 27)),oO 30 (.load .sc (.t 29)),oM 8 30]) (.reg [oM 31 6,oM 32 8,oO 33 (.app false 1 24 (.t 31) (.t 32)),oM 6 33]))) (.reg [oO 34 (.bin .add (.t 27) (kI 1)),oM 27 34])))
def JH:aG:=⟨1,36,.seq (.reg [oO 2 (.mv (.k (.c .nil)))]) (.seq (.reg [oO 3 (.mv (kI 0))]) (.seq (.seq (.reg [oM 9 0,oO 10 (.len (.t 9)),oO 11 (.mv (kI 0))]) (.block 0 (.loop yL))) (.seq (.reg [oM 23 3,oO 24 (.call 132 [(.k (.c .nil)),(.t 23)] (some (0,1))),oM 6 24]) (.seq (.seq (.reg [oM 25 0,oO 26 (.len (.t 25)),oO 27 (.mv (kI 0))]) (.block 2 (.loop yM))) (.seq (.reg [oM 35 6,oM 2 35]) (.ret)))))),[(2,none)]⟩
theorem UE:aF Tryz.prog { own:=[24],comp:=[],frz:=[],nils:=[],bad:=true } Tryz.f117=some JH:=by kernel_rfl
theorem Xq (G:ah) (ls:List (List (List UInt8))) (hl:ls.length≤9223372036854775807) (hf:ls.flatten.length≤1000000000):aB Tryz.prog G 117 [.sl (ls.map eF)] (.w (.c (.fr 1 (ls.flatten.map fun l=>D.sl (l.map bD))))):=by
  refine aI Tryz.func117 UE rfl rfl ?_;simp only[JH,af,ae,aa,seval,iteOmega,toNatUp];refine ba (Bh ls) (fun i=>ls.length-i) (fun i=>i≤ls.length) 0 (abM _) ?_ ?_
  ·refine ap (fun i=>0) ?_ ?_ rfl rfl <;> simp only[wx,aj,ar,aa,seval,iteOmega,toNatUp] <;> rfl
  ·intro i hi;by_cases hlt:i<ls.length
   ·have g1:=OP hlt;have h5:=HC ls hlt;have h6:=yt ls hlt;have h7:(ls.take (i+1)).flatten.length=(ls.take i).flatten.length+(ls.getD i []).length:=by rw[h6,abJ]
    simp only[yL,Bh,ae,aa,seval,iteOmega,toNatUp,aD,g1];refine aU (i+1) (by omega) (by omega) (ap (fun i=>0) ?_ ?_ rfl rfl) <;> simp only[wx,aj,ar,aa,seval,iteOmega,toNatUp,h7]
   ·have ht:ls.take i=ls:=abH (by omega);have hg:=Z8 G ls.flatten.length (by omega);simp only[yL,Bh,ae,aa,seval,iteOmega,toNatUp,ht];refine SI hg rfl rfl (.inl rfl) ?_;simp only[ae,aa,seval,iteOmega,toNatUp];refine ba (Bi ls) (fun i=>ls.length-i) (fun i=>i≤ls.length) 0 (abM _) ?_ ?_
    ·refine ap (fun i=>192) ?_ ?_ rfl rfl <;> simp only[wx,aj,ar,aa,seval,iteOmega,toNatUp] <;> rfl
    ·intro i hi;by_cases hlt:i<ls.length
     ·have g1:=OP hlt;have h5:=HC ls hlt;have h6:=yt ls hlt;simp only[yM,Bi,ae,aa,seval,iteOmega,toNatUp,aD,g1,bQ,fP];refine aU (i+1) (by omega) (by omega) (ap (fun i=>264) ?_ ?_ rfl rfl) <;> simp only[wx,aj,ar,aa,seval,iteOmega,toNatUp,h6]
     ·have ht:ls.take i=ls:=abH (by omega);simp only[yM,Bi,ae,aa,seval,iteOmega,toNatUp,ht];exact eI (id:=1) (n:=ls.flatten.length) (s:=1) (by simp only[wx,aa,seval,iteOmega,toNatUp]) (by simp only[wx,aa,seval,iteOmega,toNatUp]) (by simp only[abY])
theorem Xr (G:ah) (ls:List (List (List UInt8))) (hl:ls.length≤9223372036854775807) (hf:ls.flatten.length≤1000000000):aB Tryz.prog G 117 [.sl (ls.map eF)] (.w (.c (.d (.sl (ls.flatten.map fun l=>D.sl (l.map bD)))))):=kW (Xq G ls hl hf)
end Go.Proofs.YtofonnokanoflaaGreat
