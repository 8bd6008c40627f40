/- Texts of one's own, merged: from: Package slices on data: Grow of nil (the kit's walk),Concat,ContainsFunc over lists of bytes. Own work. -/
import Derived.Lib.AppendZerosOnto
import Derived.Lib.Walk
import Derived.Test.YtnjhelpgohdajaaGreatDoorMg110
set_option linter.unusedVariables false
set_option linter.unusedSimpArgs false
namespace Go.Proofs.YtnjhelpgohdajaaGreatDoor
open Go.RowKit IntWalk
set_option maxHeartbeats 1600000
attribute [local go_sem] Oper.semAt_some
abbrev dI (l:List (List UInt8)):D:=.sl (l.map fun l=>D.sl (l.map bD))
set_option maxRecDepth 20000 in
theorem ad5 (w:World) (ad:Option Addr) (n:Nat) (hn:0<n) (h9:n≤1000000000000) (i0:TypeInfo) (z:Value) (hi0:Tryz.prog.info? 29=some i0) (hz0:i0.zero=some z) (hs0:i0.size=1) (hb:i0.bytes=24) :
    Calls Tryz.prog 161 #[.slice ad 0 0,.int .i64 n] w fun e w' =>
      e=.returned (.slice (some ⟨w.heap.size,0,none⟩) 0 (grownCap w n 0 29))∧w'=w.drew.alloc (.cells (Builtin.zeroCells z.cells n++Builtin.zeroCells z.cells (grownCap w n 0 29-n)) 29):=by
  have h1:¬ ((n:Int)<0):=by omega
  have hold:(Builtin.firstCells i0.size 0 (.slice ad 0 0)).run Tryz.prog w.drew=.ok #[] w.drew:=by
    cases ad with
    | none=>exact run_firstCells_none _ i0.size 0 0 0
    | some a=>exact run_firstCells_some _ i0.size 0 a 0 0 [] (by simp) (fun j v hj=>by cases hj)
  have hrz:∀ ty,(Builtin.append_ #[32,3] ty #[.slice ad 0 0,.int .i64 (n:Int)]).run Tryz.prog w =
      .ok (.slice (some ⟨w.heap.size,0,none⟩) n (grownCap w n 0 29)) (w.drew.alloc (.cells (Builtin.zeroCells z.cells n++Builtin.zeroCells z.cells (grownCap w n 0 29-n)) 29)):=fun ty=>by
    have h:=Lib.run_append_grow_zeros w 32 3 ty 29 i0 z .i64 .i64 Tryz.underlying32 Tryz.underlying3 hi0 hz0 ad 0 0 [] hold n hn (by omega) (by omega) (by omega) (by rw[hb]; omega) (by rw[aqO]; exact growslice_fits hn (by rw[hb]; omega))
    simpa using h
  have hGn:n≤grownCap w n 0 29:=grownCap_ge w _ _ _;obtain⟨Gc,hG⟩:∃ G,G=grownCap w n 0 29:=⟨_,rfl⟩
  rw[← hG] at hrz hGn ⊢;have hG63:Gc≤9223372036854775807:=by
    have:=grownCap_le_maxLen w n 0 29 (by unfold maxLen; omega);rw[← hG] at this;unfold maxLen at this;omega
  go_enter Tryz.func161,Tryz.ntmps161
  cases ad with
  | none =>
    go_wp2_with (at_builtin; refine Lib.wpList_append_run _ rfl _ _ _ _ rfl _ _ rfl rfl _ _ (hrz _) ?_)
    all_goals (go_ret; exact⟨rfl,rfl⟩)
  | some a =>
    obtain⟨ab,ao,asp⟩:=a
    go_wp2_with (at_builtin; refine Lib.wpList_append_run _ rfl _ _ _ _ rfl _ _ rfl rfl _ _ (hrz _) ?_)
    all_goals (go_ret; exact⟨rfl,rfl⟩)
theorem aa1 (w:World) (ad:Option Addr):Calls Tryz.prog 161 #[.slice ad 0 0,.int .i64 0] w fun e w'=>e=.returned (.slice ad 0 0)∧w'=w:=by
  go_enter Tryz.func161,Tryz.ntmps161
  cases ad with
  | none=>go_wp2; go_ret; exact⟨rfl,rfl⟩
  | some a =>
    obtain⟨ab,ao,asp⟩:=a
    go_wp2; go_ret; exact⟨rfl,rfl⟩
theorem anq (G:au) (n:Nat) (h9:n≤1000000000000):zs Tryz.prog G 161 [.c .nil,.c (.d (.int .i64 (n:Int)))] (.w (.c (.fr 1 []))):=by
  intro w S vs hS hG hvs;cases hvs with
  | cons h1 h2 =>
    cases h2 with
    | cons h2 h3 =>
      cases h3;obtain⟨ad,rfl⟩:∃ ad,_=Value.slice ad 0 0:=h1
      cases h2;obtain⟨i0,z,hi0,hs0,hb,hz0,_,hzl,hz⟩:=mr (show mI Tryz.prog 29=some (1,24,.sl []) by kernel_rfl);have hz1:z.cells.size=1:=by
        have:=(hz S w).length
        simpa [D.cells] using this
      rcases arh n with rfl | hn
      ·refine (aa1 w ad).mono ?_;rintro e w' ⟨rfl,rfl⟩;exact⟨_,S,[],rfl,Below.refl _ _,fun b i hs=>⟨.inl hs,hS b i hs⟩,List.nodup_nil,.inl ⟨⟨ad,rfl⟩,rfl,rfl⟩⟩
      ·refine (ad5 w ad n hn h9 i0 z hi0 hz0 hs0 hb).mono ?_;have hGn:n≤grownCap w n 0 29:=grownCap_ge w _ _ _;have hGm:=grownCap_le_maxLen w n 0 29 (by unfold maxLen; omega);generalize grownCap w n 0 29=Gc at *
       rintro e w' ⟨rfl,rfl⟩;have hsz:(Builtin.zeroCells z.cells n++Builtin.zeroCells z.cells (Gc-n)).size=Gc:=by
         simp only[Builtin.zeroCells,hz1,Array.size_append,Array.size_map,Array.size_range];omega
       refine⟨_,S,[w.heap.size],rfl,(Below.refl _ _).drew.alloc (ap3 _) _,fun b i hs=>⟨.inl hs,?_⟩,by simp,.inr ⟨w.heap.size,Gc,29,Gc,rfl,rfl,apZ _,hGm,?_,by omega,ap3 _,fun i hi=>?_,⟨_,_,(0,0),heap_alloc_new w.drew _,oW _,by simp,fun i hi=>by cases hi⟩⟩⟩
       ·have:=hS b i hs;have h2:(w.drew.alloc (.cells (Builtin.zeroCells z.cells n++Builtin.zeroCells z.cells (Gc-n)) 29)).heap.size=w.heap.size+1:=by simp
        omega
       ·have:=Mg w.drew (Builtin.zeroCells z.cells n++Builtin.zeroCells z.cells (Gc-n)) 29 (0,0);rw[hsz] at this;exact this
       ·have:=hS _ i hi;omega
def C2 (l:List (List UInt8)) (g:Nat) (caps:List D) (i:Nat):St:=⟨bw [(0,.w (.c (.d (dI l)))),(1,.w (.c (.d (.fn g caps)))),(7,.w (.c (.d (.int .i64 (l.length:Int))))),(8,.w (.c (.d (.int .i64 (i:Int)))))],hL [],uL []⟩
def sJ (p:List UInt8→Bool) (l:List (List UInt8)):Int:=match l.findIdx? p with | some i=>(i:Int) | none=>-1
theorem anr {l:List (List UInt8)} {j:Nat} (h:j<l.length):l[j]?=some (l.getD j []):=by
  rw[apT,apR h]; rfl
theorem Yw {l:List (List UInt8)} {j:Nat} (h:j<l.length):l.getD j []∈l:=by
  rw[apT,apR h]; exact aqr h
theorem Yx {p:List UInt8→Bool} {l:List (List UInt8)} {i:Nat} (h:i<l.length) (hp:p (l.getD i [])=true) (hn:∀ j,j<i→p (l.getD j [])=false):sJ p l=(i:Int):=by
  have:l.findIdx? p=some i:=by
    rw[ard];have e:∀ k (hk:k<l.length),l[k]=l.getD k []:=fun k hk=>by rw[apT,apR hk]; rfl
    refine⟨h,by rw[e i h]; exact hp,fun j hj=>?_⟩;rw[e j (by omega)]
    simpa using hn j hj
  unfold sJ;rw[this]
theorem Yy {p:List UInt8→Bool} {l:List (List UInt8)} (hn:∀ j,j<l.length→p (l.getD j [])=false):sJ p l=-1:=by
  have:l.findIdx? p=none:=by
    rw[List.findIdx?_eq_none_iff];intro x hx;obtain⟨j,hj,rfl⟩:=aqs hx;have:=hn j hj;rw[apT,apR hj] at this;exact this
  unfold sJ;rw[this]
theorem aa2 (p:List UInt8→Bool) (l:List (List UInt8)):decide (0≤sJ p l)=l.any p:=by
  unfold sJ;cases h:l.findIdx? p with
  | some i =>
    rw[ard] at h;obtain⟨h1,h2,_⟩:=h;have:l.any p=true:=aqP.2 ⟨_,aqr h1,h2⟩;rw[this];exact decide_eq_true (by simp only; omega)
  | none =>
    rw[List.findIdx?_eq_none_iff] at h;have:l.any p=false:=aqU.2 fun x hx=>by rw[h x hx]; simp
    rw[this];rfl
def Az:bp := ae [aU .lss 9 8 7] (.seq (ar 9 .skip (.exit 0)) (.seq (.block 1 (ae [oM 10 8,oM 5 10] (ae [oM 11 1,oM 12 0,oM 13 5,bU 14 1 12 13,aA 15 14,ct 16 1000000007 11 15] (ar 16 (ae [oM 17 5,oM 4 17] .ret) .skip)))) (.reg [ak .add 18 8 1,oM 8 18])))
def P8:aO:=⟨2,19,ae [am 4 0] (.seq (ae [oM 6 0,bd 7 6,am 8 0] (.block 0 (.loop Az))) (ae [oO 4 (.mv (.k (.c (.d (.int .i64 (-1))))))] .ret)),[(4,none)]⟩
theorem ad6:aM Tryz.prog {} Tryz.f150=some P8:=by kernel_rfl
theorem ai7 (G:au) (l:List (List UInt8)) (g:Nat) (caps:List D) (p:List UInt8→Bool) (hl:l.length≤9223372036854775807) (hp:∀ x∈l,oo Tryz.prog G g caps [.sl (x.map bD)] (.w (.c (.d (.bool (p x)))))):aF Tryz.prog G 150 [dI l,.fn g caps] (.w (.c (.d (.int .i64 (sJ p l))))):=by
  refine aX Tryz.func150 ad6 rfl rfl ?_;simp only[P8,ai,af,seval];refine bO (C2 l g caps) (fun i=>l.length-i) (fun i=>i≤l.length∧∀ j,j<i→p (l.getD j [])=false) 0 ⟨apZ _,fun j hj=>by omega⟩ ?_ ?_
  ·refine aR (fun i=>0) ?_ ?_ rfl rfl <;> simp only[wx,aH,seval] <;> rfl
  ·rintro i ⟨hi,hn⟩;by_cases hlt:i<l.length
   ·have g1:=anr hlt;have hd:=hp _ (Yw hlt);cases hpi:p (l.getD i [])
    ·rw[hpi] at hd;simp only[Az,C2,af,seval,iteOmega,toNatUp,bc,g1];refine uZ hd rfl (.inl rfl) ?_;simp only[af,seval,iteOmega];refine bA (i+1) (by omega) ⟨by omega,fun j hj=>?_⟩ (aR (fun i=>0) ?_ ?_ rfl rfl)
     ·rcases aqk j i with h | h
      ·exact hn j h
      ·obtain rfl:j=i:=by omega
       exact hpi
     all_goals simp only[wx,aH,aV,seval]
    ·rw[hpi] at hd;rw[Yx hlt hpi hn];simp only[Az,C2,af,seval,iteOmega,toNatUp,bc,g1];refine uZ hd rfl (.inl rfl) ?_;simp only[af,seval];exact aZ
   ·rw[Yy fun j hj=>hn j (by omega)];simp only[Az,C2,af,seval,iteOmega];exact aZ
def Hl:aO:=⟨2,9,ae [bG 4 false] (ae [oM 5 0,oM 6 1,ct 7 150 5 6,ak .geq 8 7 0,oM 4 8] .ret),[(4,none)]⟩
theorem ad7:aM Tryz.prog {} Tryz.f123=some Hl:=by kernel_rfl
theorem RX (G:au) (l:List (List UInt8)) (g:Nat) (caps:List D) (p:List UInt8→Bool) (hl:l.length≤9223372036854775807) (hp:∀ x∈l,oo Tryz.prog G g caps [.sl (x.map bD)] (.w (.c (.d (.bool (p x)))))):aF Tryz.prog G 123 [dI l,.fn g caps] (.w (.c (.d (.bool (l.any p))))):=by
  refine aX Tryz.func123 ad7 rfl rfl ?_;have hi:=ai7 G l g caps p hl hp;rw[← aa2];generalize sJ p l=n at *
  by_cases h:0≤n
  ·have hd:decide (0≤n)=true:=decide_eq_true h;rw[hd];simp only[Hl,ai,af,seval];refine sD (hi) ?_;exact aZ
  ·have hd:decide (0≤n)=false:=decide_eq_false h;have h2:n<0:=by omega
   rw[hd];simp only[Hl,ai,af,seval];refine sD (hi) ?_;exact aZ
def Iz (ls:List (List (List UInt8))) (i:Nat):St:=⟨bw [(0,.w (.c (.d (.sl (ls.map dI))))),(3,.w (.c (.d (.int .i64 ((ls.take i).flatten.length:Int))))),(9,.w (.c (.d (.sl (ls.map dI))))),(10,.w (.c (.d (.int .i64 (ls.length:Int))))),(11,.w (.c (.d (.int .i64 (i:Int)))))],hL [],uL []⟩
def IA (ls:List (List (List UInt8))) (i:Nat):St:=⟨bw [(6,.w (.c (.own 1 1 0 (ls.take i).flatten.length))),(25,.w (.c (.d (.sl (ls.map dI))))),(26,.w (.c (.d (.int .i64 (ls.length:Int))))),(27,.w (.c (.d (.int .i64 (i:Int)))))],hL [(1,.row 1 ((ls.take i).flatten.map fun l=>D.sl (l.map bD)))],uL [1]⟩
theorem Fc (ls:List (List (List UInt8))) {i:Nat} (h:i<ls.length):(ls.take (i+1)).flatten=(ls.take i).flatten++ls.getD i []:=by
  rw[apT,apR h,aqT h,List.flatten_append]; simp
theorem Og (ls:List (List (List UInt8))) {i:Nat} (h:i<ls.length):(ls.take i).flatten.length+(ls.getD i []).length≤ls.flatten.length:=by
  rw[← apS,← Fc ls h]
  conv=>rhs; rw[← aqq (i+1) ls]
  rw[List.flatten_append,apS]; omega
theorem Ug {l:List (List (List UInt8))} {j:Nat} (h:j<l.length):l[j]?=some (l.getD j []):=by
  rw[apT,apR h]; rfl
def Fz:bp := ae [aU .lss 12 11 10] (.seq (ar 12 .skip (.exit 0)) (.seq (.block 1 (ae [bU 13 1 9 11,aA 14 13,oM 5 14] (ae [oM 15 3,oM 16 5,bd 17 16,aU .add 18 15 17,oM 3 18] (ae [oM 19 3,ak .lss 20 19 0] (ar 20 (.reg [oN (.lenStr .u)]) .skip))))) (.reg [ak .add 22 11 1,oM 11 22])))
def FA:bp := ae [aU .lss 28 27 26] (.seq (ar 28 .skip (.exit 2)) (.seq (.block 3 (ae [bU 29 1 25 27,aA 30 29,oM 8 30] (.reg [oM 31 6,oM 32 8,oO 33 (.app false 1 24 (.t 31) (.t 32)),oM 6 33]))) (.reg [ak .add 34 27 1,oM 27 34])))
def P9:aO:=⟨1,36,ae [aQ 2] (ae [am 3 0] (.seq (ae [oM 9 0,bd 10 9,am 11 0] (.block 0 (.loop Fz))) (ae [oM 23 3,oO 24 (.call 161 [(.k (.c .nil)),(.t 23)] (some (0,1))),oM 6 24] (.seq (ae [oM 25 0,bd 26 25,am 27 0] (.block 2 (.loop FA))) (ae [oM 35 6,oM 2 35] .ret))))),[(2,none)]⟩
theorem ad8:aM Tryz.prog { own:=[24],bad:=true } Tryz.f142=some P9:=by kernel_rfl
theorem ai8 (G:au) (ls:List (List (List UInt8))) (hl:ls.length≤9223372036854775807) (hf:ls.flatten.length≤1000000000):aF Tryz.prog G 142 [.sl (ls.map dI)] (.w (.c (.fr 1 (ls.flatten.map fun l=>D.sl (l.map bD))))):=by
  refine aX Tryz.func142 ad8 rfl rfl ?_;simp only[P9,ai,af,seval];refine bO (Iz ls) (fun i=>ls.length-i) (fun i=>i≤ls.length) 0 (apZ _) ?_ ?_
  ·refine aR (fun i=>0) ?_ ?_ rfl rfl <;> simp only[wx,aH,seval] <;> rfl
  ·intro i hi;by_cases hlt:i<ls.length
   ·have g1:=Ug hlt;have h5:=Og ls hlt;have h6:=Fc ls hlt;have h7:(ls.take (i+1)).flatten.length=(ls.take i).flatten.length+(ls.getD i []).length:=by rw[h6,apS]
    simp only[Fz,Iz,af,seval,iteOmega,toNatUp,bc,g1];refine bA (i+1) (by omega) (by omega) (aR (fun i=>0) ?_ ?_ rfl rfl) <;> simp only[wx,aH,aV,seval,h7]
   ·have ht:ls.take i=ls:=apX (by omega);have hg:=anq G ls.flatten.length (by omega);simp only[Fz,Iz,af,seval,iteOmega,ht];refine Z2 hg rfl rfl (.inl rfl) ?_;simp only[af,seval];refine bO (IA ls) (fun i=>ls.length-i) (fun i=>i≤ls.length) 0 (apZ _) ?_ ?_
    ·refine aR (fun i=>192) ?_ ?_ rfl rfl <;> simp only[wx,aH,seval] <;> rfl
    ·intro i hi;by_cases hlt:i<ls.length
     ·have g1:=Ug hlt;have h5:=Og ls hlt;have h6:=Fc ls hlt;simp only[FA,IA,af,seval,iteOmega,toNatUp,bc,g1,cg,mq];refine bA (i+1) (by omega) (by omega) (aR (fun i=>264) ?_ ?_ rfl rfl) <;> simp only[wx,aH,aV,seval,h6]
     ·have ht:ls.take i=ls:=apX (by omega);simp only[FA,IA,af,seval,iteOmega,ht];exact iV (id:=1) (n:=ls.flatten.length) (s:=1) (by simp only[wx,seval]) (by simp only[wx,seval]) (by simp only[ap1])
theorem ai9 (G:au) (ls:List (List (List UInt8))) (hl:ls.length≤9223372036854775807) (hf:ls.flatten.length≤1000000000):aF Tryz.prog G 142 [.sl (ls.map dI)] (.w (.c (.d (.sl (ls.flatten.map fun l=>D.sl (l.map bD)))))):=qw (ai8 G ls hl hf)
end Go.Proofs.YtnjhelpgohdajaaGreatDoor
