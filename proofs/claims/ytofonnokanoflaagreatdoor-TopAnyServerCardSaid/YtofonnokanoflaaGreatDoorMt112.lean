/- Texts of one's own, merged: from: Package slices on data: Grow of nil (the kit's walk),Concat,ContainsFunc over lists of bytes. Own work. -/
import Derived.Lib.AppendZerosOnto
import Derived.Lib.Walk
import Derived.Test.YtofonnokanoflaaGreatDoorMt110
set_option linter.unusedVariables false
set_option linter.unusedSimpArgs false
namespace Go.Proofs.YtofonnokanoflaaGreatDoor
open Go.RowKit IntWalk
set_option maxHeartbeats 1600000
attribute [local go_sem] Oper.semAt_some
abbrev dH (l:List (List UInt8)):D:=.sl (l.map fun l=>D.sl (l.map bD))
set_option maxRecDepth 20000 in
theorem aeL (w:World) (ad:Option Addr) (n:Nat) (hn:0<n) (h9:n≤1000000000000) (i0:TypeInfo) (z:Value) (hi0:Tryz.prog.info? 29=some i0) (hz0:i0.zero=some z) (hs0:i0.size=1) (hb:i0.bytes=24) :
    Calls Tryz.prog 173 #[.slice ad 0 0,.int .i64 n] w fun e w' =>
      e=.returned (.slice (some ⟨w.heap.size,0,none⟩) 0 (grownCap w n 0 29))∧w'=w.drew.alloc (.cells (Builtin.zeroCells z.cells n++Builtin.zeroCells z.cells (grownCap w n 0 29-n)) 29):=by
  have h1:¬ ((n:Int)<0):=by omega
  have hold:(Builtin.firstCells i0.size 0 (.slice ad 0 0)).run Tryz.prog w.drew=.ok #[] w.drew:=by
    cases ad with
    | none=>exact run_firstCells_none _ i0.size 0 0 0
    | some a=>exact run_firstCells_some _ i0.size 0 a 0 0 [] (by simp) (fun j v hj=>by cases hj)
  have hrz:∀ ty,(Builtin.append_ #[32,3] ty #[.slice ad 0 0,.int .i64 (n:Int)]).run Tryz.prog w =
      .ok (.slice (some ⟨w.heap.size,0,none⟩) n (grownCap w n 0 29)) (w.drew.alloc (.cells (Builtin.zeroCells z.cells n++Builtin.zeroCells z.cells (grownCap w n 0 29-n)) 29)):=fun ty=>by
    have h:=Lib.run_append_grow_zeros w 32 3 ty 29 i0 z .i64 .i64 Tryz.underlying32 Tryz.underlying3 hi0 hz0 ad 0 0 [] hold n hn (by omega) (by omega) (by omega) (by rw[hb]; omega) (by rw[aph]; exact growslice_fits hn (by rw[hb]; omega))
    simpa using h
  have hGn:n≤grownCap w n 0 29:=grownCap_ge w _ _ _;obtain⟨Gc,hG⟩:∃ G,G=grownCap w n 0 29:=⟨_,rfl⟩
  rw[← hG] at hrz hGn ⊢;have hG63:Gc≤9223372036854775807:=by
    have:=grownCap_le_maxLen w n 0 29 (by unfold maxLen; omega);rw[← hG] at this;unfold maxLen at this;omega
  go_enter Tryz.func173,Tryz.ntmps173
  cases ad with
  | none =>
    go_wp2_with (at_builtin; refine Lib.wpList_append_run _ rfl _ _ _ _ rfl _ _ rfl rfl _ _ (hrz _) ?_)
    all_goals (go_ret; exact⟨rfl,rfl⟩)
  | some a =>
    obtain⟨ab,ao,asp⟩:=a
    go_wp2_with (at_builtin; refine Lib.wpList_append_run _ rfl _ _ _ _ rfl _ _ rfl rfl _ _ (hrz _) ?_)
    all_goals (go_ret; exact⟨rfl,rfl⟩)
theorem acz (w:World) (ad:Option Addr):Calls Tryz.prog 173 #[.slice ad 0 0,.int .i64 0] w fun e w'=>e=.returned (.slice ad 0 0)∧w'=w:=by
  go_enter Tryz.func173,Tryz.ntmps173
  cases ad with
  | none=>go_wp2; go_ret; exact⟨rfl,rfl⟩
  | some a =>
    obtain⟨ab,ao,asp⟩:=a
    go_wp2; go_ret; exact⟨rfl,rfl⟩
theorem amb (G:au) (n:Nat) (h9:n≤1000000000000):yT Tryz.prog G 173 [.c .nil,.c (.d (.int .i64 (n:Int)))] (.w (.c (.fr 1 []))):=by
  intro w S vs hS hG hvs;cases hvs with
  | cons h1 h2 =>
    cases h2 with
    | cons h2 h3 =>
      cases h3;obtain⟨ad,rfl⟩:∃ ad,_=Value.slice ad 0 0:=h1
      cases h2;obtain⟨i0,z,hi0,hs0,hb,hz0,_,hzl,hz⟩:=nM (show mi Tryz.prog 29=some (1,24,.sl []) by kernel_rfl);have hz1:z.cells.size=1:=by
        have:=(hz S w).length
        simpa [D.cells] using this
      rcases apt n with rfl | hn
      ·refine (acz w ad).mono ?_;rintro e w' ⟨rfl,rfl⟩;exact⟨_,S,[],rfl,Below.refl _ _,fun b i hs=>⟨.inl hs,hS b i hs⟩,List.nodup_nil,.inl ⟨⟨ad,rfl⟩,rfl,rfl⟩⟩
      ·refine (aeL w ad n hn h9 i0 z hi0 hz0 hs0 hb).mono ?_;have hGn:n≤grownCap w n 0 29:=grownCap_ge w _ _ _;have hGm:=grownCap_le_maxLen w n 0 29 (by unfold maxLen; omega);generalize grownCap w n 0 29=Gc at *
       rintro e w' ⟨rfl,rfl⟩;have hsz:(Builtin.zeroCells z.cells n++Builtin.zeroCells z.cells (Gc-n)).size=Gc:=by
         simp only[Builtin.zeroCells,hz1,Array.size_append,Array.size_map,Array.size_range];omega
       refine⟨_,S,[w.heap.size],rfl,(Below.refl _ _).drew.alloc (aoz _) _,fun b i hs=>⟨.inl hs,?_⟩,by simp,.inr ⟨w.heap.size,Gc,29,Gc,rfl,rfl,aoy _,hGm,?_,by omega,aoz _,fun i hi=>?_,⟨_,_,(0,0),heap_alloc_new w.drew _,oK _,by simp,fun i hi=>by cases hi⟩⟩⟩
       ·have:=hS b i hs;have h2:(w.drew.alloc (.cells (Builtin.zeroCells z.cells n++Builtin.zeroCells z.cells (Gc-n)) 29)).heap.size=w.heap.size+1:=by simp
        omega
       ·have:=LE w.drew (Builtin.zeroCells z.cells n++Builtin.zeroCells z.cells (Gc-n)) 29 (0,0);rw[hsz] at this;exact this
       ·have:=hS _ i hi;omega
def CV (l:List (List UInt8)) (g:Nat) (caps:List D) (i:Nat):St:=⟨bz [(0,.w (.c (.d (dH l)))),(1,.w (.c (.d (.fn g caps)))),(7,.w (.c (.d (.int .i64 (l.length:Int))))),(8,.w (.c (.d (.int .i64 (i:Int)))))],hL [],uL []⟩
def r6 (p:List UInt8→Bool) (l:List (List UInt8)):Int:=match l.findIdx? p with | some i=>(i:Int) | none=>-1
theorem amc {l:List (List UInt8)} {j:Nat} (h:j<l.length):l[j]?=some (l.getD j []):=by
  rw[aor,aon h]; rfl
theorem aa9 {l:List (List UInt8)} {j:Nat} (h:j<l.length):l.getD j []∈l:=by
  rw[aor,aon h]; exact aoS h
theorem aba {p:List UInt8→Bool} {l:List (List UInt8)} {i:Nat} (h:i<l.length) (hp:p (l.getD i [])=true) (hn:∀ j,j<i→p (l.getD j [])=false):r6 p l=(i:Int):=by
  have:l.findIdx? p=some i:=by
    rw[apU];have e:∀ k (hk:k<l.length),l[k]=l.getD k []:=fun k hk=>by rw[aor,aon hk]; rfl
    refine⟨h,by rw[e i h]; exact hp,fun j hj=>?_⟩;rw[e j (by omega)]
    simpa using hn j hj
  unfold r6;rw[this]
theorem abb {p:List UInt8→Bool} {l:List (List UInt8)} (hn:∀ j,j<l.length→p (l.getD j [])=false):r6 p l=-1:=by
  have:l.findIdx? p=none:=by
    rw[aqg];intro x hx;obtain⟨j,hj,rfl⟩:=ao0 hx;have:=hn j hj;rw[aor,aon hj] at this;exact this
  unfold r6;rw[this]
theorem acA (p:List UInt8→Bool) (l:List (List UInt8)):decide (0≤r6 p l)=l.any p:=by
  unfold r6;cases h:l.findIdx? p with
  | some i =>
    rw[apU] at h;obtain⟨h1,h2,_⟩:=h;have:l.any p=true:=apC.2 ⟨_,aoS h1,h2⟩;rw[this];exact decide_eq_true (by simp only; omega)
  | none =>
    rw[aqg] at h;have:l.any p=false:=apz.2 fun x hx=>by rw[h x hx]; simp
    rw[this];rfl
def z5:bq := ae [aU .lss 9 8 7] (.seq (aw 9 .skip (.exit 0)) (.seq (.block 1 (ae [oM 10 8,oM 5 10] (ae [oM 11 1,oM 12 0,oM 13 5,bW 14 1 12 13,aA 15 14,cd 16 1000000007 11 15] (aw 16 (ae [oM 17 5,oM 4 17] .ret) .skip)))) (.reg [am .add 18 8 1,oM 8 18])))
def RX:aK:=⟨2,19,ae [ak 4 0] (.seq (ae [oM 6 0,bc 7 6,ak 8 0] (.block 0 (.loop z5))) (ae [oO 4 (.mv (.k (.c (.d (.int .i64 (-1))))))] .ret)),[(4,none)]⟩
theorem aeM:aI Tryz.prog {} Tryz.f164=some RX:=by kernel_rfl
theorem aip (G:au) (l:List (List UInt8)) (g:Nat) (caps:List D) (p:List UInt8→Bool) (hl:l.length≤9223372036854775807) (hp:∀ x∈l,oc Tryz.prog G g caps [.sl (x.map bD)] (.w (.c (.d (.bool (p x)))))):aF Tryz.prog G 164 [dH l,.fn g caps] (.w (.c (.d (.int .i64 (r6 p l))))):=by
  refine aT Tryz.func164 aeM rfl rfl ?_;simp only[RX,ai,af,seval];refine bQ (CV l g caps) (fun i=>l.length-i) (fun i=>i≤l.length∧∀ j,j<i→p (l.getD j [])=false) 0 ⟨aoy _,fun j hj=>by omega⟩ ?_ ?_
  ·refine aV (fun i=>0) ?_ ?_ rfl rfl <;> simp only[wx,aH,seval] <;> rfl
  ·rintro i ⟨hi,hn⟩;by_cases hlt:i<l.length
   ·have g1:=amc hlt;have hd:=hp _ (aa9 hlt);cases hpi:p (l.getD i [])
    ·rw[hpi] at hd;simp only[z5,CV,af,seval,iteOmega,toNatUp,ba,g1];refine uG hd rfl (.inl rfl) ?_;simp only[af,seval,iteOmega];refine bA (i+1) (by omega) ⟨by omega,fun j hj=>?_⟩ (aV (fun i=>0) ?_ ?_ rfl rfl)
     ·rcases aoP j i with h | h
      ·exact hn j h
      ·obtain rfl:j=i:=by omega
       exact hpi
     all_goals simp only[wx,aH,aY,seval]
    ·rw[hpi] at hd;rw[aba hlt hpi hn];simp only[z5,CV,af,seval,iteOmega,toNatUp,ba,g1];refine uG hd rfl (.inl rfl) ?_;simp only[af,seval];exact aZ
   ·rw[abb fun j hj=>hn j (by omega)];simp only[z5,CV,af,seval,iteOmega];exact aZ
def GX:aK:=⟨2,9,ae [bH 4 false] (ae [oM 5 0,oM 6 1,cd 7 164 5 6,am .geq 8 7 0,oM 4 8] .ret),[(4,none)]⟩
theorem aeN:aI Tryz.prog {} Tryz.f138=some GX:=by kernel_rfl
theorem Vd (G:au) (l:List (List UInt8)) (g:Nat) (caps:List D) (p:List UInt8→Bool) (hl:l.length≤9223372036854775807) (hp:∀ x∈l,oc Tryz.prog G g caps [.sl (x.map bD)] (.w (.c (.d (.bool (p x)))))):aF Tryz.prog G 138 [dH l,.fn g caps] (.w (.c (.d (.bool (l.any p))))):=by
  refine aT Tryz.func138 aeN rfl rfl ?_;have hi:=aip G l g caps p hl hp;rw[← acA];generalize r6 p l=n at *
  by_cases h:0≤n
  ·have hd:decide (0≤n)=true:=decide_eq_true h;rw[hd];simp only[GX,ai,af,seval];refine sD (hi) ?_;exact aZ
  ·have hd:decide (0≤n)=false:=decide_eq_false h;have h2:n<0:=by omega
   rw[hd];simp only[GX,ai,af,seval];refine sD (hi) ?_;exact aZ
def HZ (ls:List (List (List UInt8))) (i:Nat):St:=⟨bz [(0,.w (.c (.d (.sl (ls.map dH))))),(3,.w (.c (.d (.int .i64 ((ls.take i).flatten.length:Int))))),(9,.w (.c (.d (.sl (ls.map dH))))),(10,.w (.c (.d (.int .i64 (ls.length:Int))))),(11,.w (.c (.d (.int .i64 (i:Int)))))],hL [],uL []⟩
def H0 (ls:List (List (List UInt8))) (i:Nat):St:=⟨bz [(6,.w (.c (.own 1 1 0 (ls.take i).flatten.length))),(25,.w (.c (.d (.sl (ls.map dH))))),(26,.w (.c (.d (.int .i64 (ls.length:Int))))),(27,.w (.c (.d (.int .i64 (i:Int)))))],hL [(1,.row 1 ((ls.take i).flatten.map fun l=>D.sl (l.map bD)))],uL [1]⟩
theorem E0 (ls:List (List (List UInt8))) {i:Nat} (h:i<ls.length):(ls.take (i+1)).flatten=(ls.take i).flatten++ls.getD i []:=by
  rw[aor,aon h,apr h,List.flatten_append]; simp
theorem Pn (ls:List (List (List UInt8))) {i:Nat} (h:i<ls.length):(ls.take i).flatten.length+(ls.getD i []).length≤ls.flatten.length:=by
  rw[← aoq,← E0 ls h]
  conv=>rhs; rw[← aoX (i+1) ls]
  rw[List.flatten_append,aoq]; omega
theorem XS {l:List (List (List UInt8))} {j:Nat} (h:j<l.length):l[j]?=some (l.getD j []):=by
  rw[aor,aon h]; rfl
def Fo:bq := ae [aU .lss 12 11 10] (.seq (aw 12 .skip (.exit 0)) (.seq (.block 1 (ae [bW 13 1 9 11,aA 14 13,oM 5 14] (ae [oM 15 3,oM 16 5,bc 17 16,aU .add 18 15 17,oM 3 18] (ae [oM 19 3,am .lss 20 19 0] (aw 20 (.reg [oN (.lenStr .u)]) .skip))))) (.reg [am .add 22 11 1,oM 11 22])))
def Fp:bq := ae [aU .lss 28 27 26] (.seq (aw 28 .skip (.exit 2)) (.seq (.block 3 (ae [bW 29 1 25 27,aA 30 29,oM 8 30] (.reg [oM 31 6,oM 32 8,oO 33 (.app false 1 24 (.t 31) (.t 32)),oM 6 33]))) (.reg [am .add 34 27 1,oM 27 34])))
def RY:aK:=⟨1,36,ae [aM 2] (ae [ak 3 0] (.seq (ae [oM 9 0,bc 10 9,ak 11 0] (.block 0 (.loop Fo))) (ae [oM 23 3,oO 24 (.call 173 [(.k (.c .nil)),(.t 23)] (some (0,1))),oM 6 24] (.seq (ae [oM 25 0,bc 26 25,ak 27 0] (.block 2 (.loop Fp))) (ae [oM 35 6,oM 2 35] .ret))))),[(2,none)]⟩
theorem aeO:aI Tryz.prog { own:=[24],bad:=true } Tryz.f156=some RY:=by kernel_rfl
theorem aiq (G:au) (ls:List (List (List UInt8))) (hl:ls.length≤9223372036854775807) (hf:ls.flatten.length≤1000000000):aF Tryz.prog G 156 [.sl (ls.map dH)] (.w (.c (.fr 1 (ls.flatten.map fun l=>D.sl (l.map bD))))):=by
  refine aT Tryz.func156 aeO rfl rfl ?_;simp only[RY,ai,af,seval];refine bQ (HZ ls) (fun i=>ls.length-i) (fun i=>i≤ls.length) 0 (aoy _) ?_ ?_
  ·refine aV (fun i=>0) ?_ ?_ rfl rfl <;> simp only[wx,aH,seval] <;> rfl
  ·intro i hi;by_cases hlt:i<ls.length
   ·have g1:=XS hlt;have h5:=Pn ls hlt;have h6:=E0 ls hlt;have h7:(ls.take (i+1)).flatten.length=(ls.take i).flatten.length+(ls.getD i []).length:=by rw[h6,aoq]
    simp only[Fo,HZ,af,seval,iteOmega,toNatUp,ba,g1];refine bA (i+1) (by omega) (by omega) (aV (fun i=>0) ?_ ?_ rfl rfl) <;> simp only[wx,aH,aY,seval,h7]
   ·have ht:ls.take i=ls:=aot (by omega);have hg:=amb G ls.flatten.length (by omega);simp only[Fo,HZ,af,seval,iteOmega,ht];refine acf hg rfl rfl (.inl rfl) ?_;simp only[af,seval];refine bQ (H0 ls) (fun i=>ls.length-i) (fun i=>i≤ls.length) 0 (aoy _) ?_ ?_
    ·refine aV (fun i=>192) ?_ ?_ rfl rfl <;> simp only[wx,aH,seval] <;> rfl
    ·intro i hi;by_cases hlt:i<ls.length
     ·have g1:=XS hlt;have h5:=Pn ls hlt;have h6:=E0 ls hlt;simp only[Fp,H0,af,seval,iteOmega,toNatUp,ba,g1,cG,ma];refine bA (i+1) (by omega) (by omega) (aV (fun i=>264) ?_ ?_ rfl rfl) <;> simp only[wx,aH,aY,seval,h6]
     ·have ht:ls.take i=ls:=aot (by omega);simp only[Fp,H0,af,seval,iteOmega,ht];exact iP (id:=1) (n:=ls.flatten.length) (s:=1) (by simp only[wx,seval]) (by simp only[wx,seval]) (by simp only[aox])
theorem air (G:au) (ls:List (List (List UInt8))) (hl:ls.length≤9223372036854775807) (hf:ls.flatten.length≤1000000000):aF Tryz.prog G 156 [.sl (ls.map dH)] (.w (.c (.d (.sl (ls.flatten.map fun l=>D.sl (l.map bD)))))):=qg (aiq G ls hl hf)
end Go.Proofs.YtofonnokanoflaaGreatDoor
