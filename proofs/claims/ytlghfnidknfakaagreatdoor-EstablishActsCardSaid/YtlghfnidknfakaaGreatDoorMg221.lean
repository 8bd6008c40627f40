/- Texts of one's own, merged: from: Layer 21 on data: the program: Finish. Own work. -/
import Derived.Test.YtlghfnidknfakaaGreatDoorMg220
import Derived.Test.YtlghfnidknfakaaGreatDoorMg210
import Derived.Test.YtlghfnidknfakaaGreatDoorMg218
import Derived.Test.YtlghfnidknfakaaGreatDoorMg214
import Derived.Test.YtlghfnidknfakaaGreatDoorMg29
set_option linter.unusedVariables false
set_option linter.unusedSimpArgs false
namespace Go.Proofs.YtlghfnidknfakaaGreatDoor
open Go.RowKit IntWalk
set_option maxHeartbeats 3200000
def lI (l:List Ek):Int:=if 8<(aJ l 5).length then 8 else if ¬ ∀ x∈gD l,x.length=104 then 3 else 0
def tG (l:List Ek):List (List UInt8):=if lI l=0 then gD l else []
def iP (x:List Ek):List (List UInt8):=x.map (·.bo)
def xq (x:List Ek) (i:Nat):St:=⟨aQ [(4,.w (.c (.own 1 1 0 (iP (x.take i)).length))),(12,.w (.c (.d (.sl (x.map ak))))),(13,.w (.c (.d (.int .i64 (x.length:Int))))),(14,.w (.c (.d (.int .i64 (i:Int)))))],hL [(1,.row 1 ((iP (x.take i)).map fun l=>D.sl (l.map bD)))],uL [1]⟩
theorem SD (l:List (List UInt8)):dT 1 (l.map fun l=>D.sl (l.map bD))=true:=o9 _ (fun _=>rfl) l
def vg:aN := .seq (.reg [oO 15 (.bin .lss (.t 14) (.t 13))]) (.seq (.cond (.t 15) (.skip) (.exit 0)) (.seq (.block 1 (.seq (.reg [oO 16 (.idxSl 3 (.t 12) (.t 14)),oO 17 (.load (.ag 3) (.t 16)),oO 6 (.alloc [(.d (.bool false)),(.d (.int .i64 0)),.nil]),oN (.store (.ag 3) (.t 6) (.t 17))]) (.seq (.seq (.reg [oO 18 (.fieldAddr 2 (.t 6)),oO 19 (.load .sc (.t 18)),oO 20 (.len (.t 19)),oO 21 (.bin .neq (.t 20) (kI 104))]) (.cond (.t 21) (.seq (.reg [oO 2 (.mv (.k (.c .nil))),oO 3 (.mv (kI 3))]) (.ret)) (.skip))) (.reg [oM 22 4,oO 23 (.fieldAddr 2 (.t 6)),oO 24 (.load .sc (.t 23)),oO 25 (.bldSl false 1 1 (.sl []) [(0,(.t 24))]),oO 26 (.app false 1 24 (.t 22) (.t 25)),oM 4 26])))) (.reg [oO 27 (.bin .add (.t 14) (kI 1)),oM 14 27])))
def Ci:aH:=⟨1,29,.seq (.reg [oO 2 (.mv (.k (.c .nil))),oO 3 (.mv (kI 0))]) (.seq (.seq (.reg [oM 7 0,oO 8 (.mpGet .i64 (.sl []) false (.t 7) (kI 5)),oO 9 (.len (.t 8)),oO 10 (.bin .gtr (.t 9) (kI 8))]) (.cond (.t 10) (.seq (.reg [oO 2 (.mv (.k (.c .nil))),oO 3 (.mv (kI 8))]) (.ret)) (.skip))) (.seq (.reg [oO 4 (.nilOwn 1)]) (.seq (.seq (.reg [oM 11 0,oO 12 (.mpGet .i64 (.sl []) false (.t 11) (kI 5)),oO 13 (.len (.t 12)),oO 14 (.mv (kI 0))]) (.block 0 (.loop vg))) (.seq (.reg [oM 28 4,oM 2 28,oO 3 (.mv (kI 0))]) (.ret))))),[(2,none),(3,none)]⟩
theorem ZN:aG Tryz.prog { own:=[4],comp:=[],frz:=[],nils:=[] } Tryz.f115=some Ci:=by kernel_rfl
theorem aaK (G:ah) (l:List Ek) (hl:l.length≤1000000):aw Tryz.prog G 115 [cI l] (.tup [.c (.d (cT (tG l))),.c (.d (.int .i64 (lI l)))]):=by
  refine aI Tryz.func115 ZN rfl rfl ?_;have hk:=B8 l 5;have hE:lI l=if 8<(aJ l 5).length then 8 else if ¬ ∀ x∈iP (aJ l 5),x.length=104 then 3 else 0:=rfl
  have hR:tG l=if lI l=0 then iP (aJ l 5) else []:=rfl
  generalize lI l=e at *
  generalize tG l=R at *
  unfold cI;generalize db l=E at *
  generalize aJ l 5=x at *
  by_cases h8:8<x.length
  ·rw[if_pos h8] at hE;subst hE;rw[if_neg (by decide)] at hR;subst hR;have g1:((x.length:Int)>8)=True:=eq_true (by omega);simp only[Ci,af,cT,ae,aa,seval,iteOmega,toNatUp,dD,hk,g1];exact aE
  ·rw[if_neg h8] at hE;have g1:((x.length:Int)>8)=False:=eq_false (by omega);simp only[Ci,af,cT,ae,aa,seval,iteOmega,toNatUp,dD,hk,g1];refine aU (xq x) (fun i=>x.length-i) (fun i=>i≤x.length∧∀ b∈iP (x.take i),b.length=104) 0 ⟨abc _,by rw[abS]; exact fun n h=>by cases h⟩ ?_ ?_
   ·refine aj (fun _=>32) ?_ ?_ rfl rfl <;> simp only[wx,ai,am,aa,seval,iteOmega,toNatUp] <;> first | rfl | exact⟨rfl,rfl⟩ | skip
   ·rintro i ⟨hi,hp⟩;have az:=SD (iP (x.take i));have bl:(iP (x.take i)).length=i:=by unfold iP; rw[abh,abg]; omega
    by_cases hlt:i<x.length
    ·have g:=i8 hlt;have hm:(x.getD i default).bo∈iP x:=abB.2 ⟨_,gg hlt,rfl⟩;have hs:iP (x.take (i+1))=iP (x.take i)++[(x.getD i default).bo]:=by unfold iP; rw[mJ hlt,abk]; rfl
     generalize x.getD i default=r at *
     obtain⟨rc,rt,rb⟩:=r;dsimp only at *
     by_cases h1:rb.length=104
     ·have g2:((rb.length:Int)=104)=True:=eq_true (by omega);have hn:∀ b∈iP (x.take (i+1)),b.length=104:=by
        rw[hs];intro n q;rcases abn.1 q with q | q
        ·exact hp n q
        ·rw[abe.1 q]; exact h1
      generalize hB:iP (x.take i)=B at *
      simp only[vg,xq,cT,hB,ae,aa,seval,iteOmega,toNatUp,aC,g,ak,g2,a7];refine aM (i+1) (by omega) ⟨by omega,hn⟩ (aj (fun _=>208) ?_ ?_ rfl rfl) <;> simp only[hs,abk,wx,ai,am,aa,seval,iteOmega,toNatUp] <;> first | rfl | exact⟨rfl,rfl⟩ | skip
     ·rw[if_pos fun q=>h1 (q rb hm)] at hE;subst hE;rw[if_neg (by decide)] at hR;subst hR;have g2:((rb.length:Int)=104)=False:=eq_false (by omega);generalize hB:iP (x.take i)=B at *
      simp only[vg,xq,cT,hB,ae,aa,seval,iteOmega,toNatUp,aC,g,ak,g2];exact aE
    ·obtain rfl:i=x.length:=by omega
     rw[abv] at hp az bl;rw[if_neg (not_not_intro hp)] at hE;subst hE;rw[if_pos rfl] at hR;subst hR;simp only[vg,xq,cT,abv,ae,aa,seval,iteOmega,toNatUp];exact aE
def eb (lo lm:List Ek) (k:Int):Option Int:=if (bz lm k).length=1∧(bz lm k).getD 0 0∈bz lo k then some ((bz lm k).getD 0 0) else none
def wq:aH:=⟨3,28,.seq (.reg [oO 6 (.mv (kI 0)),oO 7 (.mv (.k (.c (.d (.bool false)))))]) (.seq (.reg [oM 9 1,oM 10 2,oO 11 (.call 111 [(.t 9),(.t 10)] none),oM 8 11]) (.seq (.seq (.reg [oM 12 8,oO 13 (.len (.t 12)),oO 14 (.bin .neq (.t 13) (kI 1)),oM 15 14,oG 16 (.mv (.t 0)) 15 false,oG 17 (.mv (.t 2)) 15 false,oG 18 (.call 111 [(.t 16),(.t 17)] none) 15 false,oG 19 (.mv (.t 8)) 15 false,oG 20 (.idxSl 1 (.t 19) (kI 0)) 15 false,oG 21 (.load .sc (.t 20)) 15 false,oG 22 (.call 56 [(.t 18),(.t 21)] none) 15 false,oG 23 (.un .not (.t 22)) 15 false,oO 24 (.pick (.t 15) (.k (.c (.d (.bool true)))) (.t 23))]) (.cond (.t 24) (.seq (.reg [oO 6 (.mv (kI 0)),oO 7 (.mv (.k (.c (.d (.bool false)))))]) (.ret)) (.skip))) (.seq (.reg [oM 25 8,oO 26 (.idxSl 1 (.t 25) (kI 0)),oO 27 (.load .sc (.t 26)),
 oM 6 27,oO 7 (.mv (.k (.c (.d (.bool true)))))]) (.ret)))),[(6,none),(7,none)]⟩
theorem ZO:aG Tryz.prog { own:=[],comp:=[],frz:=[],nils:=[] } Tryz.f114=some wq:=by kernel_rfl
theorem Pu (G:ah) (lo lm:List Ek) (k:Int) (ho:∀ r∈lo,r.bo.length≤65535) (hm:∀ r∈lm,r.bo.length≤65535):aw Tryz.prog G 114 [cI lo,cI lm,.int .i64 k] (.tup [.c (.d (.int .i64 ((eb lo lm k).getD 0))),.c (.d (.bool (eb lo lm k).isSome))]):=by
  refine aI Tryz.func114 ZO rfl rfl ?_;have c1:=qj G lm k fun r hr=>by have:=hm r hr; omega
  have c2:=qj G lo k fun r hr=>by have:=ho r hr; omega
  have n2:(bz lo k).length≤65535:=abW (ma _) (pG ho k);have c3:=Pm G (bz lo k) ((bz lm k).getD 0 0) (by omega);have hT:eb lo lm k=if (bz lm k).length=1∧(bz lm k).getD 0 0∈bz lo k then some ((bz lm k).getD 0 0) else none:=rfl
  unfold cI at *
  generalize eb lo lm k=T at *
  generalize bz lo k=O at *
  generalize hN:bz lm k=N at *
  generalize db lo=E1 at *
  generalize db lm=E2 at *
  by_cases h1:N.length=1
  ·have g1:((N.length:Int)=1)=True:=eq_true (by omega);have g:=kQ (l:=N) (i:=0) (by omega);generalize N.getD 0 0=v at *
   by_cases h2:v∈O
   ·rw[if_pos ⟨h1,h2⟩] at hT;rw[decide_eq_true h2] at c3;subst hT;rw[abQ,ab9];simp only[wq,af,ae,aa,seval,iteOmega,toNatUp];refine sC (c1) ?_;simp only[g1,ae,aa,seval,iteOmega,toNatUp];refine sC (c2) ?_;simp only[aC,g,zD,ae,aa,seval,iteOmega,toNatUp];refine sC (c3) ?_;simp only[aC,g,zD,ae,aa,seval,iteOmega,toNatUp];exact aE
   ·rw[if_neg fun q=>h2 q.2] at hT;rw[decide_eq_false h2] at c3;subst hT;rw[abY,ab4];simp only[wq,af,ae,aa,seval,iteOmega,toNatUp];refine sC (c1) ?_;simp only[g1,ae,aa,seval,iteOmega,toNatUp];refine sC (c2) ?_;simp only[aC,g,zD,ae,aa,seval,iteOmega,toNatUp];refine sD (c3) ?_;exact aE
  ·have g1:((N.length:Int)=1)=False:=eq_false (by omega);rw[if_neg fun q=>h1 q.1] at hT;subst hT;rw[abY,ab4];simp only[wq,af,ae,aa,seval,iteOmega,toNatUp];refine sC (c1) ?_;simp only[g1,ae,aa,seval,iteOmega,toNatUp];exact aE
theorem aaL {b:List UInt8} {v:Int} (h:v∈dP b):0≤v∧v≤65535:=by
  unfold dP at h;split at h
  ·rename_i he;unfold kV jh at h;obtain⟨i,hi,rfl⟩:=abB.1 h;have:=acO.1 hi;exact Yw (by omega)
  ·cases h
theorem Pv {lo lm:List Ek} {k v:Int} (h:eb lo lm k=some v):0≤v∧v≤65535:=by
  unfold eb at h;split at h
  ·rename_i q;cases h;exact aaL q.2
  ·cases h
def mI (lo lm:List Ek):Int:=if ¬ ((eb lo lm 1).isSome=true∧(eb lo lm 4).isSome=true∧0<(aJ lm 5).length) then 10 else lI lm
def qO (c:Ch) (lo lm:List Ek):tE:=if mI lo lm=0 then ⟨(eb lo lm 1).getD 0,(eb lo lm 4).getD 0,bg c ((eb lo lm 1).getD 0) ((eb lo lm 4).getD 0) 0,bg c ((eb lo lm 1).getD 0) ((eb lo lm 4).getD 0) 1,gD lm,ea lm 6,(aY (ea lm 7):Int)⟩ else fM
theorem mi:eR fM=.agg [.int .i64 0,.int .i64 0,.sl [],.sl [],.sl [],.str ⟨#[]⟩,.int .i64 0]:=rfl
def pW:aH:=⟨3,68,.seq (.reg [oO 3 (.box .roBox (.t 0)),oO 6 (.alloc [(.d (.int .i64 0)),(.d (.int .i64 0)),.nil,.nil,.nil,(.d (.str ⟨#[]⟩)),(.d (.int .i64 0))]),oO 7 (.mv (kI 0))]) (.seq (.reg [oM 17 1,oM 18 2,oO 19 (.call 114 [(.t 17),(.t 18),(kI 1)] none),oM 16 19,oO 20 (.extract (.t 16) 0),oO 21 (.extract (.t 16) 1),oM 8 20,oM 9 21]) (.seq (.reg [oM 23 1,oM 24 2,oO 25 (.call 114 [(.t 23),(.t 24),(kI 4)] none),oM 22 25,oO 26 (.extract (.t 22) 0),oO 27 (.extract (.t 22) 1),oM 10 26,oM 11 27]) (.seq (.seq (.reg [oM 28 9,oO 29 (.un .not (.t 28)),oM 30 29,oG 31 (.mv (.t 11)) 30 false,oG 32 (.un .not (.t 31)) 30 false,oO 33 (.pick (.t 30) (.k (.c (.d (.bool true)))) (.t 32)),oM 34 33,oG 35 (.mv (.t 2)) 34 false,oG 36 (.call 80 [(.t 35),(kI 5)] none) 34 false,oG 37 (.un .not (.t 36)) 34 false,
 oO 38 (.pick (.t 34) (.k (.c (.d (.bool true)))) (.t 37))]) (.cond (.t 38) (.seq (.reg [oO 39 (.build [(.d (.int .i64 0)),(.d (.int .i64 0)),.nil,.nil,.nil,(.d (.str ⟨#[]⟩)),(.d (.int .i64 0))] []),oN (.store (.ag 7) (.t 6) (.t 39)),oO 7 (.mv (kI 10))]) (.ret)) (.skip))) (.seq (.reg [oM 41 2,oO 42 (.call 115 [(.t 41)] none),oM 40 42,oO 43 (.extract (.t 40) 0),oO 44 (.extract (.t 40) 1),oM 12 43,oM 13 44]) (.seq (.seq (.reg [oM 45 13,oO 46 (.bin .neq (.t 45) (kI 0))]) (.cond (.t 46) (.seq (.reg [oO 47 (.build [(.d (.int .i64 0)),(.d (.int .i64 0)),.nil,.nil,.nil,(.d (.str ⟨#[]⟩)),(.d (.int .i64 0))] []),oM 48 13,oN (.store (.ag 7) (.t 6) (.t 47)),oM 7 48]) (.ret)) (.skip))) (.seq (.reg [oO 50 (.load (.ag 6) (.t 3)),oM 51 8,oM 52 10,oO 53 (.call 26 [(.t 50),(.t 51),(.t 52)] none),oM 49 53,oO 54 (.extract (.t 49) 0),
 oO 55 (.extract (.t 49) 1),oO 14 (.alloc [.nil,.nil]),oN (.store (.ag 2) (.t 14) (.t 54)),oM 15 55]) (.seq (.reg [oM 56 8,oM 57 10,oO 58 (.load (.ag 2) (.t 14)),oM 59 12,oM 60 2,oO 61 (.call 116 [(.t 60),(kI 6)] none),oO 62 (.b2s (.t 61)),oM 63 2,oO 64 (.call 116 [(.t 63),(kI 7)] none),oO 65 (.call 48 [(.t 64)] none),oO 66 (.conv .i64 (.t 65)),oO 67 (.build [(.d (.int .i64 0)),(.d (.int .i64 0)),.nil,.nil,.nil,(.d (.str ⟨#[]⟩)),(.d (.int .i64 0))] [(0,1,(.t 56)),(1,1,(.t 57)),(2,2,(.t 58)),(4,1,(.t 59)),(5,1,(.t 62)),(6,1,(.t 66))]),oN (.store (.ag 7) (.t 6) (.t 67)),oO 7 (.mv (kI 0))]) (.ret)))))))),[(6,(some (.ag 7))),(7,none)]⟩
theorem ZP:aG Tryz.prog { own:=[],comp:=[],frz:=[],nils:=[] } Tryz.f81=some pW:=by kernel_rfl
theorem aaM (G:ah) (hF:G.at 0=some (.ra (dR.map wD))) (hG:G.at 1=some (.ra (bK.map wD))) (c:Ch) (lo lm:List Ek) (vC:dt c) (ho:∀ r∈lo,r.bo.length≤65535) (hm:∀ r∈lm,r.bo.length≤65535) (hl:lm.length≤1000000) (h7:(ea lm 7).length≤2):aw Tryz.prog G 81 [aX c,cI lo,cI lm] (.tup [.c (.d (eR (qO c lo lm))),.c (.d (.int .i64 (mI lo lm)))]):=by
  refine aI Tryz.func81 ZP rfl rfl ?_;have c1:=Pu G lo lm 1 ho hm;have c4:=Pu G lo lm 4 ho hm;have c5:=nk G lm 5;have c6:=aaK G lm hl;have b6:=C2 G lm 6;have b7:=C2 G lm 7;have hE:mI lo lm=if ¬ ((eb lo lm 1).isSome=true∧(eb lo lm 4).isSome=true∧0<(aJ lm 5).length) then 10 else lI lm:=rfl
  have hT:qO c lo lm=if mI lo lm=0 then ⟨(eb lo lm 1).getD 0,(eb lo lm 4).getD 0,bg c ((eb lo lm 1).getD 0) ((eb lo lm 4).getD 0) 0,bg c ((eb lo lm 1).getD 0) ((eb lo lm 4).getD 0) 1,gD lm,ea lm 6,(aY (ea lm 7):Int)⟩ else fM:=rfl
  have hCR:lI lm=0→tG lm=gD lm:=fun h=>if_pos h
  have j1:=fun v=>Pv (lo:=lo) (lm:=lm) (k:=1) (v:=v)
  have j4:=fun v=>Pv (lo:=lo) (lm:=lm) (k:=4) (v:=v)
  have gt:=sO G (ea lm 7) (by omega);have gb:aY (ea lm 7)<65536:=by
    rcases abL (ea lm 7).length 2 with h | h
    ·match hx:ea lm 7,h with
     | [],_=>decide
     | [x],_=>have:=(jj 1 [x] rfl (by decide)).1; omega
    ·exact (jj 2 (ea lm 7) (by omega) (by decide)).1
  unfold cI at *
  generalize qO c lo lm=T at *
  generalize mI lo lm=e at *
  generalize eb lo lm 1=t1 at *
  generalize eb lo lm 4=t4 at *
  generalize (aJ lm 5).length=n5 at *
  generalize lI lm=ce at *
  generalize tG lm=cR at *
  generalize gD lm=cL at *
  generalize aY (ea lm 7)=P7 at *
  generalize ea lm 6=B6 at *
  generalize ea lm 7=B7 at *
  generalize db lo=E1 at *
  generalize db lm=E2 at *
  have bad:e=10→T=fM:=fun h=>by rw[hT,if_neg (by rw[h]; decide)]
  rcases t1 with _ | v
  ·rw[if_pos (fun q=>by cases q.1)] at hE;rw[bad hE,hE,mi];simp only[abY,ab4] at c1;unfold aX;generalize t4.getD 0=w4 at *
   generalize t4.isSome=s4 at *
   simp only[pW,af,ae,aa,seval,iteOmega,toNatUp];refine sD (c1) ?_;refine sD (c4) ?_;exact aE
  ·simp only[abQ,ab9] at c1;rcases t4 with _ | a
   ·rw[if_pos (fun q=>by cases q.2.1)] at hE;rw[bad hE,hE,mi];simp only[abY,ab4] at c4;unfold aX;simp only[pW,af,ae,aa,seval,iteOmega,toNatUp];refine sD (c1) ?_;refine sD (c4) ?_;exact aE
   ·simp only[abQ,ab9] at c4;by_cases h5:0<n5
    ·rw[decide_eq_true h5] at c5;rw[if_neg (not_not_intro ⟨rfl,rfl,h5⟩)] at hE;subst hE;by_cases h0:e=0
     ·subst h0;rw[if_pos rfl] at hT;subst hT;rw[hCR rfl] at c6;have kz:=C1 G hF hG c v a;rw[oD vC (j1 v rfl) (j4 a rfl)] at kz;simp only[abQ];unfold eR cT aX df at *
      generalize bg c v a 0=U at *
      generalize bg c v a 1=W at *
      simp only[pW,af,ae,aa,seval,iteOmega,toNatUp];refine sD (c1) ?_;refine sD (c4) ?_;refine sD (c5) ?_;refine sD (c6) ?_;refine sD (kz) ?_;refine sC (b6) ?_;simp only[pj,ae,aa,seval,iteOmega,toNatUp];refine sD (b7) ?_;refine sD (gt) ?_;exact aE
     ·have g0:=eq_false h0;rw[if_neg h0] at hT;subst hT;rw[mi];unfold cT aX at *
      generalize (cR.map fun l=>D.sl (l.map bD))=cc at *
      simp only[pW,af,ae,aa,seval,iteOmega,toNatUp];refine sD (c1) ?_;refine sD (c4) ?_;refine sD (c5) ?_;refine sC (c6) ?_;simp only[g0,ae,aa,seval,iteOmega,toNatUp];exact aE
    ·rw[decide_eq_false h5] at c5;rw[if_pos (fun q=>h5 q.2.2)] at hE;rw[bad hE,hE,mi];unfold aX;simp only[pW,af,ae,aa,seval,iteOmega,toNatUp];refine sD (c1) ?_;refine sD (c4) ?_;refine sD (c5) ?_;exact aE
theorem ZQ {x y:List Int} (h:dk x y=0):bz (d8 x y) 1=x∧bz (d8 x y) 4=y:=by
  obtain⟨h1,h2,_⟩:=tv h;obtain⟨a1,a4,_⟩:=O3 x y;unfold bz ea;rw[a1,a4];exact⟨mR h1,mR h2⟩
theorem On {q:List UInt8} (h:ji q):bz (aB q) 1=ew q∧bz (aB q) 4=ez q:=by
  obtain⟨_,_,h3,h4⟩:=h;have h5:=(CV h3).2.1;rw[h4] at h5;have:=ZQ h3;rw[← h5] at this;exact this
theorem WT {q:List UInt8} (hF:de q):ji q↔(dk (bz (aB q) 1) (bz (aB q) 4)=0∧bQ (bz (aB q) 1) (bz (aB q) 4)=q):=by
  constructor
  ·intro h;obtain⟨e1,e2⟩:=On h;rw[e1,e2];exact⟨h.2.2.1,h.2.2.2⟩
  ·rintro⟨h1,h2⟩;have:=(PY h1).1;rw[h2] at this;exact this
def wu:aH:=⟨1,31,.seq (.reg [oO 2 (.mv (.k (.c (.d (.mp .i64 []))))),oO 3 (.mv (.k (.c (.d (.bool false)))))]) (.seq (.reg [oM 9 0,oO 10 (.call 66 [(.t 9)] none),oM 8 10,oO 11 (.extract (.t 8) 0),oO 12 (.extract (.t 8) 1),oM 4 11,oM 5 12]) (.seq (.seq (.reg [oM 13 5,oO 14 (.un .not (.t 13))]) (.cond (.t 14) (.seq (.reg [oO 2 (.mv (.k (.c (.d (.mp .i64 []))))),oO 3 (.mv (.k (.c (.d (.bool false)))))]) (.ret)) (.skip))) (.seq (.reg [oM 16 4,oO 17 (.call 111 [(.t 16),(kI 1)] none),oM 18 4,oO 19 (.call 111 [(.t 18),(kI 4)] none),oO 20 (.call 16 [(.t 17),(.t 19)] none),oM 15 20,oO 21 (.extract (.t 15) 0),oO 22 (.extract (.t 15) 1),oM 6 21,oM 7 22]) (.seq (.reg [oM 23 4,oM 24 7,oO 25 (.bin .eql (.t 24) (kI 0)),oM 26 25,oG 27 (.mv (.t 6)) 26 true,oG 28 (.mv (.t 0)) 26 true,oG 29 (.call 104 [(.t 27),(.t 28)] none) 26 true,
 oO 30 (.pick (.t 26) (.t 29) (.k (.c (.d (.bool false))))),oM 2 23,oM 3 30]) (.ret))))),[(2,none),(3,none)]⟩
theorem ZR:aG Tryz.prog { own:=[],comp:=[],frz:=[],nils:=[] } Tryz.f79=some wu:=by kernel_rfl
theorem aaN (G:ah) (b:List UInt8) (hb:b.length≤1000000000):aw Tryz.prog G 79 [.sl (b.map bD)] (.tup [.c (.d (cI (fc b))),.c (.d (.bool (decide (ji b))))]):=by
  refine aI Tryz.func79 ZR rfl rfl ?_;have c:=C3 G b hb;by_cases hF:de b
  ·have hQ:=WT hF;rw[decide_eq_true hF,show fc b=aB b from if_pos hF] at c;rw[show fc b=aB b from if_pos hF];obtain⟨hbo,hl⟩:=l9 (b:=b);generalize aB b=L at *
   have d1:=qj G L 1 fun r hr=>by have:=hbo r hr; omega
   have d4:=qj G L 4 fun r hr=>by have:=hbo r hr; omega
   have n1:(bz L 1).length≤65535:=abW (ma _) (pG hbo 1);have n4:(bz L 4).length≤65535:=abW (ma _) (pG hbo 4);have cq:=Pl G (bz L 1) (bz L 4) (by omega) (by omega);have cs:=BD G (bQ (bz L 1) (bz L 4)) b;unfold cI at *
   generalize bz L 1=N1 at *
   generalize bz L 4=N4 at *
   generalize db L=E at *
   by_cases h0:dk N1 N4=0
   ·rw[h0] at cq;have hd:decide (ji b)=(bQ N1 N4==b):=by
      by_cases h1:bQ N1 N4=b
      ·rw[decide_eq_true (hQ.2 ⟨h0,h1⟩),h1]; simp
      ·rw[decide_eq_false fun q=>h1 (hQ.1 q).2]; simp[h1]
    rw[hd];generalize (bQ N1 N4==b)=d at *
    generalize bQ N1 N4=R at *
    clear hQ hd;simp only[wu,af,ae,aa,seval,iteOmega,toNatUp];refine sD (c) ?_;refine sD (d1) ?_;refine sD (d4) ?_;refine sD (cq) ?_;refine sD (cs) ?_;exact aE
   ·have g0:=eq_false h0;rw[decide_eq_false fun q=>h0 (hQ.1 q).1];generalize dk N1 N4=e at *
    generalize bQ N1 N4=R at *
    clear hQ;simp only[wu,af,ae,aa,seval,iteOmega,toNatUp];refine sD (c) ?_;refine sD (d1) ?_;refine sD (d4) ?_;refine sC (cq) ?_;simp only[g0,ae,aa,seval,iteOmega,toNatUp];exact aE
  ·rw[decide_eq_false hF,show fc b=[] from if_neg hF,rX] at c;rw[decide_eq_false fun q:ji b=>hF q.1,show fc b=[] from if_neg hF,rX];simp only[wu,af,ae,aa,seval,iteOmega,toNatUp];refine sD (c) ?_;exact aE
theorem Oo {b:List UInt8} (h:de b):(aJ (aB b) 1).length≤1∧(aJ (aB b) 4).length≤1∧(aJ (aB b) 6).length≤1∧(aJ (aB b) 7).length≤1:=by
  obtain⟨_,⟨_,_,_,h4,h5,h6,h7⟩,_⟩:=h;rw[cF] at h4 h5 h6 h7;exact⟨h4,h5,h6,h7⟩
theorem xJ {l:List Ek} {k:Int} (h:aJ l k=[]):ea l k=[]∧bz l k=[]:=by
  have:ea l k=[]:=by unfold ea; rw[h]; rfl
  exact⟨this,by unfold bz; rw[this]; rfl⟩
theorem Pw {lo lm:List Ek} {k:Int} {x:List Int} (h:(aJ lm k).length≤1) (hx:bz lo k=x):cZ lm k x=eb lo lm k:=by
  unfold cZ eb;rw[hx,cF];by_cases h1:(aJ lm k).length=1
  ·rw[if_pos h1,Da (by omega)]
  ·have h2:aJ lm k=[]:=abM.1 (by omega);rw[if_neg h1,(xJ h2).2,if_neg (by simp)]
theorem ZS {l:List Ek} (h:(aJ l 6).length≤1):mG l=ea l 6:=by
  unfold mG;rw[cF];by_cases h1:(aJ l 6).length=1
  ·rw[if_pos h1,mS (by rw[cF]; omega)]; rfl
  ·rw[if_neg h1,(xJ (abM.1 (by omega))).1]
theorem ZT {l:List Ek} (h:(aJ l 7).length≤1):kX l=(aY (ea l 7):Int):=by
  unfold kX;rw[cF];by_cases h1:(aJ l 7).length=1
  ·rw[if_pos h1,mS (by rw[cF]; omega)]; rfl
  ·rw[if_neg h1,(xJ (abM.1 (by omega))).1]; rfl
theorem hm7 {b:List UInt8} (h:de b):(ea (aB b) 7).length≤2:=by
  obtain⟨_,_,_,h7⟩:=Oo h;rcases abL 0 (aJ (aB b) 7).length with h1 | h1
  ·have hm:=acE.1 (gg h1);have:=(h.2.2 _ hm.1).2 (of_decide_eq_true hm.2);exact Nat.le_of_eq this
  ·rw[(xJ (abM.1 (by omega))).1]; decide
theorem aaO {c:Ch} {q b:List UInt8} (vC:dt c) (hq:ji q) (hF:de b) (hS:fp (aB b)=false) (h2:¬ 0<(aJ (aB b) 2).length):bW c q b=mI (aB q) (aB b)∧gE c q b=qO c (aB q) (aB b):=by
  obtain⟨k1,k4,k6,k7⟩:=Oo hF;obtain⟨x1,x4⟩:=On hq;have o1:=Pw (lo:=aB q) (lm:=aB b) k1 x1;have o4:=Pw (lo:=aB q) (lm:=aB b) k4 x4;have e:bW c q b=mI (aB q) (aB b):=by
    unfold bW mI lI;rw[if_neg (not_not_intro vC),if_neg (not_not_intro hq),if_neg (not_not_intro hF),if_neg (by rw[hS]; decide),cF,if_neg (by omega),o1,o4,cF];by_cases h:(eb (aB q) (aB b) 1).isSome=true∧(eb (aB q) (aB b) 4).isSome=true∧0<(aJ (aB b) 5).length
    ·rw[if_neg (not_not_intro h),if_neg (not_not_intro ⟨h.1,h.2.1,by omega⟩)]
    ·rw[if_pos h,if_pos fun g=>h ⟨g.1,g.2.1,by omega⟩]
  refine⟨e,?_⟩;unfold gE qO;rw[e,o1,o4,ZS k6,ZT k7]
def ov:aH:=⟨3,43,.seq (.reg [oO 3 (.box .roBox (.t 0)),oO 6 (.alloc [(.d (.int .i64 0)),(.d (.int .i64 0)),.nil,.nil,.nil,(.d (.str ⟨#[]⟩)),(.d (.int .i64 0))]),oO 7 (.mv (kI 0))]) (.seq (.seq (.reg [oO 11 (.load (.ag 6) (.t 3)),oO 12 (.call 62 [(.t 11)] none),oO 13 (.un .not (.t 12))]) (.cond (.t 13) (.seq (.reg [oO 14 (.build [(.d (.int .i64 0)),(.d (.int .i64 0)),.nil,.nil,.nil,(.d (.str ⟨#[]⟩)),(.d (.int .i64 0))] []),oN (.store (.ag 7) (.t 6) (.t 14)),oO 7 (.mv (kI 3))]) (.ret)) (.skip))) (.seq (.reg [oM 16 1,oO 17 (.call 79 [(.t 16)] none),oM 15 17,oO 18 (.extract (.t 15) 0),oO 19 (.extract (.t 15) 1),oM 8 18,oM 9 19]) (.seq (.seq (.reg [oM 20 9,oO 21 (.un .not (.t 20))]) (.cond (.t 21) (.seq (.reg [oO 22 (.build [(.d (.int .i64 0)),(.d (.int .i64 0)),.nil,.nil,.nil,(.d (.str ⟨#[]⟩)),(.d (.int .i64 0))] []),
 oN (.store (.ag 7) (.t 6) (.t 22)),oO 7 (.mv (kI 3))]) (.ret)) (.skip))) (.seq (.reg [oM 24 2,oO 25 (.call 66 [(.t 24)] none),oM 23 25,oO 26 (.extract (.t 23) 0),oO 27 (.extract (.t 23) 1),oM 10 26,oM 9 27]) (.seq (.seq (.reg [oM 28 9,oO 29 (.un .not (.t 28))]) (.cond (.t 29) (.seq (.reg [oO 30 (.build [(.d (.int .i64 0)),(.d (.int .i64 0)),.nil,.nil,.nil,(.d (.str ⟨#[]⟩)),(.d (.int .i64 0))] []),oN (.store (.ag 7) (.t 6) (.t 30)),oO 7 (.mv (kI 3))]) (.ret)) (.skip))) (.seq (.seq (.reg [oM 31 10,oO 32 (.call 69 [(.t 31)] none)]) (.cond (.t 32) (.seq (.reg [oO 33 (.build [(.d (.int .i64 0)),(.d (.int .i64 0)),.nil,.nil,.nil,(.d (.str ⟨#[]⟩)),(.d (.int .i64 0))] []),oN (.store (.ag 7) (.t 6) (.t 33)),oO 7 (.mv (kI 11))]) (.ret)) (.skip))) (.seq (.seq (.reg [oM 34 10,oO 35 (.call 80 [(.t 34),(kI 2)] none)])
 (.cond (.t 35) (.seq (.reg [oO 36 (.build [(.d (.int .i64 0)),(.d (.int .i64 0)),.nil,.nil,.nil,(.d (.str ⟨#[]⟩)),(.d (.int .i64 0))] []),oN (.store (.ag 7) (.t 6) (.t 36)),oO 7 (.mv (kI 7))]) (.ret)) (.skip))) (.seq (.reg [oO 37 (.load (.ag 6) (.t 3)),oM 38 8,oM 39 10,oO 40 (.call 81 [(.t 37),(.t 38),(.t 39)] none),oO 41 (.extract (.t 40) 0),oO 42 (.extract (.t 40) 1),oN (.store (.ag 7) (.t 6) (.t 41)),oM 7 42]) (.ret))))))))),[(6,(some (.ag 7))),(7,none)]⟩
theorem ZU:aG Tryz.prog { own:=[],comp:=[],frz:=[],nils:=[] } Tryz.f30=some ov:=by kernel_rfl
theorem Db (G:ah) (hF:G.at 0=some (.ra (dR.map wD))) (hG:G.at 1=some (.ra (bK.map wD))) (c:Ch) (q b:List UInt8) (hq:q.length≤1000000000) (hb:b.length≤1000000000):aw Tryz.prog G 30 [aX c,.sl (q.map bD),.sl (b.map bD)] (.tup [.c (.d (eR (gE c q b))),.c (.d (.int .i64 (bW c q b)))]):=by
  refine aI Tryz.func30 ZU rfl rfl ?_;have c1:=xg G hF hG c;have hno:∀ e,bW c q b=e→e≠0→gE c q b=fM:=fun e h1 h2=>if_neg (by rw[h1]; exact h2)
  by_cases vC:dt c
  case neg =>
    rw[decide_eq_false vC] at c1;have E:bW c q b=3:=if_pos vC;rw[hno 3 E (by decide),E,mi];unfold aX at *
    simp only[ov,af,ae,aa,seval,iteOmega,toNatUp];refine sD (c1) ?_;exact aE
  rw[decide_eq_true vC] at c1;have c2:=aaN G q hq;by_cases hQ:ji q
  case neg =>
    rw[decide_eq_false hQ] at c2;have E:bW c q b=3:=by unfold bW; rw[if_neg (not_not_intro vC),if_pos hQ]
    rw[hno 3 E (by decide),E,mi];unfold aX cI at *
    simp only[ov,af,ae,aa,seval,iteOmega,toNatUp];refine sD (c1) ?_;refine sD (c2) ?_;exact aE
  rw[decide_eq_true hQ,show fc q=aB q from if_pos hQ.1] at c2;have c3:=C3 G b hb;by_cases hFm:de b
  case neg =>
    rw[decide_eq_false hFm] at c3;have E:bW c q b=3:=by unfold bW; rw[if_neg (not_not_intro vC),if_neg (not_not_intro hQ),if_pos hFm]
    rw[hno 3 E (by decide),E,mi];unfold aX cI at *
    simp only[ov,af,ae,aa,seval,iteOmega,toNatUp];refine sD (c1) ?_;refine sD (c2) ?_;refine sD (c3) ?_;exact aE
  rw[decide_eq_true hFm,show fc b=aB b from if_pos hFm] at c3;obtain⟨hbo,hl⟩:=l9 (b:=b);obtain⟨hbq,_⟩:=l9 (b:=q);have c4:=Pq G (aB b) (by omega);rcases hS:fp (aB b) with _ | _
  case true =>
    rw[hS] at c4;have E:bW c q b=11:=by unfold bW; rw[if_neg (not_not_intro vC),if_neg (not_not_intro hQ),if_neg (not_not_intro hFm),if_pos hS]
    rw[hno 11 E (by decide),E,mi];unfold aX cI at *
    generalize db (aB q)=E1 at *
    generalize db (aB b)=E2 at *
    simp only[ov,af,ae,aa,seval,iteOmega,toNatUp];refine sD (c1) ?_;refine sD (c2) ?_;refine sD (c3) ?_;refine sD (c4) ?_;exact aE
  rw[hS] at c4;have c5:=nk G (aB b) 2;by_cases h2:0<(aJ (aB b) 2).length
  ·rw[decide_eq_true h2] at c5;have E:bW c q b=7:=by unfold bW; rw[if_neg (not_not_intro vC),if_neg (not_not_intro hQ),if_neg (not_not_intro hFm),if_neg (by rw[hS]; decide),if_pos (by rw[cF]; omega)]
   rw[hno 7 E (by decide),E,mi];unfold aX cI at *
   generalize db (aB q)=E1 at *
   generalize db (aB b)=E2 at *
   simp only[ov,af,ae,aa,seval,iteOmega,toNatUp];refine sD (c1) ?_;refine sD (c2) ?_;refine sD (c3) ?_;refine sD (c4) ?_;refine sD (c5) ?_;exact aE
  ·rw[decide_eq_false h2] at c5;obtain⟨e1,e2⟩:=aaO vC hQ hFm hS h2;rw[e1,e2];have c6:=aaM G hF hG c (aB q) (aB b) vC hbq hbo (by omega) (hm7 hFm);generalize qO c (aB q) (aB b)=T at *
   generalize mI (aB q) (aB b)=e at *
   unfold eR at *
   unfold aX cI at *
   generalize db (aB q)=E1 at *
   generalize db (aB b)=E2 at *
   simp only[ov,af,ae,aa,seval,iteOmega,toNatUp];refine sD (c1) ?_;refine sD (c2) ?_;refine sD (c3) ?_;refine sD (c4) ?_;refine sD (c5) ?_;refine sD (c6) ?_;exact aE
def iS (L:List Ek) (i:Nat):List (List UInt8):=((aF L 5).take i).map fun j=>(L.getD j default).bo
theorem A5 (L:List Ek):iS L (aF L 5).length=gD L:=by
  unfold iS gD;rw[abv,← AY,acS]; rfl
theorem Ut {L:List Ek} {i:Nat} (h:i<(aF L 5).length):iS L (i+1)=iS L i++[(L.getD ((aF L 5).getD i 0) default).bo]:=by
  unfold iS;rw[aco,abb (l:=aF L 5),aa7 h,abk]; rfl
theorem LI {L:List Ek} {i:Nat} (h:i≤(aF L 5).length):(iS L i).length=i:=by
  unfold iS;rw[abh,abg]; omega
def jy:Ob:=.box [.d (.int .i64 0),.d (.int .i64 0),.nil,.nil,.nil,.d (.str ⟨#[]⟩),.d (.int .i64 0)]
def jv (c:Ch) (L:List Ek) (v a:Int) (i:Nat):List (Nat×V):=[(3,.w (.c (.rp [.bool c.cl,.sl (c.se.map bD),.sl (c.sk.map bD),.sl (c.rk.map bD),.int .i64 c.n,.int .i64 c.m]))),(6,.w (.c (.ptr 3 1 0 0))),(16,.w (.c (.d (.sl (L.map ak))))),(17,.w (.c (.d (.int .i64 v)))),(18,.w (.c (.d (.int .i64 a)))),(20,.w (.c (.d (.sl ((aF L 5).map bT))))),(21,.w (.c (.ptr 1 1 0 0))),(22,.w (.c (.d (.int .i64 (i:Int)))))]
def kK (c:Ch) (L:List Ek) (v a:Int):Nat→St
  | 0=>⟨aQ (jv c L v a 0),hL [(1,.box [.d (.int .i64 v),.d (.int .i64 a),.nil,.nil,.nil,.d (.str ⟨#[]⟩),.d (.int .i64 0)]),(3,jy)],uL [1,3]⟩
  | i+1=>⟨aQ (jv c L v a (i+1)),hL [(1,.box [.d (.int .i64 v),.d (.int .i64 a),.nil,.nil,.own 2 1 0 (iS L (i+1)).length,.d (.str ⟨#[]⟩),.d (.int .i64 0)]),(2,.row 1 ((iS L (i+1)).map fun l=>D.sl (l.map bD))),(3,jy)],uL [1,2,3]⟩
theorem aaP {b:List UInt8} (h:de b) (h7:(aF (aB b) 7).length=1):((aB b).getD ((aF (aB b) 7).getD 0 0) default).bo.length=2:=by
  obtain⟨i1,i2⟩:=ln (l:=aB b) (k:=7) (j:=0) (by omega);exact (h.2.2 _ (gg i1)).2 i2
def lO:aN := .seq (.seq (.reg [oM 122 22,oM 123 20,oO 124 (.len (.t 123)),oO 125 (.bin .lss (.t 122) (.t 124))]) (.cond (.t 125) (.skip) (.exit 0))) (.seq (.block 1 (.seq (.seq (.reg [oM 128 16,oM 129 20,oM 130 22,oO 131 (.idxSl 1 (.t 129) (.t 130)),oO 132 (.load .sc (.t 131)),oO 133 (.idxSl 3 (.t 128) (.t 132)),oO 134 (.fieldAddr 2 (.t 133)),oO 135 (.load .sc (.t 134)),oO 136 (.len (.t 135)),oO 137 (.bin .neq (.t 136) (kI 104))]) (.cond (.t 137) (.seq (.reg [oO 138 (.build [(.d (.int .i64 0)),(.d (.int .i64 0)),.nil,.nil,.nil,(.d (.str ⟨#[]⟩)),(.d (.int .i64 0))] []),oN (.store (.ag 7) (.t 6) (.t 138)),oO 7 (.mv (kI 3))]) (.ret)) (.skip))) (.reg [oO 139 (.fieldAddr 4 (.t 21)),oO 140 (.load .sc (.t 139)),oM 141 16,oM 142 20,oM 143 22,oO 144 (.idxSl 1 (.t 142) (.t 143)),oO 145 (.load .sc (.t 144)),
 oO 146 (.idxSl 3 (.t 141) (.t 145)),oO 147 (.fieldAddr 2 (.t 146)),oO 148 (.load .sc (.t 147)),oO 149 (.bldSl false 1 1 (.sl []) [(0,(.t 148))]),oO 150 (.app false 1 24 (.t 140) (.t 149)),oO 151 (.fieldAddr 4 (.t 21)),oN (.store .sc (.t 151) (.t 150))]))) (.reg [oM 126 22,oO 127 (.bin .add (.t 126) (kI 1)),oM 22 127]))
def iW:aH:=⟨3,190,.seq (.reg [oO 3 (.box .roBox (.t 0)),oO 6 (.alloc [(.d (.int .i64 0)),(.d (.int .i64 0)),.nil,.nil,.nil,(.d (.str ⟨#[]⟩)),(.d (.int .i64 0))]),oO 7 (.mv (kI 0))]) (.seq (.seq (.reg [oO 25 (.load (.ag 6) (.t 3)),oO 26 (.call 41 [(.t 25)] none),oO 27 (.un .not (.t 26))]) (.cond (.t 27) (.seq (.reg [oO 28 (.build [(.d (.int .i64 0)),(.d (.int .i64 0)),.nil,.nil,.nil,(.d (.str ⟨#[]⟩)),(.d (.int .i64 0))] []),oN (.store (.ag 7) (.t 6) (.t 28)),oO 7 (.mv (kI 3))]) (.ret)) (.skip))) (.seq (.reg [oM 30 1,oO 31 (.call 74 [(.t 30)] none),oM 29 31,oO 32 (.extract (.t 29) 0),oO 33 (.extract (.t 29) 1),oM 8 32,oM 9 33]) (.seq (.seq (.reg [oM 34 9,oO 35 (.un .not (.t 34)),oM 36 35,oG 37 (.mv (.t 8)) 36 false,oG 38 (.len (.t 37)) 36 false,oG 39 (.bin .neq (.t 38) (kI 3)) 36 false,
 oO 40 (.pick (.t 36) (.k (.c (.d (.bool true)))) (.t 39))]) (.cond (.t 40) (.seq (.reg [oO 41 (.build [(.d (.int .i64 0)),(.d (.int .i64 0)),.nil,.nil,.nil,(.d (.str ⟨#[]⟩)),(.d (.int .i64 0))] []),oN (.store (.ag 7) (.t 6) (.t 41)),oO 7 (.mv (kI 3))]) (.ret)) (.skip))) (.seq (.reg [oM 43 8,oO 44 (.idxSl 3 (.t 43) (kI 0)),oO 45 (.fieldAddr 2 (.t 44)),oO 46 (.load .sc (.t 45)),oO 47 (.call 15 [(.t 46)] none),oM 42 47,oO 48 (.extract (.t 42) 0),oO 49 (.extract (.t 42) 1),oM 10 48,oM 11 49]) (.seq (.reg [oM 51 8,oO 52 (.idxSl 3 (.t 51) (kI 1)),oO 53 (.fieldAddr 2 (.t 52)),oO 54 (.load .sc (.t 53)),oO 55 (.call 15 [(.t 54)] none),oM 50 55,oO 56 (.extract (.t 50) 0),oO 57 (.extract (.t 50) 1),oM 12 56,oM 13 57]) (.seq (.seq (.reg [oM 59 10,oM 60 12,oO 61 (.call 17 [(.t 59),(.t 60)] none),oM 58 61,
 oO 62 (.extract (.t 58) 0),oO 63 (.extract (.t 58) 1),oM 14 62,oM 15 63]) (.seq (.reg [oM 64 15,oO 65 (.bin .neq (.t 64) (kI 0)),oM 66 65,oG 67 (.mv (.t 14)) 66 false,oG 68 (.mv (.t 1)) 66 false,oG 69 (.call 20 [(.t 67),(.t 68)] none) 66 false,oG 70 (.un .not (.t 69)) 66 false,oO 71 (.pick (.t 66) (.k (.c (.d (.bool true)))) (.t 70))]) (.cond (.t 71) (.seq (.reg [oO 72 (.build [(.d (.int .i64 0)),(.d (.int .i64 0)),.nil,.nil,.nil,(.d (.str ⟨#[]⟩)),(.d (.int .i64 0))] []),oN (.store (.ag 7) (.t 6) (.t 72)),oO 7 (.mv (kI 3))]) (.ret)) (.skip)))) (.seq (.reg [oM 74 2,oO 75 (.call 74 [(.t 74)] none),oM 73 75,oO 76 (.extract (.t 73) 0),oO 77 (.extract (.t 73) 1),oM 16 76,oM 9 77]) (.seq (.seq (.reg [oM 78 9,oO 79 (.un .not (.t 78))]) (.cond (.t 79) (.seq (.reg [oO 80 (.build [(.d (.int .i64 0)),(.d (.int .i64 0)),.nil,.nil,.nil,(.d (.str ⟨#[]⟩)),(.d (.int .i64 0))] []),
 oN (.store (.ag 7) (.t 6) (.t 80)),oO 7 (.mv (kI 3))]) (.ret)) (.skip))) (.seq (.seq (.reg [oM 81 16,oO 82 (.call 77 [(.t 81)] none)]) (.cond (.t 82) (.seq (.reg [oO 83 (.build [(.d (.int .i64 0)),(.d (.int .i64 0)),.nil,.nil,.nil,(.d (.str ⟨#[]⟩)),(.d (.int .i64 0))] []),oN (.store (.ag 7) (.t 6) (.t 83)),oO 7 (.mv (kI 11))]) (.ret)) (.skip))) (.seq (.seq (.reg [oM 84 16,oO 85 (.call 75 [(.t 84),(kI 2)] none),oO 86 (.len (.t 85)),oO 87 (.bin .gtr (.t 86) (kI 0))]) (.cond (.t 87) (.seq (.reg [oO 88 (.build [(.d (.int .i64 0)),(.d (.int .i64 0)),.nil,.nil,.nil,(.d (.str ⟨#[]⟩)),(.d (.int .i64 0))] []),oN (.store (.ag 7) (.t 6) (.t 88)),oO 7 (.mv (kI 7))]) (.ret)) (.skip))) (.seq (.reg [oM 90 16,oM 91 10,oO 92 (.call 82 [(.t 90),(kI 1),(.t 91)] none),oM 89 92,oO 93 (.extract (.t 89) 0),oO 94 (.extract (.t 89) 1),
 oM 17 93,oM 9 94]) (.seq (.reg [oM 96 16,oM 97 12,oO 98 (.call 82 [(.t 96),(kI 4),(.t 97)] none),oM 95 98,oO 99 (.extract (.t 95) 0),oO 100 (.extract (.t 95) 1),oM 18 99,oM 19 100]) (.seq (.reg [oM 101 16,oO 102 (.call 75 [(.t 101),(kI 5)] none),oM 20 102]) (.seq (.seq (.reg [oM 103 9,oO 104 (.un .not (.t 103)),oM 105 104,oG 106 (.mv (.t 19)) 105 false,oG 107 (.un .not (.t 106)) 105 false,oO 108 (.pick (.t 105) (.k (.c (.d (.bool true)))) (.t 107)),oM 109 108,oG 110 (.mv (.t 20)) 109 false,oG 111 (.len (.t 110)) 109 false,oG 112 (.bin .eql (.t 111) (kI 0)) 109 false,oO 113 (.pick (.t 109) (.k (.c (.d (.bool true)))) (.t 112))]) (.cond (.t 113) (.seq (.reg [oO 114 (.build [(.d (.int .i64 0)),(.d (.int .i64 0)),.nil,.nil,.nil,(.d (.str ⟨#[]⟩)),(.d (.int .i64 0))] []),oN (.store (.ag 7) (.t 6) (.t 114)),
 oO 7 (.mv (kI 10))]) (.ret)) (.skip))) (.seq (.seq (.reg [oM 115 20,oO 116 (.len (.t 115)),oO 117 (.bin .gtr (.t 116) (kI 8))]) (.cond (.t 117) (.seq (.reg [oO 118 (.build [(.d (.int .i64 0)),(.d (.int .i64 0)),.nil,.nil,.nil,(.d (.str ⟨#[]⟩)),(.d (.int .i64 0))] []),oN (.store (.ag 7) (.t 6) (.t 118)),oO 7 (.mv (kI 8))]) (.ret)) (.skip))) (.seq (.reg [oM 119 17,oM 120 18,oO 121 (.build [(.d (.int .i64 0)),(.d (.int .i64 0)),.nil,.nil,.nil,(.d (.str ⟨#[]⟩)),(.d (.int .i64 0))] [(0,1,(.t 119)),(1,1,(.t 120))]),oO 21 (.alloc [(.d (.int .i64 0)),(.d (.int .i64 0)),.nil,.nil,.nil,(.d (.str ⟨#[]⟩)),(.d (.int .i64 0))]),oN (.store (.ag 7) (.t 21) (.t 121))]) (.seq (.seq (.reg [oO 22 (.mv (kI 0))]) (.block 0 (.loop lO))) (.seq (.reg [oO 153 (.load (.ag 6) (.t 3)),oM 154 17,oM 155 18,oO 156 (.call 27 [(.t 153),(.t 154),(.t 155)] none),
 oM 152 156,oO 157 (.extract (.t 152) 0),oO 158 (.extract (.t 152) 1),oO 159 (.fieldAddr 2 (.t 21)),oN (.store (.ag 2) (.t 159) (.t 157))]) (.seq (.seq (.reg [oM 160 16,oO 161 (.call 75 [(.t 160),(kI 6)] none),oM 23 161]) (.seq (.reg [oM 162 23,oO 163 (.len (.t 162)),oO 164 (.bin .eql (.t 163) (kI 1))]) (.cond (.t 164) (.reg [oM 165 16,oM 166 23,oO 167 (.idxSl 1 (.t 166) (kI 0)),oO 168 (.load .sc (.t 167)),oO 169 (.idxSl 3 (.t 165) (.t 168)),oO 170 (.fieldAddr 2 (.t 169)),oO 171 (.load .sc (.t 170)),oO 172 (.b2s (.t 171)),oO 173 (.fieldAddr 5 (.t 21)),oN (.store .sc (.t 173) (.t 172))]) (.skip)))) (.seq (.seq (.reg [oM 174 16,oO 175 (.call 75 [(.t 174),(kI 7)] none),oM 24 175]) (.seq (.reg [oM 176 24,oO 177 (.len (.t 176)),oO 178 (.bin .eql (.t 177) (kI 1))]) (.cond (.t 178) (.reg [oM 179 16,
 oM 180 24,oO 181 (.idxSl 1 (.t 180) (kI 0)),oO 182 (.load .sc (.t 181)),oO 183 (.idxSl 3 (.t 179) (.t 182)),oO 184 (.fieldAddr 2 (.t 183)),oO 185 (.load .sc (.t 184)),oO 186 (.call 49 [(.t 185)] none),oO 187 (.conv .i64 (.t 186)),oO 188 (.fieldAddr 6 (.t 21)),oN (.store .sc (.t 188) (.t 187))]) (.skip)))) (.seq (.reg [oO 189 (.load (.ag 7) (.t 21)),oN (.store (.ag 7) (.t 6) (.t 189)),oO 7 (.mv (kI 0))]) (.ret)))))))))))))))))))))),[(6,(some (.ag 7))),(7,none)]⟩
theorem ZV:aG Tryz.prog { own:=[],comp:=[],frz:=[],nils:=[] } Tryz.f31=some iW:=by kernel_rfl
set_option maxHeartbeats 6400000 in
theorem Px (G:ah) (c:Ch) (q b:List UInt8) (hq:q.length≤9000000000000000000) (hb:b.length≤9000000000000000000):aw Tryz.prog G 31 [aX c,.sl (q.map bD),.sl (b.map bD)] (.tup [.c (.d (eR (gE c q b))),.c (.d (.int .i64 (bW c q b)))]):=by
  refine aI Tryz.func31 ZV rfl rfl ?_;have c1:=xh G c;have hno:∀ e,bW c q b=e→e≠0→gE c q b=fM:=fun e q1 q2=>if_neg (by rw[q1]; exact q2)
  by_cases vC:dt c
  ·rw[decide_eq_true vC] at c1;have c2:=C4 G q hq;by_cases hF:de q
   ·rw[decide_eq_true hF,show fc q=aB q from if_pos hF] at c2;obtain⟨hbo,hl⟩:=l9 (b:=q);by_cases h3:(aB q).length=3
    ·have g3:(((aB q).length:Int)=3)=True:=eq_true (by omega);have f0:=lD (l:=aB q) (i:=0) (by omega);have f1:=lD (l:=aB q) (i:=1) (by omega);have o0:=hbo _ (gg (l:=aB q) (i:=0) (by omega));have o1:=hbo _ (gg (l:=aB q) (i:=1) (by omega));have c3:=sZ G ((aB q).getD 0 default).bo (by omega);have c4:=sZ G ((aB q).getD 1 default).bo (by omega);rw[show dP ((aB q).getD 0 default).bo=ew q from rfl] at c3;rw[show dP ((aB q).getD 1 default).bo=ez q from rfl] at c4;have lX:(ew q).length≤70000:=by have:=ma ((aB q).getD 0 default).bo; unfold ew; omega
     have lY:(ez q).length≤70000:=by have:=ma ((aB q).getD 1 default).bo; unfold ez; omega
     have c5:=aas G (ew q) (ez q) (by omega) (by omega);have hQ:ji q↔dk (ew q) (ez q)=0∧bQ (ew q) (ez q)=q:=⟨fun x=>x.2.2,fun x=>⟨hF,h3,x⟩⟩
     by_cases e0:dk (ew q) (ez q)=0
     ·rw[e0] at c5;have c6:=nY G (bQ (ew q) (ez q)) q;by_cases e1:bQ (ew q) (ez q)=q
      ·rw[e1,beq_self_eq_true] at c6;rw[e1] at c5;have vQ:ji q:=hQ.2 ⟨e0,e1⟩;have c7:=C4 G b hb;by_cases hB:de b
       ·rw[decide_eq_true hB,show fc b=aB b from if_pos hB] at c7;obtain⟨bo,hl2⟩:=l9 (b:=b);have s7:=aaP hB;have hE:bW c q b=if fp (aB b)=true then 11 else if (aF (aB b) 2).length≠0 then 7 else if ¬ ((cZ (aB b) 1 (ew q)).isSome∧(cZ (aB b) 4 (ez q)).isSome∧(aF (aB b) 5).length≠0) then 10 else if 8<(aF (aB b) 5).length then 8 else if ¬ ∀ x∈gD (aB b),x.length=104 then 3 else 0:=by unfold bW; rw[if_neg (not_not_intro vC),if_neg (not_not_intro vQ),if_neg (not_not_intro hB)]
        have hT:bW c q b=0→gE c q b=⟨(cZ (aB b) 1 (ew q)).getD 0,(cZ (aB b) 4 (ez q)).getD 0,bg c ((cZ (aB b) 1 (ew q)).getD 0) ((cZ (aB b) 4 (ez q)).getD 0) 0,bg c ((cZ (aB b) 1 (ew q)).getD 0) ((cZ (aB b) 4 (ez q)).getD 0) 1,gD (aB b),mG (aB b),kX (aB b)⟩:=fun x=>if_pos x
        generalize aB b=L at *
        generalize bW c q b=e9 at *
        generalize gE c q b=t9 at *
        generalize ew q=X at *
        generalize ez q=Y at *
        generalize (aB q).getD 0 default=x0 at *
        generalize (aB q).getD 1 default=x1 at *
        generalize aB q=Lq at *
        have d1:=O2 G L (by omega);have d2:=iH G L 2 (by omega);have d3:=Pg G L 1 X (by omega) (fun r hr=>by have:=bo r hr; omega) (by omega);have d4:=Pg G L 4 Y (by omega) (fun r hr=>by have:=bo r hr; omega) (by omega);have d5:=iH G L 5 (by omega);have d6:=iH G L 6 (by omega);have d7:=iH G L 7 (by omega);rcases hS:fp L with _ | _
        ·rw[hS] at d1 hE;rw[if_neg ac6] at hE;by_cases a2:(aF L 2).length=0
         ·have g2:(((aF L 2).length:Int)>0)=False:=eq_false (by omega);rw[if_neg (not_not_intro a2)] at hE;rcases hv:cZ L 1 X with _ | v
          ·rw[hv,abY,ab4] at d3;rw[if_pos (fun x=>by rw[hv] at x; exact absurd x.1 (by decide))] at hE;obtain rfl:=hno 10 hE (by decide);subst hE;unfold aX eR fM at *
           simp only[iW,af,ae,aa,seval,iteOmega,toNatUp];refine sD (c1) ?_;refine sC (c2) ?_;simp only[g3,f0,f1,ak,ae,aa,seval,iteOmega,toNatUp];refine sC (c3) ?_;simp only[f1,ak,ae,aa,seval,iteOmega,toNatUp];refine sD (c4) ?_;refine sD (c5) ?_;refine sD (c6) ?_;refine sD (c7) ?_;refine sD (d1) ?_;refine sC (d2) ?_;simp only[g2,ae,aa,seval,iteOmega,toNatUp];refine sD (d3) ?_;refine sD (d4) ?_;refine sD (d5) ?_;exact aE
          ·rw[hv,abQ,ab9] at d3;rcases ha:cZ L 4 Y with _ | a
           ·rw[ha,abY,ab4] at d4;rw[if_pos (fun x=>by rw[ha] at x; exact absurd x.2.1 (by decide))] at hE;obtain rfl:=hno 10 hE (by decide);subst hE;unfold aX eR fM at *
            simp only[iW,af,ae,aa,seval,iteOmega,toNatUp];refine sD (c1) ?_;refine sC (c2) ?_;simp only[g3,f0,f1,ak,ae,aa,seval,iteOmega,toNatUp];refine sC (c3) ?_;simp only[f1,ak,ae,aa,seval,iteOmega,toNatUp];refine sD (c4) ?_;refine sD (c5) ?_;refine sD (c6) ?_;refine sD (c7) ?_;refine sD (d1) ?_;refine sC (d2) ?_;simp only[g2,ae,aa,seval,iteOmega,toNatUp];refine sD (d3) ?_;refine sD (d4) ?_;refine sD (d5) ?_;exact aE
           ·rw[ha,abQ,ab9] at d4;by_cases a5:(aF L 5).length=0
            ·have g5:(((aF L 5).length:Int)=0)=True:=eq_true (by omega);rw[if_pos (fun x=>x.2.2 a5)] at hE;obtain rfl:=hno 10 hE (by decide);subst hE;unfold aX eR fM at *
             simp only[iW,af,ae,aa,seval,iteOmega,toNatUp];refine sD (c1) ?_;refine sC (c2) ?_;simp only[g3,f0,f1,ak,ae,aa,seval,iteOmega,toNatUp];refine sC (c3) ?_;simp only[f1,ak,ae,aa,seval,iteOmega,toNatUp];refine sD (c4) ?_;refine sD (c5) ?_;refine sD (c6) ?_;refine sD (c7) ?_;refine sD (d1) ?_;refine sC (d2) ?_;simp only[g2,ae,aa,seval,iteOmega,toNatUp];refine sD (d3) ?_;refine sD (d4) ?_;refine sC (d5) ?_;simp only[g5,ae,aa,seval,iteOmega,toNatUp];exact aE
            ·have g5:(((aF L 5).length:Int)=0)=False:=eq_false (by omega);rw[if_neg (not_not_intro ⟨by rw[hv]; rfl,by rw[ha]; rfl,a5⟩)] at hE;rw[hv,ha,abQ,abQ] at hT;by_cases a8:8<(aF L 5).length
             ·have g8:(((aF L 5).length:Int)>8)=True:=eq_true (by omega);rw[if_pos a8] at hE;obtain rfl:=hno 8 hE (by decide);subst hE;unfold aX eR fM at *
              simp only[iW,af,ae,aa,seval,iteOmega,toNatUp];refine sD (c1) ?_;refine sC (c2) ?_;simp only[g3,f0,f1,ak,ae,aa,seval,iteOmega,toNatUp];refine sC (c3) ?_;simp only[f1,ak,ae,aa,seval,iteOmega,toNatUp];refine sD (c4) ?_;refine sD (c5) ?_;refine sD (c6) ?_;refine sD (c7) ?_;refine sD (d1) ?_;refine sC (d2) ?_;simp only[g2,ae,aa,seval,iteOmega,toNatUp];refine sD (d3) ?_;refine sD (d4) ?_;refine sC (d5) ?_;simp only[g5,g8,ae,aa,seval,iteOmega,toNatUp];exact aE
             ·have g8:(((aF L 5).length:Int)>8)=False:=eq_false (by omega);rw[if_neg a8] at hE;have ckz:=CY G c v a;unfold aX at *
              unfold df at ckz;simp only[iW,af,ae,aa,seval,iteOmega,toNatUp];refine sD (c1) ?_;refine sC (c2) ?_;simp only[g3,f0,f1,ak,ae,aa,seval,iteOmega,toNatUp];refine sC (c3) ?_;simp only[f1,ak,ae,aa,seval,iteOmega,toNatUp];refine sD (c4) ?_;refine sD (c5) ?_;refine sD (c6) ?_;refine sD (c7) ?_;refine sD (d1) ?_;refine sC (d2) ?_;simp only[g2,ae,aa,seval,iteOmega,toNatUp];refine sD (d3) ?_;refine sD (d4) ?_;refine sC (d5) ?_;simp only[g5,g8,ae,aa,seval,iteOmega,toNatUp];clear c1 c2 c3 c4 c5 c6 c7 d1 d2 d3 d4 d5;refine aU (kK c L v a) (fun i=>(aF L 5).length-i) (fun i=>i≤(aF L 5).length∧∀ x∈iS L i,x.length=104) 0 ⟨abc _,by unfold iS; rw[abS]; exact fun x hx=>by cases hx⟩ ?_ ?_
              ·refine aj (fun i=>if i=1 then 168 else 48) ?_ ?_ rfl rfl <;> simp only[jv,jy,wx,ai,am,aa,seval,iteOmega,toNatUp] <;> first | rfl | exact⟨rfl,rfl⟩ | skip
              ·rintro i ⟨hi,hp⟩;by_cases hlt:i<(aF L 5).length
               ·have hs:=Ut hlt;obtain⟨i1,_⟩:=ln hlt;have f2:=nL hlt;have f3:=lD i1;have hm:(L.getD ((aF L 5).getD i 0) default).bo∈gD L:=by
                    rw[← A5];unfold iS;rw[abv];refine abB.2 ⟨(aF L 5).getD i 0,?_,rfl⟩;rw[abb,aa7 hlt];exact abG hlt
                have tl:=LI (L:=L) (i:=i) hi;have tl2:=LI (L:=L) (i:=i+1) hlt;have az:=rA (iS L i);generalize L.getD ((aF L 5).getD i 0) default=x at *
                generalize (aF L 5).getD i 0=j at *
                clear ckz d6 d7;by_cases x104:x.bo.length=104
                ·have gx:((x.bo.length:Int)=104)=True:=eq_true (by omega);have hn:∀ y∈iS L (i+1),y.length=104:=by
                   rw[hs];intro y hy;rcases abn.1 hy with hy | hy
                   ·exact hp y hy
                   ·rw[abe.1 hy]; exact x104
                 rcases i with _ | i
                 ·have e1:iS L (0+1)=[x.bo]:=hs;simp only[lO,kK,jv,jy,ae,aa,seval,iteOmega,toNatUp,f2,bT,f3,ak,gx,a7];refine aM (0+1) (by omega) ⟨by omega,hn⟩ (aj (fun i=>if i=1 then 1 else if i=2 then 1200 else 3) ?_ ?_ rfl rfl) <;> simp only[kK,jv,jy,e1,wx,ai,am,aa,seval,iteOmega,toNatUp] <;> first | rfl | exact⟨rfl,rfl⟩ | skip
                 ·simp only[lO,kK,jv,jy,ae,aa,seval,iteOmega,toNatUp,f2,bT,f3,ak,gx,a7,tl];refine aM (i+1+1) (by omega) ⟨by omega,hn⟩ (aj (fun i=>if i=1 then 1 else if i=2 then 1200 else 3) ?_ ?_ rfl rfl) <;> simp only[kK,jv,jy,hs,abk,tl,wx,ai,am,aa,seval,iteOmega,toNatUp] <;> first | rfl | exact⟨rfl,rfl⟩ | skip
                ·have gx:((x.bo.length:Int)=104)=False:=eq_false (by omega);rw[if_pos (fun y=>x104 (y _ hm))] at hE;obtain rfl:=hno 3 hE (by decide);subst hE;unfold eR fM;rcases i with _ | i
                 ·simp only[lO,kK,jv,jy,ae,aa,seval,iteOmega,toNatUp,f2,bT,f3,ak,gx];exact aE
                 ·simp only[lO,kK,jv,jy,ae,aa,seval,iteOmega,toNatUp,f2,bT,f3,ak,gx];exact aE
               ·obtain rfl:i=(aF L 5).length:=by omega
                rw[A5] at hp;rw[if_neg (not_not_intro hp)] at hE;subst hE;obtain rfl:=hT rfl;unfold eR;dsimp only;have hC:=A5 L;obtain⟨n,hn⟩:∃ n,(aF L 5).length=n+1:=⟨(aF L 5).length-1,by omega⟩
                rw[hn] at hC ⊢;have az:=rA (gD L);by_cases h6:(aF L 6).length=1
                ·have g6:(((aF L 6).length:Int)=1)=True:=eq_true (by omega);obtain⟨i6,_⟩:=ln (l:=L) (k:=6) (j:=0) (by omega);have f6:=nL (l:=aF L 6) (i:=0) (by omega);have u6:=lD i6;rw[show mG L=(L.getD ((aF L 6).getD 0 0) default).bo from if_pos h6];generalize L.getD ((aF L 6).getD 0 0) default=x6 at *
                 generalize (aF L 6).getD 0 0=j6 at *
                 by_cases h7:(aF L 7).length=1
                 ·have g7:(((aF L 7).length:Int)=1)=True:=eq_true (by omega);obtain⟨i7,_⟩:=ln (l:=L) (k:=7) (j:=0) (by omega);have f7:=nL (l:=aF L 7) (i:=0) (by omega);have u7:=lD i7;have s7:=s7 h7;rw[show kX L=(aY (L.getD ((aF L 7).getD 0 0) default).bo:Int) from if_pos h7];generalize L.getD ((aF L 7).getD 0 0) default=x7 at *
                  generalize (aF L 7).getD 0 0=j7 at *
                  have cg:=sE G x7.bo (by omega);have bN:=(jj 2 x7.bo s7 (by decide)).1;generalize aY x7.bo=N at *
                  have gn:(((n+1:Nat):Int)<((aF L 5).length:Int))=False:=eq_false (by omega);simp only[lO,kK,jv,jy,hC,hn,ae,aa,seval,iteOmega,toNatUp,gn];refine sD (ckz) ?_;refine sC (d6) ?_;simp only[g6,f6,bT,u6,ak,pj,ae,aa,seval,iteOmega,toNatUp];refine sC (d7) ?_;simp only[g7,f7,bT,u7,ak,ae,aa,seval,iteOmega,toNatUp];refine sD (cg) ?_;exact aE
                 ·have g7:(((aF L 7).length:Int)=1)=False:=eq_false (by omega);rw[show kX L=0 from if_neg h7];have gn:(((n+1:Nat):Int)<((aF L 5).length:Int))=False:=eq_false (by omega);simp only[lO,kK,jv,jy,hC,hn,ae,aa,seval,iteOmega,toNatUp,gn];refine sD (ckz) ?_;refine sC (d6) ?_;simp only[g6,f6,bT,u6,ak,pj,ae,aa,seval,iteOmega,toNatUp];refine sC (d7) ?_;simp only[g7,ae,aa,seval,iteOmega,toNatUp];exact aE
                ·have g6:(((aF L 6).length:Int)=1)=False:=eq_false (by omega);rw[show mG L=[] from if_neg h6];by_cases h7:(aF L 7).length=1
                 ·have g7:(((aF L 7).length:Int)=1)=True:=eq_true (by omega);obtain⟨i7,_⟩:=ln (l:=L) (k:=7) (j:=0) (by omega);have f7:=nL (l:=aF L 7) (i:=0) (by omega);have u7:=lD i7;have s7:=s7 h7;rw[show kX L=(aY (L.getD ((aF L 7).getD 0 0) default).bo:Int) from if_pos h7];generalize L.getD ((aF L 7).getD 0 0) default=x7 at *
                  generalize (aF L 7).getD 0 0=j7 at *
                  have cg:=sE G x7.bo (by omega);have bN:=(jj 2 x7.bo s7 (by decide)).1;generalize aY x7.bo=N at *
                  have gn:(((n+1:Nat):Int)<((aF L 5).length:Int))=False:=eq_false (by omega);simp only[lO,kK,jv,jy,hC,hn,ae,aa,seval,iteOmega,toNatUp,gn];refine sD (ckz) ?_;refine sC (d6) ?_;simp only[g6,ae,aa,seval,iteOmega,toNatUp];refine sC (d7) ?_;simp only[g7,f7,bT,u7,ak,ae,aa,seval,iteOmega,toNatUp];refine sD (cg) ?_;exact aE
                 ·have g7:(((aF L 7).length:Int)=1)=False:=eq_false (by omega);rw[show kX L=0 from if_neg h7];have gn:(((n+1:Nat):Int)<((aF L 5).length:Int))=False:=eq_false (by omega);simp only[lO,kK,jv,jy,hC,hn,ae,aa,seval,iteOmega,toNatUp,gn];refine sD (ckz) ?_;refine sC (d6) ?_;simp only[g6,ae,aa,seval,iteOmega,toNatUp];refine sC (d7) ?_;simp only[g7,ae,aa,seval,iteOmega,toNatUp];exact aE
         ·have g2:(((aF L 2).length:Int)>0)=True:=eq_true (by omega);rw[if_pos a2] at hE;obtain rfl:=hno 7 hE (by decide);subst hE;unfold aX eR fM at *
          simp only[iW,af,ae,aa,seval,iteOmega,toNatUp];refine sD (c1) ?_;refine sC (c2) ?_;simp only[g3,f0,f1,ak,ae,aa,seval,iteOmega,toNatUp];refine sC (c3) ?_;simp only[f1,ak,ae,aa,seval,iteOmega,toNatUp];refine sD (c4) ?_;refine sD (c5) ?_;refine sD (c6) ?_;refine sD (c7) ?_;refine sD (d1) ?_;refine sC (d2) ?_;simp only[g2,ae,aa,seval,iteOmega,toNatUp];exact aE
        ·rw[hS] at d1 hE;rw[if_pos rfl] at hE;obtain rfl:=hno 11 hE (by decide);subst hE;unfold aX eR fM at *
         simp only[iW,af,ae,aa,seval,iteOmega,toNatUp];refine sD (c1) ?_;refine sC (c2) ?_;simp only[g3,f0,f1,ak,ae,aa,seval,iteOmega,toNatUp];refine sC (c3) ?_;simp only[f1,ak,ae,aa,seval,iteOmega,toNatUp];refine sD (c4) ?_;refine sD (c5) ?_;refine sD (c6) ?_;refine sD (c7) ?_;refine sD (d1) ?_;exact aE
       ·rw[decide_eq_false hB,show fc b=[] from if_neg hB] at c7;have E:bW c q b=3:=by unfold bW; rw[if_neg (not_not_intro vC),if_neg (not_not_intro vQ),if_pos hB]
        rw[hno 3 E (by decide),E];unfold aX eR fM at *
        simp only[iW,af,ae,aa,seval,iteOmega,toNatUp];refine sD (c1) ?_;refine sC (c2) ?_;simp only[g3,f0,f1,ak,ae,aa,seval,iteOmega,toNatUp];refine sC (c3) ?_;simp only[f1,ak,ae,aa,seval,iteOmega,toNatUp];refine sD (c4) ?_;refine sD (c5) ?_;refine sD (c6) ?_;refine sD (c7) ?_;exact aE
      ·rw[beq_eq_false_iff_ne.2 e1] at c6;have E:bW c q b=3:=by unfold bW; rw[if_neg (not_not_intro vC),if_pos fun x=>e1 (hQ.1 x).2]
       rw[hno 3 E (by decide),E];unfold aX eR fM at *
       simp only[iW,af,ae,aa,seval,iteOmega,toNatUp];refine sD (c1) ?_;refine sC (c2) ?_;simp only[g3,f0,f1,ak,ae,aa,seval,iteOmega,toNatUp];refine sC (c3) ?_;simp only[f1,ak,ae,aa,seval,iteOmega,toNatUp];refine sD (c4) ?_;refine sD (c5) ?_;refine sD (c6) ?_;exact aE
     ·have ge:=eq_false e0;have E:bW c q b=3:=by unfold bW; rw[if_neg (not_not_intro vC),if_pos fun x=>e0 (hQ.1 x).1]
      rw[hno 3 E (by decide),E];unfold aX eR fM at *
      simp only[iW,af,ae,aa,seval,iteOmega,toNatUp];refine sD (c1) ?_;refine sC (c2) ?_;simp only[g3,f0,f1,ak,ae,aa,seval,iteOmega,toNatUp];refine sC (c3) ?_;simp only[f1,ak,ae,aa,seval,iteOmega,toNatUp];refine sD (c4) ?_;refine sC (c5) ?_;simp only[ge,ae,aa,seval,iteOmega,toNatUp];exact aE
    ·have g3:(((aB q).length:Int)=3)=False:=eq_false (by omega);have E:bW c q b=3:=by unfold bW; rw[if_neg (not_not_intro vC),if_pos fun x=>h3 x.2.1]
     rw[hno 3 E (by decide),E];unfold aX eR fM at *
     simp only[iW,af,ae,aa,seval,iteOmega,toNatUp];refine sD (c1) ?_;refine sC (c2) ?_;simp only[g3,ae,aa,seval,iteOmega,toNatUp];exact aE
   ·rw[decide_eq_false hF,show fc q=[] from if_neg hF] at c2;have E:bW c q b=3:=by unfold bW; rw[if_neg (not_not_intro vC),if_pos fun x=>hF x.1]
    rw[hno 3 E (by decide),E];unfold aX eR fM at *
    simp only[iW,af,ae,aa,seval,iteOmega,toNatUp];refine sD (c1) ?_;refine sD (c2) ?_;exact aE
  ·rw[decide_eq_false vC] at c1;have E:bW c q b=3:=by unfold bW; rw[if_pos vC]
   rw[hno 3 E (by decide),E];unfold aX eR fM at *
   simp only[iW,af,ae,aa,seval,iteOmega,toNatUp];refine sD (c1) ?_;exact aE
def Oq:aH:=⟨2,45,.seq (.reg [oO 2 (.box .roBox (.t 0)),oO 3 (.box .roBox (.t 1)),oO 4 (.mv (.k (.c (.d (.bool false)))))]) (.seq (.reg [oO 5 (.fieldAddr 0 (.t 2)),oO 6 (.load .sc (.t 5)),oO 7 (.fieldAddr 0 (.t 3)),oO 8 (.load .sc (.t 7)),oO 9 (.bin .eql (.t 6) (.t 8)),oM 10 9,oG 11 (.fieldAddr 1 (.t 2)) 10 true,oG 12 (.load .sc (.t 11)) 10 true,oG 13 (.fieldAddr 1 (.t 3)) 10 true,oG 14 (.load .sc (.t 13)) 10 true,oG 15 (.bin .eql (.t 12) (.t 14)) 10 true,oO 16 (.pick (.t 10) (.t 15) (.k (.c (.d (.bool false))))),oM 17 16,oG 18 (.fieldAddr 2 (.t 2)) 17 true,oG 19 (.load (.ag 2) (.t 18)) 17 true,oG 20 (.fieldAddr 2 (.t 3)) 17 true,oG 21 (.load (.ag 2) (.t 20)) 17 true,oG 22 (.call 32 [(.t 19),(.t 21)] none) 17 true,oO 23 (.pick (.t 17) (.t 22) (.k (.c (.d (.bool false))))),oM 24 23,oG 25 (.fieldAddr 4 (.t 2)) 24 true,
 oG 26 (.load .sc (.t 25)) 24 true,oG 27 (.fieldAddr 4 (.t 3)) 24 true,oG 28 (.load .sc (.t 27)) 24 true,oG 29 (.call 83 [(.t 26),(.t 28)] none) 24 true,oO 30 (.pick (.t 24) (.t 29) (.k (.c (.d (.bool false))))),oM 31 30,oG 32 (.fieldAddr 5 (.t 2)) 31 true,oG 33 (.load .sc (.t 32)) 31 true,oG 34 (.fieldAddr 5 (.t 3)) 31 true,oG 35 (.load .sc (.t 34)) 31 true,oG 36 (.bin .eql (.t 33) (.t 35)) 31 true,oO 37 (.pick (.t 31) (.t 36) (.k (.c (.d (.bool false))))),oM 38 37,oG 39 (.fieldAddr 6 (.t 2)) 38 true,oG 40 (.load .sc (.t 39)) 38 true,oG 41 (.fieldAddr 6 (.t 3)) 38 true,oG 42 (.load .sc (.t 41)) 38 true,oG 43 (.bin .eql (.t 40) (.t 42)) 38 true,oO 44 (.pick (.t 38) (.t 43) (.k (.c (.d (.bool false))))),oM 4 44]) (.ret)),[(4,none)]⟩
theorem ZW:aG Tryz.prog { own:=[],comp:=[],frz:=[],nils:=[] } Tryz.f33=some Oq:=by kernel_rfl
set_option maxHeartbeats 800000 in
theorem Py (G:ah) (t:tE) (hc:t.ck.length≤140737488355328):aw Tryz.prog G 33 [eR t,eR t] (.w (.c (.d (.bool true)))):=by
  refine aI Tryz.func33 ZW rfl rfl ?_;have c1:=O9 G t.up t.dn;have c2:=aac G t.ck t.ck hc hc;rw[beq_self_eq_true] at c2;unfold eR;unfold df at c1;simp only[Oq,af,ae,aa,seval,iteOmega,toNatUp];refine sD (c1) ?_;refine sD (c2) ?_;exact aL
def ke (p:d9):List Ek:=if p.ho.size=0 then [] else [⟨true,6,p.ho.data.toList⟩]
def kf (p:d9):List Ek:=if p.pt=0 then [] else [⟨true,7,aT [p.pt]⟩]
theorem Ck (p:d9):cd p=ke p++(kf p++[cE]):=rfl
theorem ZY {p:d9} (h:p.ho.size≤255):(∀ r∈ke p,r.ty=6)∧(ke p).length≤1∧∀ r∈ke p,r.bo.length≤255:=by
  unfold ke;split
  ·exact⟨fun r hr=>(by cases hr),abc _,fun r hr=>(by cases hr)⟩
  ·exact⟨fun r hr=>(by rw[abe.1 hr]),abl _,fun r hr=>by rw[abe.1 hr]; exact h⟩
theorem ZZ (p:d9):(∀ r∈kf p,r.ty=7)∧(kf p).length≤1∧∀ r∈kf p,r.bo.length=2:=by
  unfold kf;split
  ·exact⟨fun r hr=>(by cases hr),abc _,fun r hr=>(by cases hr)⟩
  ·exact⟨fun r hr=>(by rw[abe.1 hr]),abl _,fun r hr=>by rw[abe.1 hr]; exact eU [p.pt]⟩
theorem Z0 {L:List Ek} {p:d9} (h:aJ L 6=ke p):mG L=p.ho.data.toList:=by
  unfold mG;by_cases h0:p.ho.size=0
  ·have:aJ L 6=[]:=by rw[h]; exact if_pos h0
   rw[cF,this,if_neg (show ¬ ([]:List Ek).length=1 by decide)];exact (abM.1 (show p.ho.data.toList.length=0 from h0)).symm
  ·have e:aJ L 6=[⟨true,6,p.ho.data.toList⟩]:=by rw[h]; exact if_neg h0
   have hl:(aF L 6).length=1:=by rw[cF,e]; rfl
   rw[if_pos hl,mS (by omega),e]; rfl
theorem Z1 {L:List Ek} {p:d9} (hp:0≤p.pt∧p.pt≤65535) (h:aJ L 7=kf p):kX L=p.pt:=by
  unfold kX;by_cases h0:p.pt=0
  ·have:aJ L 7=[]:=by rw[h]; exact if_pos h0
   rw[cF,this,if_neg (show ¬ ([]:List Ek).length=1 by decide),h0]
  ·have e:aJ L 7=[⟨true,7,aT [p.pt]⟩]:=by rw[h]; exact if_neg h0
   have hl:(aF L 7).length=1:=by rw[cF,e]; rfl
   rw[if_pos hl,mS (by omega),e]
   show (aY (aT [p.pt]):Int)=_
   rw[show aT [p.pt]=aV p.pt.toNat 2 from abm _,get_put 2 (by decide)];omega
theorem P0 {p:d9} {r:List Fd} {c:Ch} (h:cU p r c=0):dt c∧dj r∧bA p.pr∧bA p.al∧bA [p.pt]:=by
  unfold cU at h;by_cases h1:dt c∧dj r
  ·rw[if_neg (not_not_intro h1)] at h;by_cases h2:bA p.pr∧bA p.al∧bA [p.pt]
   ·exact⟨h1.1,h1.2,h2⟩
   ·rw[if_pos h2] at h; exact absurd h (by decide)
  ·rw[if_pos h1] at h; exact absurd h (by decide)
theorem agree {p:d9} {r:List Fd} {c c':Ch} {x y:List Int} {ns:List (List UInt8)} (hq:dk x y=0) (hs:cU p r c=0) (hn:ka ns p.ho) (hv:dt c') (hk:c'.se=c.se) :
    (gQ p r c (bQ x y) ns).length≤65535 ∧
    (dC x p.pr=none∨dC y p.al=none→bW c' (bQ x y) (gQ p r c (bQ x y) ns)=10) ∧
    (∀ v a,dC x p.pr=some v→dC y p.al=some a→bW c' (bQ x y) (gQ p r c (bQ x y) ns)=0 ∧
      gE c' (bQ x y) (gQ p r c (bQ x y) ns)=⟨v,a,bg c v a 0,bg c v a 1,ns.map (fun n=>dO (r.getD 0 default) a (bg c v a 0) (bg c v a 1) n),p.ho.data.toList,p.pt⟩∧(0≤v∧v≤65535)∧(0≤a∧a≤65535)∧fD c v a=0):=by
  obtain⟨vC,vR,s1,s2,s3⟩:=P0 hs;obtain⟨sx,sy,_⟩:=tv hq;obtain⟨o1,o2,o3,o4⟩:=aa0 hq;obtain⟨Q,fx,fy⟩:=PY hq;have e:gQ p r c (bQ x y) ns=bc (dQ p r c x y ns++cd p):=by
    unfold gQ;rw[if_neg (not_not_intro hs),if_neg (not_not_intro o1),o2,if_neg ac6,if_neg (not_not_intro hn),o3,o4]
  obtain⟨n1,n2,n3,n4⟩:=hn;obtain⟨h6,l6,b6⟩:=ZY (p:=p) n3;obtain⟨h7,l7,b7⟩:=ZZ p;have pp:=s3 p.pt abK;have e0:∀ l:List Int,l.length≤16→((aT l).length%2=0∧(aT l).length≤255):=fun l hl=>by rw[eU]; omega
  rw[e];rcases hx:dC x p.pr with _ | v
  ·have eA:dQ p r c x y ns=[⟨true,1,[]⟩]:=by unfold dQ; rw[hx]
   rw[eA,Ck];have em:[(⟨true,1,[]⟩:Ek)]++(ke p++(kf p++[cE]))=bJ ⟨true,1,[]⟩ [] [] (ke p) (kf p)++[cE]:=by simp[bJ]
   rw[em];obtain⟨m1,m2,m3,m4,m5,m6,m7,m8,m9,mA,mB⟩:=Dc (a:=⟨true,1,[]⟩) (b:=[]) (x:=[]) rfl (fun r hr=>by cases hr) (fun r hr=>by cases hr) h6 h7 (by decide) (by decide) l6 l7 (e0 [] (by decide)) (fun r hr=>by cases hr) (fun r hr=>by cases hr) b6 b7;obtain⟨f1,_⟩:=Dd (c:=c') hv Q m4 m3 m5 m7 m9 (by decide) (fun r hr=>by cases hr);rw[fx] at f1;exact⟨(mh m1).2.2,fun _=>f1 (.inl (IY m6)),fun v a q=>(by cases q)⟩
  ·obtain⟨v1,v2⟩:=lq hx;have v3:=sx v v1;rcases hy:dC y p.al with _ | a
   ·have eA:dQ p r c x y ns=[⟨true,1,aT [v]⟩,⟨true,4,[]⟩]:=by unfold dQ; rw[hx]; dsimp only; rw[hy]
    rw[eA,Ck];have em:[(⟨true,1,aT [v]⟩:Ek),⟨true,4,[]⟩]++(ke p++(kf p++[cE]))=bJ ⟨true,1,aT [v]⟩ [⟨true,4,[]⟩] [] (ke p) (kf p)++[cE]:=by simp[bJ]
    rw[em];obtain⟨m1,m2,m3,m4,m5,m6,m7,m8,m9,mA,mB⟩:=Dc (a:=⟨true,1,aT [v]⟩) (b:=[⟨true,4,[]⟩]) (x:=[]) rfl (fun r hr=>by rw[abe.1 hr]) (fun r hr=>by cases hr) h6 h7 (abl _) (by decide) l6 l7 (e0 [v] (show (1:Nat)≤16 by decide)) (fun r hr=>by rw[abe.1 hr]; exact e0 [] (by decide)) (fun r hr=>by cases hr) b6 b7;obtain⟨f1,_⟩:=Dd (c:=c') hv Q m4 m3 m5 m7 m9 (by decide) (fun r hr=>by cases hr);rw[fy] at f1;exact⟨(mh m1).2.2,fun _=>f1 (.inr (IY m8)),fun v a _ q=>(by cases q)⟩
   ·obtain⟨a1,a2⟩:=lq hy;have a3:=sy a a1;have kz:=oD vC v3 a3;have eA:dQ p r c x y ns=⟨true,1,aT [v]⟩::⟨true,4,aT [a]⟩::gP r c v a ns:=by unfold dQ; rw[hx]; dsimp only; rw[hy]
    rw[eA,Ck];have em:(⟨true,1,aT [v]⟩::⟨true,4,aT [a]⟩::gP r c v a ns)++(ke p++(kf p++[cE]))=bJ ⟨true,1,aT [v]⟩ [⟨true,4,aT [a]⟩] (gP r c v a ns) (ke p) (kf p)++[cE]:=by simp[bJ]
    rw[em];have xl:(gP r c v a ns).length=ns.length:=by unfold gP; rw[abh]
    have xb:∀ e∈gP r c v a ns,e.bo.length=104:=fun e he=>by
      obtain⟨n,hn,rfl⟩:=abB.1 he;obtain⟨q1,q2⟩:=C6 (U:=bg c v a 0) (W:=bg c v a 1) vR a3 (pE kz) (pE kz) (n4 n hn)
      show (mF r a _ _ n).length=104
      rw[q1,q2]
    obtain⟨m1,m2,m3,m4,m5,m6,m7,m8,m9,mA,mB⟩:=Dc (a:=⟨true,1,aT [v]⟩) (b:=[⟨true,4,aT [a]⟩]) (x:=gP r c v a ns) rfl (fun r hr=>by rw[abe.1 hr]) (fun e he=>(Wu r c v a ns e he).1) h6 h7 (abl _) (by omega) l6 l7 (e0 [v] (show (1:Nat)≤16 by decide)) (fun r hr=>by rw[abe.1 hr]; exact e0 [a] (show (1:Nat)≤16 by decide)) (fun e he=>by rw[xb e he]; decide) b6 b7;obtain⟨_,f2⟩:=Dd (c:=c') hv Q m4 m3 m5 m7 m9 (by omega) xb;rw[fx,fy] at f2;obtain⟨g1,g2⟩:=f2 v a (Lj m6 v1 v3) (Lj m8 a1 a3) (by omega);refine⟨(mh m1).2.2,fun q=>(by rcases q with q | q <;> cases q),fun v' a' q1 q2=>?_⟩;obtain rfl:=Option.some.inj q1;obtain rfl:=Option.some.inj q2;refine⟨g1,?_,v3,a3,kz⟩;have kk:∀ z,bg c' v a z=bg c v a z:=fun z=>by
      unfold bg;rw[if_pos kz,if_pos (oD hv v3 a3),hk]
    rw[g2,kk,kk,Z0 mA,Z1 pp mB]
    congr 1
    unfold gP;rw[acS];refine ab0 fun n hn=>?_
    exact (C6 (U:=bg c v a 0) (W:=bg c v a 1) vR a3 (pE kz) (pE kz) (n4 n hn)).1
def DU:ByteArray:=⟨#[116,105,109,101,46,101,120,97,109,112,108,101]⟩
def ir:d9:=⟨[0],[15],DU,123⟩
def Jc:aH:=⟨0,4,.seq (.reg [oO 0 (.alloc [.nil,.nil,(.d (.str ⟨#[]⟩)),(.d (.int .i64 0))])]) (.seq (.reg [oO 1 (.bldSl false 1 1 (.int .i64 0) [(0,(kI 0))]),oO 2 (.bldSl false 1 1 (.int .i64 0) [(0,(kI 15))]),oO 3 (.build [.nil,.nil,(.d (.str ⟨#[]⟩)),(.d (.int .i64 0))] [(0,1,(.t 1)),(1,1,(.t 2)),(2,1,(.k (.c (.d (.str ⟨#[116,105,109,101,46,101,120,97,109,112,108,101]⟩))))),(3,1,(kI 123))]),oN (.store (.ag 4) (.t 0) (.t 3))]) (.ret)),[(0,(some (.ag 4)))]⟩
theorem Uu:aG Tryz.prog { own:=[],comp:=[],frz:=[],nils:=[] } Tryz.f39=some Jc:=by kernel_rfl
theorem WU (G:ah):aw Tryz.prog G 39 [] (.w (.c (.d (di ir)))):=by
  refine aI Tryz.func39 Uu rfl rfl ?_;unfold di ir;simp only[Jc,af,ae,aa,seval,iteOmega,toNatUp];exact aL (h1:=by simp only[ae,aa,seval,iteOmega,toNatUp] <;> rfl)
theorem WV {s:Nat} {K:List UInt8} {t:Nat} (cl:Bool) {S:List UInt8} {n m:Int} (hs:s+t≤4294967295) (hS:S.length=32) (hn:0≤n∧n≤1099511627776:=by decide) (hm:0≤m∧m≤1099511627776:=by decide):cU ir (dZ s K t) (bZ cl S n m)=0:=by
  have h1:bA ir.pr∧bA ir.al∧bA [ir.pt]:=by decide
  unfold cU;rw[if_neg (not_not_intro ⟨PW hS hn hm,Nw hs⟩),if_neg (not_not_intro h1)]
def ER:aH:=⟨0,68,.seq (.reg [oO 0 (.mv (.k (.c (.d (.bool false)))))]) (.seq (.reg [oO 10 (.call 23 [(kI 1)] none),oM 9 10,oO 11 (.extract (.t 9) 0),oO 12 (.extract (.t 9) 1),oO 1 (.alloc [(.d (.bool false)),.nil,.nil,.nil,(.d (.int .i64 0)),(.d (.int .i64 0))]),oO 2 (.alloc [(.d (.bool false)),.nil,.nil,.nil,(.d (.int .i64 0)),(.d (.int .i64 0))]),oN (.store (.ag 6) (.t 1) (.t 11)),oN (.store (.ag 6) (.t 2) (.t 12))]) (.seq (.reg [oO 14 (.bldSl false 1 1 (.int .i64 0) [(0,(kI 0))]),oO 15 (.bldSl false 1 1 (.int .i64 0) [(0,(kI 15))]),oO 16 (.call 16 [(.t 14),(.t 15)] none),oM 13 16,oO 17 (.extract (.t 13) 0),oO 18 (.extract (.t 13) 1),oM 3 17,oM 4 18]) (.seq (.reg [oO 20 (.call 39 [] none),oO 21 (.call 25 [(kI 1),(kI 0)] none),oO 22 (.load (.ag 6) (.t 2)),oM 23 3,oO 24 (.call 35 [(kI 1),(kI 16)] none),
 oO 25 (.call 35 [(kI 2),(kI 16)] none),oO 26 (.bldSl false 2 1 (.sl []) [(0,(.t 24)),(1,(.t 25))]),oO 27 (.call 28 [(.t 20),(.t 21),(.t 22),(.t 23),(.t 26)] none),oM 19 27,oO 28 (.extract (.t 19) 0),oO 29 (.extract (.t 19) 1),oM 5 28,oM 6 29]) (.seq (.reg [oO 31 (.load (.ag 6) (.t 1)),oM 32 3,oM 33 5,oO 34 (.call 30 [(.t 31),(.t 32),(.t 33)] none),oM 30 34,oO 35 (.extract (.t 30) 0),oO 36 (.extract (.t 30) 1),oO 7 (.alloc [(.d (.int .i64 0)),(.d (.int .i64 0)),.nil,.nil,.nil,(.d (.str ⟨#[]⟩)),(.d (.int .i64 0))]),oN (.store (.ag 7) (.t 7) (.t 35)),oM 8 36]) (.seq (.reg [oM 37 4,oO 38 (.bin .eql (.t 37) (kI 0)),oM 39 38,oG 40 (.mv (.t 6)) 39 true,oG 41 (.bin .eql (.t 40) (kI 0)) 39 true,oO 42 (.pick (.t 39) (.t 41) (.k (.c (.d (.bool false))))),oM 43 42,oG 44 (.mv (.t 8)) 43 true,oG 45 (.bin .eql (.t 44) (kI 0)) 43 true,
 oO 46 (.pick (.t 43) (.t 45) (.k (.c (.d (.bool false))))),oM 47 46,oG 48 (.fieldAddr 1 (.t 7)) 47 true,oG 49 (.load .sc (.t 48)) 47 true,oG 50 (.bin .eql (.t 49) (kI 15)) 47 true,oO 51 (.pick (.t 47) (.t 50) (.k (.c (.d (.bool false))))),oM 52 51,oG 53 (.fieldAddr 4 (.t 7)) 52 true,oG 54 (.load .sc (.t 53)) 52 true,oG 55 (.len (.t 54)) 52 true,oG 56 (.bin .eql (.t 55) (kI 2)) 52 true,oO 57 (.pick (.t 52) (.t 56) (.k (.c (.d (.bool false))))),oM 58 57,oG 59 (.fieldAddr 5 (.t 7)) 58 true,oG 60 (.load .sc (.t 59)) 58 true,oG 61 (.bin .eql (.t 60) (.k (.c (.d (.str ⟨#[116,105,109,101,46,101,120,97,109,112,108,101]⟩))))) 58 true,oO 62 (.pick (.t 58) (.t 61) (.k (.c (.d (.bool false))))),oM 63 62,oG 64 (.fieldAddr 6 (.t 7)) 63 true,oG 65 (.load .sc (.t 64)) 63 true,oG 66 (.bin .eql (.t 65) (kI 123)) 63 true,
 oO 67 (.pick (.t 63) (.t 66) (.k (.c (.d (.bool false))))),oM 0 67]) (.ret)))))),[(0,none)]⟩
theorem Rf:aG Tryz.prog { own:=[],comp:=[],frz:=[],nils:=[] } Tryz.f9=some ER:=by kernel_rfl
set_option maxHeartbeats 1600000 in
theorem SE (G:ah) (hF:G.at 0=some (.ra (dR.map wD))) (hG:G.at 1=some (.ra (bK.map wD))):aw Tryz.prog G 9 [] (.w (.c (.d (.bool true)))):=by
  refine aI Tryz.func9 Rf rfl rfl ?_;have kl:=Ww 1;have c1:=O7 G 1;have c2:=Pl G [0] [15] (show (1:Nat)≤_ by decide) (show (1:Nat)≤_ by decide);have hq:dk [0] [15]=0:=by decide
  have c3:=WU G;have c4:=Pf G 1 0 (by decide);rw[show (jk 0 6).toNat=0 from by decide] at c4;have c5:=uS G 1 16 (by decide);have c6:=uS G 2 16 (by decide);have l5:(bE 1 16).length=16:=qW _ _;have l6:(bE 2 16).length=16:=qW _ _;have hs:=WV (s:=1) (K:=bE ((1:Nat):Int) 32) (t:=0) (n:=0) (m:=0) false (by decide) kl;have hn:ka [bE 1 16,bE 2 16] ir.ho:=⟨show (1:Nat)≤2 by decide,show (2:Nat)≤8 by decide,by decide,fun n hn=>by
    rcases abr.1 hn with rfl | hn
    ·exact l5
    ·rw[abe.1 hn]; exact l6⟩
  obtain⟨al,_,ag⟩:=agree (c':=bZ true (fE 1) 0 0) hq hs hn (PW kl (by decide) (by decide)) rfl;obtain⟨a1,a2,_⟩:=ag 0 15 (by decide) (by decide);have bq:(bQ [0] [15]).length≤65535:=by
    have e:bQ [0] [15]=bc (d8 [0] [15]):=if_pos hq;rw[e];exact (mh (BP hq).1).2.2
  have rl:=oe 1 (bE ((1:Nat):Int) 32) 0;have c7:=Pt G hF hG ir (dZ 1 (bE ((1:Nat):Int) 32) 0) (bZ false (fE 1) 0 0) (bQ [0] [15]) [bE 1 16,bE 2 16] (by decide) (by decide) (by decide) (by omega) (by omega) (show (2:Nat)≤_ by decide) (fun n hn=>by
    rcases abr.1 hn with rfl | hn
    ·omega
    ·rw[abe.1 hn]; omega)
  have c8:=Db G hF hG (bZ true (fE 1) 0 0) (bQ [0] [15]) (gQ ir (dZ 1 (bE ((1:Nat):Int) 32) 0) (bZ false (fE 1) 0 0) (bQ [0] [15]) [bE 1 16,bE 2 16]) (by omega) (by omega);rw[a1,a2] at c8;rw[hs] at c7;rw[hq] at c2;clear hs hn ag a1 a2 al bq hF hG;have eh:(⟨ir.ho.data.toList.toArray⟩:ByteArray)=DU:=rfl;have ep:ir.pt=123:=rfl;unfold eR at c8;simp only[abd,abo,eh,ep] at c8;generalize gQ ir (dZ 1 (bE ((1:Nat):Int) 32) 0) (bZ false (fE 1) 0 0) (bQ [0] [15]) [bE 1 16,bE 2 16]=R at *
  generalize dO ((dZ 1 (bE ((1:Nat):Int) 32) 0).getD 0 default) 15 (bg (bZ false (fE 1) 0 0) 0 15 0) (bg (bZ false (fE 1) 0 0) 0 15 1) (bE 1 16)=k1 at *
  generalize dO ((dZ 1 (bE ((1:Nat):Int) 32) 0).getD 0 default) 15 (bg (bZ false (fE 1) 0 0) 0 15 0) (bg (bZ false (fE 1) 0 0) 0 15 1) (bE 2 16)=k2 at *
  generalize bg (bZ false (fE 1) 0 0) 0 15 0=k3 at *
  generalize bg (bZ false (fE 1) 0 0) 0 15 1=k4 at *
  generalize bQ [0] [15]=Q at *
  generalize bE 1 16=b1 at *
  generalize bE 2 16=b2 at *
  generalize dZ 1 (bE ((1:Nat):Int) 32) 0=ring at *
  generalize bZ true (fE 1) 0 0=A1 at *
  generalize bZ false (fE 1) 0 0=A2 at *
  unfold aX bp di at *
  simp only[abd,abo,zD] at c2 c7;rw[show ((1:Nat):Int)=1 from rfl] at c4;generalize hP1:ir.pr.map zD=P1 at *
  generalize hP2:ir.al.map zD=P2 at *
  generalize ir.ho=P3 at *
  generalize ir.pt=P4 at *
  simp only[ER,af,ae,aa,seval,iteOmega,toNatUp];refine sD (c1) ?_;refine sD (c2) ?_;refine sD (c3) ?_;refine sD (c4) ?_;refine sD (c5) ?_;refine sD (c6) ?_;refine sD (c7) ?_;refine sD (c8) ?_;have es:(⟨#[116,105,109,101,46,101,120,97,109,112,108,101]⟩:ByteArray)=DU:=rfl;simp only[ae,aa,seval,iteOmega,toNatUp,es];exact aL
theorem Pz {c:Ch} {q b:List UInt8}:(gE c q b).ck.length≤64:=by
  by_cases h:bW c q b=0
  ·have e:(gE c q b).ck=gD (aB b):=by unfold gE; rw[if_pos h]
   rw[e];have h1:=(l9 (b:=b)).2;have h2:=ac9 (fun r:Ek=>decide (r.ty=5)) (aB b);unfold gD aJ;rw[abh];omega
  ·rw[show gE c q b=fM from if_neg h];exact abc _
theorem WW {p:d9} {r:List Fd} {c:Ch} {b:List UInt8} {ns:List (List UInt8)}:(gQ p r c b ns).length≤4000:=by
  by_cases h0:cU p r c=0
  ·obtain⟨vC,vR,s1,s2,s3⟩:=P0 h0;have rf:∀ k:Int,(fL k).length≤4000:=fun k=>by
     have:(fL k).length≤2*(2+4):=wd (m:=2) fun e he=>by
       rcases abr.1 he with rfl | he
       ·show (aT [k]).length≤2; rw[eU]; exact abl _
       ·rw[abe.1 he]; exact abc _
     omega
   unfold gQ;rw[if_neg (not_not_intro h0)];by_cases h1:kW b
   ·rw[if_neg (not_not_intro h1)];split
    ·exact rf 0
    ·by_cases hn:ka ns p.ho
     ·rw[if_neg (not_not_intro hn)];have ok:(∀ e∈dQ p r c (dm (aB b) 1) (dm (aB b) 4) ns,0≤e.ty∧e.ty≤7∧e.bo.length≤255)∧(dQ p r c (dm (aB b) 1) (dm (aB b) 4) ns).length≤10:=by
        unfold dQ;rcases hx:dC (dm (aB b) 1) p.pr with _ | v
        ·exact⟨fun e he=>(by rw[abe.1 he]; exact fg (by decide) (by decide)),show 1≤10 by decide⟩
        ·rcases hy:dC (dm (aB b) 4) p.al with _ | a
         ·refine⟨fun e he=>?_,show 2≤10 by decide⟩;rcases abr.1 he with rfl | he
          ·exact fg (by decide) (by rw[eU]; exact (show 2*1≤255 by decide))
          ·rw[abe.1 he]; exact fg (by decide) (by decide)
         ·have v2:=s1 _ (lq hx).2;have b2:=s2 _ (lq hy).2;have:=Cf (ns:=ns) vR (oD vC v2 b2) b2 hn.2.2.2;have e:eM r c v a ns ns.length=⟨true,1,aT [v]⟩::⟨true,4,aT [a]⟩::gP r c v a ns:=by unfold eM; rw[abv]
          rw[e] at this;refine⟨this,?_⟩;have:=rZ r c v a ns ns.length;rw[e] at this;have h8:=hn.2.1
          show (⟨true,1,aT [v]⟩::⟨true,4,aT [a]⟩::gP r c v a ns:List Ek).length≤10
          omega
      have h9:=wd (m:=255) fun e he=>((abn.1 he).elim (ok.1 e) (Ce hn.2.2.1 e)).2.2
      have h3:=vG p;have h10:=ok.2;rw[aba] at h9;omega
     ·rw[if_pos hn]; exact rf 2
   ·rw[if_pos h1]; exact rf 1
  ·rw[show gQ p r c b ns=[] from if_pos h0]; exact abc _
theorem aaQ {l:List (List UInt8)} {i:Nat} (h:i<l.length):l.take (i+1)=l.take i++[l.getD i []]:=nO h
def xr (s x y:Int) (p0 p1:List Int) (p2:ByteArray) (p3:Int) (q b:List UInt8) (ns:List (List UInt8)) (i:Nat):St:=⟨aQ [(0,.w (.c (.d (.int .i64 s)))),(2,.w (.c (.d (.sl (q.map bD))))),(3,.w (.c (.d (.sl (b.map bD))))),(4,.w (.c (.d (.sl (ns.map fun l=>D.sl (l.map bD)))))),(5,.w (.c (.d (.int .i64 x)))),(6,.w (.c (.d (.int .i64 y)))),(8,.w (.c (.rp [.sl (p0.map zD),.sl (p1.map zD),.str p2,.int .i64 p3]))),(15,.w (.c (.d (.int .i64 (i:Int)))))],hL [],uL []⟩
def ut:aN := .seq (.seq (.reg [oM 67 15,oM 68 4,oO 69 (.len (.t 68)),oO 70 (.bin .lss (.t 67) (.t 69))]) (.cond (.t 70) (.skip) (.exit 0))) (.seq (.block 1 (.seq (.reg [oM 73 4,oM 74 15,oO 75 (.idxSl 1 (.t 73) (.t 74)),oO 76 (.load .sc (.t 75)),oO 77 (.len (.t 76)),oO 78 (.bin .gtr (.t 77) (kI 40))]) (.cond (.t 78) (.seq (.reg [oO 79 (.call 9 [] none),oM 14 79]) (.ret)) (.skip)))) (.reg [oM 71 15,oO 72 (.bin .add (.t 71) (kI 1)),oM 15 72]))
def mW:aH:=⟨7,191,.seq (.reg [oO 8 (.box .roBox (.t 1)),oO 14 (.mv (.k (.c (.d (.bool false)))))]) (.seq (.seq (.reg [oO 35 (.fieldAddr 0 (.t 8)),oO 36 (.load .sc (.t 35)),oO 37 (.len (.t 36)),oO 38 (.bin .gtr (.t 37) (kI 20)),oM 39 38,oG 40 (.fieldAddr 1 (.t 8)) 39 false,oG 41 (.load .sc (.t 40)) 39 false,oG 42 (.len (.t 41)) 39 false,oG 43 (.bin .gtr (.t 42) (kI 20)) 39 false,oO 44 (.pick (.t 39) (.k (.c (.d (.bool true)))) (.t 43)),oM 45 44,oG 46 (.fieldAddr 2 (.t 8)) 45 false,oG 47 (.load .sc (.t 46)) 45 false,oG 48 (.lenStr (.t 47)) 45 false,oG 49 (.bin .gtr (.t 48) (kI 300)) 45 false,oO 50 (.pick (.t 45) (.k (.c (.d (.bool true)))) (.t 49)),oM 51 50,oG 52 (.mv (.t 2)) 51 false,oG 53 (.len (.t 52)) 51 false,oG 54 (.bin .gtr (.t 53) (kI 400)) 51 false,oO 55 (.pick (.t 51) (.k (.c (.d (.bool true)))) (.t 54)),
 oM 56 55,oG 57 (.mv (.t 3)) 56 false,oG 58 (.len (.t 57)) 56 false,oG 59 (.bin .gtr (.t 58) (kI 900)) 56 false,oO 60 (.pick (.t 56) (.k (.c (.d (.bool true)))) (.t 59)),oM 61 60,oG 62 (.mv (.t 4)) 61 false,oG 63 (.len (.t 62)) 61 false,oG 64 (.bin .gtr (.t 63) (kI 10)) 61 false,oO 65 (.pick (.t 61) (.k (.c (.d (.bool true)))) (.t 64))]) (.cond (.t 65) (.seq (.reg [oO 66 (.call 9 [] none),oM 14 66]) (.ret)) (.skip))) (.seq (.seq (.reg [oO 15 (.mv (kI 0))]) (.block 0 (.loop ut))) (.seq (.reg [oM 81 0,oO 82 (.call 24 [(.t 81),(kI 100)] none),oO 83 (.call 23 [(.t 82)] none),oM 80 83,oO 84 (.extract (.t 80) 0),oO 85 (.extract (.t 80) 1),oO 16 (.alloc [(.d (.bool false)),.nil,.nil,.nil,(.d (.int .i64 0)),(.d (.int .i64 0))]),oO 17 (.alloc [(.d (.bool false)),.nil,.nil,.nil,(.d (.int .i64 0)),(.d (.int .i64 0))]),
 oN (.store (.ag 6) (.t 16) (.t 84)),oN (.store (.ag 6) (.t 17) (.t 85))]) (.seq (.reg [oM 86 0,oO 87 (.call 24 [(.t 86),(kI 100)] none),oM 88 0,oO 89 (.call 25 [(.t 87),(.t 88)] none),oO 18 (.alloc [.nil]),oN (.store (.ag 1) (.t 18) (.t 89))]) (.seq (.reg [oO 91 (.load (.ag 6) (.t 16)),oM 92 5,oM 93 6,oO 94 (.call 26 [(.t 91),(.t 92),(.t 93)] none),oM 90 94,oO 95 (.extract (.t 90) 0),oO 96 (.extract (.t 90) 1),oO 19 (.alloc [.nil,.nil]),oN (.store (.ag 2) (.t 19) (.t 95)),oM 20 96]) (.seq (.reg [oO 98 (.load (.ag 6) (.t 16)),oM 99 5,oM 100 6,oO 101 (.call 27 [(.t 98),(.t 99),(.t 100)] none),oM 97 101,oO 102 (.extract (.t 97) 0),oO 103 (.extract (.t 97) 1),oO 21 (.alloc [.nil,.nil]),oN (.store (.ag 2) (.t 21) (.t 102)),oM 22 103]) (.seq (.reg [oO 105 (.load (.ag 4) (.t 8)),oO 106 (.load (.ag 1) (.t 18)),
 oO 107 (.load (.ag 6) (.t 17)),oM 108 2,oM 109 4,oO 110 (.call 28 [(.t 105),(.t 106),(.t 107),(.t 108),(.t 109)] none),oM 104 110,oO 111 (.extract (.t 104) 0),oO 112 (.extract (.t 104) 1),oM 23 111,oM 24 112]) (.seq (.reg [oO 114 (.load (.ag 4) (.t 8)),oO 115 (.load (.ag 1) (.t 18)),oO 116 (.load (.ag 6) (.t 17)),oM 117 2,oM 118 4,oO 119 (.call 29 [(.t 114),(.t 115),(.t 116),(.t 117),(.t 118)] none),oM 113 119,oO 120 (.extract (.t 113) 0),oO 121 (.extract (.t 113) 1),oM 25 120,oM 26 121]) (.seq (.reg [oO 123 (.load (.ag 6) (.t 16)),oM 124 2,oM 125 3,oO 126 (.call 30 [(.t 123),(.t 124),(.t 125)] none),oM 122 126,oO 127 (.extract (.t 122) 0),oO 128 (.extract (.t 122) 1),oO 27 (.alloc [(.d (.int .i64 0)),(.d (.int .i64 0)),.nil,.nil,.nil,(.d (.str ⟨#[]⟩)),(.d (.int .i64 0))]),oN (.store (.ag 7) (.t 27) (.t 127)),
 oM 28 128]) (.seq (.reg [oO 130 (.load (.ag 6) (.t 16)),oM 131 2,oM 132 3,oO 133 (.call 31 [(.t 130),(.t 131),(.t 132)] none),oM 129 133,oO 134 (.extract (.t 129) 0),oO 135 (.extract (.t 129) 1),oO 29 (.alloc [(.d (.int .i64 0)),(.d (.int .i64 0)),.nil,.nil,.nil,(.d (.str ⟨#[]⟩)),(.d (.int .i64 0))]),oN (.store (.ag 7) (.t 29) (.t 134)),oM 30 135]) (.seq (.reg [oO 137 (.load (.ag 6) (.t 16)),oM 138 2,oM 139 25,oO 140 (.call 30 [(.t 137),(.t 138),(.t 139)] none),oM 136 140,oO 141 (.extract (.t 136) 0),oO 142 (.extract (.t 136) 1),oO 31 (.alloc [(.d (.int .i64 0)),(.d (.int .i64 0)),.nil,.nil,.nil,(.d (.str ⟨#[]⟩)),(.d (.int .i64 0))]),oN (.store (.ag 7) (.t 31) (.t 141)),oM 32 142]) (.seq (.reg [oO 144 (.load (.ag 6) (.t 16)),oM 145 2,oM 146 25,oO 147 (.call 31 [(.t 144),(.t 145),(.t 146)] none),
 oM 143 147,oO 148 (.extract (.t 143) 0),oO 149 (.extract (.t 143) 1),oO 33 (.alloc [(.d (.int .i64 0)),(.d (.int .i64 0)),.nil,.nil,.nil,(.d (.str ⟨#[]⟩)),(.d (.int .i64 0))]),oN (.store (.ag 7) (.t 33) (.t 148)),oM 34 149]) (.seq (.reg [oO 150 (.call 9 [] none),oM 151 150,oG 152 (.mv (.t 20)) 151 true,oG 153 (.mv (.t 22)) 151 true,oG 154 (.bin .eql (.t 152) (.t 153)) 151 true,oO 155 (.pick (.t 151) (.t 154) (.k (.c (.d (.bool false))))),oM 156 155,oG 157 (.load (.ag 2) (.t 19)) 156 true,oG 158 (.load (.ag 2) (.t 21)) 156 true,oG 159 (.call 32 [(.t 157),(.t 158)] none) 156 true,oO 160 (.pick (.t 156) (.t 159) (.k (.c (.d (.bool false))))),oM 161 160,oG 162 (.mv (.t 24)) 161 true,oG 163 (.mv (.t 26)) 161 true,oG 164 (.bin .eql (.t 162) (.t 163)) 161 true,oO 165 (.pick (.t 161) (.t 164) (.k (.c (.d (.bool false))))),
 oM 166 165,oG 167 (.mv (.t 23)) 166 true,oG 168 (.mv (.t 25)) 166 true,oG 169 (.call 20 [(.t 167),(.t 168)] none) 166 true,oO 170 (.pick (.t 166) (.t 169) (.k (.c (.d (.bool false))))),oM 171 170,oG 172 (.mv (.t 28)) 171 true,oG 173 (.mv (.t 30)) 171 true,oG 174 (.bin .eql (.t 172) (.t 173)) 171 true,oO 175 (.pick (.t 171) (.t 174) (.k (.c (.d (.bool false))))),oM 176 175,oG 177 (.load (.ag 7) (.t 27)) 176 true,oG 178 (.load (.ag 7) (.t 29)) 176 true,oG 179 (.call 33 [(.t 177),(.t 178)] none) 176 true,oO 180 (.pick (.t 176) (.t 179) (.k (.c (.d (.bool false))))),oM 181 180,oG 182 (.mv (.t 32)) 181 true,oG 183 (.mv (.t 34)) 181 true,oG 184 (.bin .eql (.t 182) (.t 183)) 181 true,oO 185 (.pick (.t 181) (.t 184) (.k (.c (.d (.bool false))))),oM 186 185,oG 187 (.load (.ag 7) (.t 31)) 186 true,
 oG 188 (.load (.ag 7) (.t 33)) 186 true,oG 189 (.call 33 [(.t 187),(.t 188)] none) 186 true,oO 190 (.pick (.t 186) (.t 189) (.k (.c (.d (.bool false))))),oM 14 190]) (.ret)))))))))))))),[(14,none)]⟩
theorem WX:aG Tryz.prog { own:=[],comp:=[],frz:=[],nils:=[] } Tryz.f4=some mW:=by kernel_rfl
set_option maxHeartbeats 1600000 in
theorem Z2 (G:ah) (seed:Int) (hseed1:-9223372036854775808≤seed) (hseed2:seed≤9223372036854775807) (p0:List Int) (hp01:p0.length≤maxLen) (hp02:∀ n∈p0,xF n) (p1:List Int) (hp11:p1.length≤maxLen) (hp12:∀ n∈p1,xF n) (p2:ByteArray) (hp2:p2.size≤maxLen) (p3:Int) (hp31:-9223372036854775808≤p3) (hp32:p3≤9223372036854775807) (request:List UInt8) (hrequest:request.length≤maxLen) (response:List UInt8) (hresponse:response.length≤maxLen) (nonces:List (List UInt8)) (hnonces1:nonces.length≤maxLen) (hnonces2:∀ x∈nonces,x.length≤maxLen) (x:Int) (hx1:-9223372036854775808≤x) (hx2:x≤9223372036854775807) (y:Int) (hy1:-9223372036854775808≤y) (hy2:y≤9223372036854775807) (hF:G.at 0=some (.ra (dR.map wD))) (hG:G.at 1=some (.ra (bK.map wD))):aw Tryz.prog G 4 [.int .i64 seed,.agg [.sl (p0.map zD),.sl (p1.map zD),.str p2,.int .i64 p3],.sl (request.map bD),.sl (response.map bD),.sl (nonces.map fun l=>D.sl (l.map bD)),.int .i64 x,.int .i64 y] (.w (.c (.d (.bool true)))):=by
  refine aI Tryz.func4 WX rfl rfl ?_;have hmx:maxLen=9223372036854775807:=rfl;have ck:=SE G hF hG;by_cases h1:(p0.length:Int)>20
  ·have g1:=eq_true h1;simp only[mW,af,ae,aa,seval,iteOmega,toNatUp,g1];refine sD (ck) ?_;exact aL
  ·have g1:=eq_false h1;by_cases h2:(p1.length:Int)>20
   ·have g2:=eq_true h2;simp only[mW,af,ae,aa,seval,iteOmega,toNatUp,g1,g2];refine sD (ck) ?_;exact aL
   ·have g2:=eq_false h2;by_cases h3:(p2.size:Int)>300
    ·have g3:=eq_true h3;simp only[mW,af,ae,aa,seval,iteOmega,toNatUp,g1,g2,g3];refine sD (ck) ?_;exact aL
    ·have g3:=eq_false h3;by_cases h4:(request.length:Int)>400
     ·have g4:=eq_true h4;simp only[mW,af,ae,aa,seval,iteOmega,toNatUp,g1,g2,g3,g4];refine sD (ck) ?_;exact aL
     ·have g4:=eq_false h4;by_cases h5:(response.length:Int)>900
      ·have g5:=eq_true h5;simp only[mW,af,ae,aa,seval,iteOmega,toNatUp,g1,g2,g3,g4,g5];refine sD (ck) ?_;exact aL
      ·have g5:=eq_false h5;by_cases h6:(nonces.length:Int)>10
       ·have g6:=eq_true h6;simp only[mW,af,ae,aa,seval,iteOmega,toNatUp,g1,g2,g3,g4,g5,g6];refine sD (ck) ?_;exact aL
       ·have g6:=eq_false h6;simp only[mW,af,ae,aa,seval,iteOmega,toNatUp,g1,g2,g3,g4,g5,g6];refine aU (xr seed x y p0 p1 p2 p3 request response nonces) (fun i=>nonces.length-i) (fun i=>i≤nonces.length∧∀ n∈nonces.take i,n.length≤40) 0 ⟨abc _,by rw[abS]; exact fun n hn=>by cases hn⟩ ?_ ?_
        ·refine aj (fun _=>0) ?_ ?_ rfl rfl <;> simp only[wx,ai,am,aa,seval,iteOmega,toNatUp] <;> first | rfl | exact⟨rfl,rfl⟩ | skip
        ·rintro i ⟨hi,hp⟩;by_cases hlt:i<nonces.length
         ·have g:=lU hlt;have hs:=aaQ hlt;generalize nonces.getD i []=z at *
          by_cases h40:40<z.length
          ·have gz:((z.length:Int)>40)=True:=eq_true (by omega);simp only[ut,xr,ae,aa,seval,iteOmega,toNatUp,aC,g,gz];refine sD (ck) ?_;exact aL
          ·have gz:((z.length:Int)>40)=False:=eq_false (by omega);have hn:∀ m∈nonces.take (i+1),m.length≤40:=by
             rw[hs];intro m hm;rcases abn.1 hm with hm | hm
             ·exact hp m hm
             ·rw[abe.1 hm]; omega
           simp only[ut,xr,ae,aa,seval,iteOmega,toNatUp,aC,g,gz];refine aM (i+1) (by omega) ⟨by omega,hn⟩ (aj (fun i=>i) ?_ ?_ rfl rfl) <;> simp only[wx,ai,am,aa,seval,iteOmega,toNatUp] <;> first | rfl | exact⟨rfl,rfl⟩ | skip
         ·obtain rfl:i=nonces.length:=by omega
          rw[abv] at hp;have r0:=D1 seed 100 (by decide);have e0:=z7 G seed 100 (by decide);obtain⟨s,hs⟩:=ab7 r0.1;have hs:jk seed 100=(s:Int):=hs;rw[hs] at e0 r0;have c1:=O7 G (s:Int);have c2:=Pf G s seed (by omega);have rl:=oe s (bE (s:Int) 32) (jk seed 6).toNat;generalize hR:dZ s (bE (s:Int) 32) (jk seed 6).toNat=R at *
          generalize hA:bZ true (fE (s:Int)) 0 0=A at *
          generalize hB:bZ false (fE (s:Int)) 0 0=B at *
          have c3:=C1 G hF hG A x y;have c4:=CY G A x y;have c5:=Pt G hF hG ⟨p0,p1,p2,p3⟩ R B request nonces (by show p0.length≤_; omega) (by show p1.length≤_; omega) (by show p2.size≤_; omega) (by omega) (by omega) (by omega) (fun n hn=>by have:=hp n hn; omega);have c6:=aaG G ⟨p0,p1,p2,p3⟩ R B request nonces (by show p0.length≤_; omega) (by show p1.length≤_; omega) (by show p2.size≤_; omega) (by omega) (by omega) (by omega) (fun n hn=>by have:=hp n hn; omega);have tl:=WW (p:=⟨p0,p1,p2,p3⟩) (r:=R) (c:=B) (b:=request) (ns:=nonces);generalize gQ ⟨p0,p1,p2,p3⟩ R B request nonces=T at *
          generalize cU ⟨p0,p1,p2,p3⟩ R B=eT at *
          have c7:=Db G hF hG A request response (by omega) (by omega);have c8:=Px G A request response (by omega) (by omega);have c9:=Db G hF hG A request T (by omega) (by omega);have cA:=Px G A request T (by omega) (by omega);have f1:=Pz (c:=A) (q:=request) (b:=response);have f2:=Pz (c:=A) (q:=request) (b:=T);have s1:=O9 G (bg A x y 0) (bg A x y 1);have s2:=nY G T T;have s3:=Py G (gE A request response) (by omega);have s4:=Py G (gE A request T) (by omega);rw[beq_self_eq_true] at s2;generalize bg A x y 0=k1 at *
          generalize bg A x y 1=k2 at *
          generalize fD A x y=k3 at *
          generalize gE A request response=t1 at *
          generalize bW A request response=t2 at *
          generalize gE A request T=t3 at *
          generalize bW A request T=t4 at *
          unfold aX df bp di eR at *
          dsimp only at c5 c6;clear hA hB hR;simp only[ut,xr,ae,aa,seval,iteOmega,toNatUp];refine sD (e0) ?_;refine sD (c1) ?_;refine sD (e0) ?_;refine sD (c2) ?_;refine sD (c3) ?_;refine sD (c4) ?_;refine sD (c5) ?_;refine sD (c6) ?_;refine sD (c7) ?_;refine sD (c8) ?_;refine sD (c9) ?_;refine sD (cA) ?_;refine sD (ck) ?_;refine sD (s1) ?_;refine sD (s2) ?_;refine sD (s3) ?_;refine sD (s4) ?_;exact aL
end Go.Proofs.YtlghfnidknfakaaGreatDoor
