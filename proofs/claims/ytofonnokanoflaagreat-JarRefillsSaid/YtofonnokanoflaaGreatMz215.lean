/- Texts of one's own, merged: from: Layer 16 on data: the program: headers. Own work. -/
import Derived.Test.YtofonnokanoflaaGreatProg
import Derived.Test.YtofonnokanoflaaGreatMz27
import Derived.Test.YtofonnokanoflaaGreatMz29
import Derived.Test.YtofonnokanoflaaGreatMz214
import Derived.Test.YtofonnokanoflaaGreatMz210
import Derived.Test.YtofonnokanoflaaGreatMz216
set_option linter.unusedVariables false
set_option linter.unusedSimpArgs false
namespace Go.Proofs.YtofonnokanoflaaGreat
open Go.RowKit IntWalk
set_option maxHeartbeats 6400000
def cM (h:Hd):D:=.agg [.int .i64 h.lp,.int .i64 h.vr,.int .i64 h.md,.int .i64 h.st,.int .i64 h.pl,.int .i64 h.pr,.int .u32 (h.rd:Int),.int .u32 (h.rp:Int),.int .u32 (h.ri:Int),.int .u64 (h.rf:Int),.int .u64 (h.og:Int),.int .u64 (h.rc:Int),.int .u64 (h.tr:Int)]
def fj (h:Hd):Int:=if jl h then 0 else 4
def xL (h:Hd):List UInt8:=if jl h then dB h else []
def dJ (l:List UInt8):Int:=if l.length<48 then 1 else if 1280<l.length then 2 else if (bS l).vr=3∨(bS l).vr=4 then 0 else 3
def ot (l:List UInt8):Hd:=if dJ l=0 then bS l else Hd.z
def ou (l:List UInt8):List UInt8:=if dJ l=0 then l.drop 48 else []
def fe (t:Nat):Hd:=⟨0,4,3,0,6,0,0,0,0,0,0,0,t⟩
def jm (q:Hd) (st:Int):Int:=if jl q then (if q.md=3 then (if 0≤st∧st≤255 then 0 else 4) else 3) else 4
def ov (q:Hd) (st:Int) (rc tr:Nat):Hd:=if jm q st=0 then ⟨0,q.vr,4,st,q.pl,-20,0,0,0,0,q.tr,rc,tr⟩ else Hd.z
theorem VD (h:Hd):jl h=(decide (0≤h.lp∧h.lp≤3)&&(decide (3≤h.vr∧h.vr≤4)&&(decide (0≤h.md∧h.md≤7)&&(decide (0≤h.st∧h.st≤255)&&(decide (-128≤h.pl∧h.pl≤127)&&decide (-128≤h.pr∧h.pr≤127)))))):=by
  unfold jl ly;by_cases k:0≤h.lp∧h.lp≤3∧(h.vr=3∨h.vr=4)∧0≤h.md∧h.md≤7∧0≤h.st∧h.st≤255∧-128≤h.pl∧h.pl≤127∧-128≤h.pr∧h.pr≤127
  ·rw[decide_eq_true k];simp only[show (0≤h.lp∧h.lp≤3) from by omega,show (3≤h.vr∧h.vr≤4) from by omega,show (0≤h.md∧h.md≤7) from by omega,show (0≤h.st∧h.st≤255) from by omega,show (-128≤h.pl∧h.pl≤127) from by omega,show (-128≤h.pr∧h.pr≤127) from by omega];decide
  ·rw[decide_eq_false k]
   symm
   rw[← Bool.not_eq_true];intro e;simp only[acf,decide_eq_true_eq] at e;exact k (by omega)
def vK:aG:=⟨3,15,.seq (.reg [oO 6 (.mv (.k (.c (.d (.bool false)))))]) (.seq (.reg [oM 7 0,oM 8 1,oO 9 (.bin .leq (.t 7) (.t 8)),oM 10 9,oG 11 (.mv (.t 1)) 10 true,oG 12 (.mv (.t 2)) 10 true,oG 13 (.bin .leq (.t 11) (.t 12)) 10 true,oO 14 (.pick (.t 10) (.t 13) (.k (.c (.d (.bool false))))),oM 6 14]) (.ret)),[(6,none)]⟩
theorem VE:aF Tryz.prog { own:=[],comp:=[],frz:=[],nils:=[] } Tryz.f120=some vK:=by kernel_rfl
theorem sJ (G:ah) (a n b:Int):aB Tryz.prog G 120 [.int .i64 a,.int .i64 n,.int .i64 b] (.w (.c (.d (.bool (decide (a≤n∧n≤b)))))):=by
  refine aI Tryz.func120 VE rfl rfl ?_;by_cases h1:a≤n
  ·by_cases h2:n≤b
   ·rw[decide_eq_true ⟨h1,h2⟩];simp only[vK,af,ae,aa,seval,iteOmega,toNatUp];exact aM
   ·rw[decide_eq_false (fun h=>h2 h.2)];simp only[vK,af,ae,aa,seval,iteOmega,toNatUp];exact aM
  ·rw[decide_eq_false (fun h=>h1 h.1)];simp only[vK,af,ae,aa,seval,iteOmega,toNatUp];exact aM
def Kq:aG:=⟨1,5,.seq (.reg [oO 2 (.mv (.k (.c (.d (.bool false)))))]) (.seq (.reg [oM 3 0,oO 4 (.call 120 [(kI 3),(.t 3),(kI 4)] none),oM 2 4]) (.ret)),[(2,none)]⟩
theorem VF:aF Tryz.prog { own:=[],comp:=[],frz:=[],nils:=[] } Tryz.f114=some Kq:=by kernel_rfl
theorem M2 (G:ah) (n:Int):aB Tryz.prog G 114 [.int .i64 n] (.w (.c (.d (.bool (decide (3≤n∧n≤4)))))):=by
  refine aI Tryz.func114 VF rfl rfl ?_;have c:=sJ G (3) n 4;generalize decide (3≤n∧n≤4)=b at *
  simp only[Kq,af,ae,aa,seval,iteOmega,toNatUp];refine sD (c) ?_;exact aM
def Kr:aG:=⟨1,5,.seq (.reg [oO 2 (.mv (.k (.c (.d (.bool false)))))]) (.seq (.reg [oM 3 0,oO 4 (.call 120 [(.k (.c (.d (.int .i64 (-128))))),(.t 3),(kI 127)] none),oM 2 4]) (.ret)),[(2,none)]⟩
theorem VG:aF Tryz.prog { own:=[],comp:=[],frz:=[],nils:=[] } Tryz.f121=some Kr:=by kernel_rfl
theorem M3 (G:ah) (n:Int):aB Tryz.prog G 121 [.int .i64 n] (.w (.c (.d (.bool (decide (-128≤n∧n≤127)))))):=by
  refine aI Tryz.func121 VG rfl rfl ?_;have c:=sJ G (-128) n 127;generalize decide (-128≤n∧n≤127)=b at *
  simp only[Kr,af,ae,aa,seval,iteOmega,toNatUp];refine sD (c) ?_;exact aM
def mJ:aG:=⟨1,35,.seq (.reg [oO 1 (.box .roBox (.t 0)),oO 2 (.mv (kI 0))]) (.seq (.seq (.reg [oO 3 (.fieldAddr 0 (.t 1)),oO 4 (.load .sc (.t 3)),oO 5 (.call 120 [(kI 0),(.t 4),(kI 3)] none),oO 6 (.un .not (.t 5)),oM 7 6,oG 8 (.fieldAddr 1 (.t 1)) 7 false,oG 9 (.load .sc (.t 8)) 7 false,oG 10 (.call 114 [(.t 9)] none) 7 false,oG 11 (.un .not (.t 10)) 7 false,oO 12 (.pick (.t 7) (.k (.c (.d (.bool true)))) (.t 11)),oM 13 12,oG 14 (.fieldAddr 2 (.t 1)) 13 false,oG 15 (.load .sc (.t 14)) 13 false,oG 16 (.call 120 [(kI 0),(.t 15),(kI 7)] none) 13 false,oG 17 (.un .not (.t 16)) 13 false,oO 18 (.pick (.t 13) (.k (.c (.d (.bool true)))) (.t 17))]) (.cond (.t 18) (.seq (.reg [oO 2 (.mv (kI 4))]) (.ret)) (.skip))) (.seq (.seq (.reg [oO 19 (.fieldAddr 3 (.t 1)),oO 20 (.load .sc (.t 19)),oO 21 (.call 120 [(kI 0),(.t 20),(kI 255)] none),
 oO 22 (.un .not (.t 21)),oM 23 22,oG 24 (.fieldAddr 4 (.t 1)) 23 false,oG 25 (.load .sc (.t 24)) 23 false,oG 26 (.call 121 [(.t 25)] none) 23 false,oG 27 (.un .not (.t 26)) 23 false,oO 28 (.pick (.t 23) (.k (.c (.d (.bool true)))) (.t 27)),oM 29 28,oG 30 (.fieldAddr 5 (.t 1)) 29 false,oG 31 (.load .sc (.t 30)) 29 false,oG 32 (.call 121 [(.t 31)] none) 29 false,oG 33 (.un .not (.t 32)) 29 false,oO 34 (.pick (.t 29) (.k (.c (.d (.bool true)))) (.t 33))]) (.cond (.t 34) (.seq (.reg [oO 2 (.mv (kI 4))]) (.ret)) (.skip))) (.seq (.reg [oO 2 (.mv (kI 0))]) (.ret)))),[(2,none)]⟩
theorem VH:aF Tryz.prog { own:=[],comp:=[],frz:=[],nils:=[] } Tryz.f104=some mJ:=by kernel_rfl
theorem Yj (G:ah) (h:Hd):aB Tryz.prog G 104 [cM h] (.w (.c (.d (.int .i64 (fj h))))):=by
  refine aI Tryz.func104 VH rfl rfl ?_;have c1:=sJ G 0 h.lp 3;have c2:=M2 G h.vr;have c3:=sJ G 0 h.md 7;have c4:=sJ G 0 h.st 255;have c5:=M3 G h.pl;have c6:=M3 G h.pr;have he:fj h=if jl h=true then 0 else 4:=rfl
  rw[VD] at he;unfold cM;generalize decide (0≤h.lp∧h.lp≤3)=b1 at *
  generalize decide (3≤h.vr∧h.vr≤4)=b2 at *
  generalize decide (0≤h.md∧h.md≤7)=b3 at *
  generalize decide (0≤h.st∧h.st≤255)=b4 at *
  generalize decide (-128≤h.pl∧h.pl≤127)=b5 at *
  generalize decide (-128≤h.pr∧h.pr≤127)=b6 at *
  cases b1
  ·rw[he];simp only[mJ,af,ae,aa,seval,iteOmega,toNatUp];refine sD (c1) ?_;exact aM
  cases b2
  ·rw[he];simp only[mJ,af,ae,aa,seval,iteOmega,toNatUp];refine sD (c1) ?_;refine sD (c2) ?_;exact aM
  cases b3
  ·rw[he];simp only[mJ,af,ae,aa,seval,iteOmega,toNatUp];refine sD (c1) ?_;refine sD (c2) ?_;refine sD (c3) ?_;exact aM
  cases b4
  ·rw[he];simp only[mJ,af,ae,aa,seval,iteOmega,toNatUp];refine sD (c1) ?_;refine sD (c2) ?_;refine sD (c3) ?_;refine sD (c4) ?_;exact aM
  cases b5
  ·rw[he];simp only[mJ,af,ae,aa,seval,iteOmega,toNatUp];refine sD (c1) ?_;refine sD (c2) ?_;refine sD (c3) ?_;refine sD (c4) ?_;refine sD (c5) ?_;exact aM
  cases b6
  ·rw[he];simp only[mJ,af,ae,aa,seval,iteOmega,toNatUp];refine sD (c1) ?_;refine sD (c2) ?_;refine sD (c3) ?_;refine sD (c4) ?_;refine sD (c5) ?_;refine sD (c6) ?_;exact aM
  ·rw[he];simp only[mJ,af,ae,aa,seval,iteOmega,toNatUp];refine sD (c1) ?_;refine sD (c2) ?_;refine sD (c3) ?_;refine sD (c4) ?_;refine sD (c5) ?_;refine sD (c6) ?_;exact aM
def Ks:aG:=⟨2,23,.seq (.reg [oO 4 (.mv (.k (.c (.d (.int .u64 0)))))]) (.seq (.reg [oM 6 0,oO 7 (.nilChk (.t 6)),oO 8 (.fieldAddr 0 (.t 7)),oO 9 (.load .sc (.t 8)),oM 10 1,oO 11 (.slice 1 (.t 9) none (some (.t 10)) none),oO 12 (.call 93 [(.t 11)] none),oM 5 12]) (.seq (.reg [oM 13 0,oM 14 0,oO 15 (.nilChk (.t 14)),oO 16 (.fieldAddr 0 (.t 15)),oO 17 (.load .sc (.t 16)),oM 18 1,oO 19 (.slice 1 (.t 17) (some (.t 18)) none none),oO 20 (.nilChk (.t 13)),oO 21 (.fieldAddr 0 (.t 20)),oN (.store .sc (.t 21) (.t 19))]) (.seq (.reg [oM 22 5,oM 4 22]) (.ret)))),[(4,none)]⟩
theorem VI:aF Tryz.prog { own:=[],comp:=[],frz:=[],nils:=[] } Tryz.f131=some Ks:=by kernel_rfl
theorem Yk (G:ah) (l:List UInt8) (k:Nat) (hk:k≤l.length) (hl:l.length≤9223372036854775807):na Tryz.prog G 131 [.c (.ptr 1 1 0 0),.c (.d (.int .i64 (k:Int)))] (fD [.sl (l.map bD)]) [1] (.w (.c (.d (.int .u64 (be (l.take k)))))) (fD [.sl ((l.drop k).map bD)]) [1]:=by
  have c:=qd G (l.take k) (by simp; omega);have e:(l.drop k).take (l.length-k)=l.drop k:=abH (by simp);refine R2 Tryz.func131 VI 0 rfl rfl rfl rfl rfl rfl ?_;simp only[Ks,gD,fD,fC,ae,aa,seval,iteOmega,toNatUp];refine bd c rfl (.inl rfl) ?_;simp only[fC,TI,ae,aa,seval,iteOmega,toNatUp];refine aam (by simp only[ae,aa,seval,iteOmega,toNatUp]) ?_ (by simp only[ae,aa,seval,iteOmega,toNatUp]);simp only[ae,aa,seval,iteOmega,toNatUp,abK,abS,e]
theorem j4 (G:ah) (l:List UInt8) (a k c:Nat) (K:Int) (hK:(k:Int)=K) (hc:a+k=c) (hk:c≤l.length) (hl:l.length≤9223372036854775807):na Tryz.prog G 131 [.c (.ptr 1 1 0 0),.c (.d (.int .i64 K))] (fD [.sl ((l.drop a).map bD)]) [1] (.w (.c (.d (.int .u64 (be (aK l a k)))))) (fD [.sl ((l.drop c).map bD)]) [1]:=by
  have h:=Yk G (l.drop a) k (by simp; omega) (by simp; omega);rw[adE,hc,hK] at h;exact h
theorem j9:∀ (args:Array Value) (w:World),(callFunc 131 args).run Tryz.prog w=.ok (.enter 131 args) w:=enters_of Tryz.func131 (by kernel_rfl) rfl
theorem and7:∀ m:Fin 256,bits .and .i64 (m.val:Int) 7=((m.val%8:Nat):Int):=by decide +kernel
theorem M4 {m:Nat} (h:m<256):bits .and .i64 (m:Int) 7=((m%8:Nat):Int):=and7 ⟨m,h⟩
theorem aan:∀ (l:Fin 4) (v:Fin 8) (m:Fin 8),bits .or .i64 (bits .or .i64 ((l.val*64:Nat):Int) ((v.val*8:Nat):Int)) (m.val:Int)=((l.val*64+v.val*8+m.val:Nat):Int):=by decide +kernel
theorem Yl {l v m:Int} (l0:0≤l) (l1:l≤3) (v0:0≤v) (v1:v≤7) (m0:0≤m) (m1:m≤7):bits .or .i64 (bits .or .i64 (l*64) (v*8)) m=l*64+v*8+m:=by
  obtain⟨L,rfl⟩:=acB l0;obtain⟨V,rfl⟩:=acB v0;obtain⟨M,rfl⟩:=acB m0;have:=aan ⟨L,by omega⟩ ⟨V,by omega⟩ ⟨M,by omega⟩
  simpa using this
theorem Ym {l:List UInt8} {a:Nat} (h:a<l.length):be (aK l a 1)=(l.getD a 0).toNat:=by
  have e:aK l a 1=[l.getD a 0]:=by
    unfold aK;rw[List.drop_eq_getElem_cons h,List.take_succ_cons,ac1,abI,abF h];rfl
  rw[e];have:=(l.getD a 0).toNat_lt;simp[be]
theorem Yn:∀ b:Fin 256,IntKind.i8.wrap (b.val:Int)=if b.val>127 then (b.val:Int)-256 else (b.val:Int):=by decide +kernel
theorem Kt (b:UInt8):IntKind.i8.wrap (b.toNat:Int)=iZ b:=Yn ⟨b.toNat,b.toNat_lt⟩
theorem TJ (l:List UInt8) (h:48≤l.length):bS (l.take 48)=bS l:=by
  have c:∀ a n,a+n≤48→aK (l.take 48) a n=aK l a n:=by
    intro a n hn;unfold aK;rw[List.drop_take,List.take_take,acS (by omega)]
  have g:∀ i,i<48→(l.take 48).getD i 0=l.getD i 0:=by
    intro i hi;rw[abI,abI,List.getElem?_take_of_lt hi]
  unfold bS;rw[c 4 4 (by omega),c 8 4 (by omega),c 12 4 (by omega),c 16 8 (by omega),c 24 8 (by omega),c 32 8 (by omega),c 40 8 (by omega),g 0 (by omega),g 1 (by omega),g 2 (by omega),g 3 (by omega)]
def M5:aG:=⟨1,48,.seq (.reg [oO 2 (.alloc [(.d (.int .i64 0)),(.d (.int .i64 0)),(.d (.int .i64 0)),(.d (.int .i64 0)),(.d (.int .i64 0)),(.d (.int .i64 0)),(.d (.int .u32 0)),(.d (.int .u32 0)),(.d (.int .u32 0)),(.d (.int .u64 0)),(.d (.int .u64 0)),(.d (.int .u64 0)),(.d (.int .u64 0))])]) (.seq (.reg [oM 6 0,oO 7 (.build [.nil] [(0,1,(.t 6))]),oO 3 (.alloc [.nil]),oN (.store (.ag 1) (.t 3) (.t 7))]) (.seq (.reg [oO 8 (.closM 131 [(.t 3)] []),oM 4 8]) (.seq (.reg [oM 9 4,oO 10 (.callM 1000000007 [(.t 9),(kI 1)]),oO 11 (.conv .i64 (.t 10)),oM 5 11]) (.seq (.reg [oM 12 5,oO 13 (.bin .shr (.t 12) (.k (.c (.d (.int .u64 6))))),oM 14 5,oO 15 (.bin .shr (.t 14) (.k (.c (.d (.int .u64 3))))),oO 16 (.bin .and (.t 15) (kI 7)),oM 17 5,oO 18 (.bin .and (.t 17) (kI 7)),oM 19 4,oO 20 (.callM 1000000007 [(.t 19),(kI 1)]),
 oO 21 (.conv .i64 (.t 20)),oM 22 4,oO 23 (.callM 1000000007 [(.t 22),(kI 1)]),oO 24 (.conv .i8 (.t 23)),oO 25 (.conv .i64 (.t 24)),oM 26 4,oO 27 (.callM 1000000007 [(.t 26),(kI 1)]),oO 28 (.conv .i8 (.t 27)),oO 29 (.conv .i64 (.t 28)),oM 30 4,oO 31 (.callM 1000000007 [(.t 30),(kI 4)]),oO 32 (.conv .u32 (.t 31)),oM 33 4,oO 34 (.callM 1000000007 [(.t 33),(kI 4)]),oO 35 (.conv .u32 (.t 34)),oM 36 4,oO 37 (.callM 1000000007 [(.t 36),(kI 4)]),oO 38 (.conv .u32 (.t 37)),oM 39 4,oO 40 (.callM 1000000007 [(.t 39),(kI 8)]),oM 41 4,oO 42 (.callM 1000000007 [(.t 41),(kI 8)]),oM 43 4,oO 44 (.callM 1000000007 [(.t 43),(kI 8)]),oM 45 4,oO 46 (.callM 1000000007 [(.t 45),(kI 8)]),oO 47 (.build [(.d (.int .i64 0)),(.d (.int .i64 0)),(.d (.int .i64 0)),(.d (.int .i64 0)),(.d (.int .i64 0)),(.d (.int .i64 0)),(.d (.int .u32 0)),(.d (.int .u32 0)),(.d (.int .u32 0)),(.d (.int .u64 0)),(.d (.int .u64 0)),(.d (.int .u64 0)),(.d (.int .u64 0))] [(0,1,(.t 13)),(1,1,(.t 16)),(2,1,(.t 18)),(3,1,(.t 21)),(4,1,(.t 25)),(5,1,(.t 29)),(6,1,(.t 32)),(7,1,(.t 35)),(8,1,(.t 38)),(9,1,(.t 40)),(10,1,(.t 42)),(11,1,(.t 44)),(12,1,(.t 46))]),
 oN (.store (.ag 13) (.t 2) (.t 47))]) (.ret))))),[(2,(some (.ag 13)))]⟩
theorem Yo:aF Tryz.prog { own:=[],comp:=[],frz:=[],nils:=[],mt:=[8,10,20,23,27,31,34,37,40,42,44,46] } Tryz.f113=some M5:=by kernel_rfl
theorem aao (G:ah) (l:List UInt8) (hl:l.length=48):aB Tryz.prog G 113 [.sl (l.map bD)] (.w (.c (.d (cM (bS l))))):=by
  refine aI Tryz.func113 Yo rfl rfl ?_;have hb:=by exact (show l.length≤9223372036854775807 by omega)
  have c0:=j4 G l 0 1 1 1 rfl rfl (by omega) hb;have c1:=j4 G l 1 1 2 1 rfl rfl (by omega) hb;have c2:=j4 G l 2 1 3 1 rfl rfl (by omega) hb;have c3:=j4 G l 3 1 4 1 rfl rfl (by omega) hb;have c4:=j4 G l 4 4 8 4 rfl rfl (by omega) hb;have c5:=j4 G l 8 4 12 4 rfl rfl (by omega) hb;have c6:=j4 G l 12 4 16 4 rfl rfl (by omega) hb;have c7:=j4 G l 16 8 24 8 rfl rfl (by omega) hb;have c8:=j4 G l 24 8 32 8 rfl rfl (by omega) hb;have c9:=j4 G l 32 8 40 8 rfl rfl (by omega) hb;have cA:=j4 G l 40 8 48 8 rfl rfl (by omega) hb;rw[Ym (by omega)] at c0 c1 c2 c3;have q4:=(iL 4 (aK l 4 4) (dj (by omega)) (by decide)).1;have q5:=(iL 4 (aK l 8 4) (dj (by omega)) (by decide)).1;have q6:=(iL 4 (aK l 12 4) (dj (by omega)) (by decide)).1;have b0:=(l.getD 0 0).toNat_lt;have b1:=(l.getD 1 0).toNat_lt;have s2:=Kt (l.getD 2 0);have s3:=Kt (l.getD 3 0);have i2:=vI (l.getD 2 0);have i3:=vI (l.getD 3 0);unfold bS cM;dsimp only;rw[acW] at c0;generalize l.drop 1=L1 at *
  generalize l.drop 2=L2 at *
  generalize l.drop 3=L3 at *
  generalize l.drop 4=L4 at *
  generalize l.drop 8=L5 at *
  generalize l.drop 12=L6 at *
  generalize l.drop 16=L7 at *
  generalize l.drop 24=L8 at *
  generalize l.drop 32=L9 at *
  generalize l.drop 40=LA at *
  generalize l.drop 48=LB at *
  generalize iZ (l.getD 2 0)=S2 at *
  generalize iZ (l.getD 3 0)=S3 at *
  generalize (l.getD 0 0).toNat=N0 at *
  generalize (l.getD 1 0).toNat=N1 at *
  generalize (l.getD 2 0).toNat=N2 at *
  generalize (l.getD 3 0).toNat=N3 at *
  generalize be (aK l 4 4)=N4 at *
  generalize be (aK l 8 4)=N5 at *
  generalize be (aK l 12 4)=N6 at *
  generalize be (aK l 16 8)=N7 at *
  generalize be (aK l 24 8)=N8 at *
  generalize be (aK l 32 8)=N9 at *
  generalize be (aK l 40 8)=NA at *
  have a1:=M4 (m:=N0 / 8) (by omega);have a2:=M4 b0;have d1:(N0:Int) / 64=((N0 / 64:Nat):Int):=(Int.natCast_ediv N0 64).symm;have d2:(N0:Int) / 8=((N0 / 8:Nat):Int):=(Int.natCast_ediv N0 8).symm;simp only[M5,af,gr,fC,ae,aa,seval,iteOmega,toNatUp];refine jZ (id:=24) (pre:=[.p 24 1 0 0]) (post:=[]) (ws:=[.c (.d (.int .i64 1))]) c0 j9 rfl rfl (by simp only[ae,aa,seval,iteOmega,toNatUp,abK,abS]) rfl ?_;simp only[gr,fC,ae,aa,seval,iteOmega,toNatUp,IntKind.bits,s2,s3,d1,d2,a1,a2];refine jZ (id:=24) (pre:=[.p 24 1 0 0]) (post:=[]) (ws:=[.c (.d (.int .i64 1))]) c1 j9 rfl rfl (by simp only[ae,aa,seval,iteOmega,toNatUp,abK,abS]) rfl ?_;simp only[gr,fC,ae,aa,seval,iteOmega,toNatUp,IntKind.bits,s2,s3,d1,d2,a1,a2];refine jZ (id:=24) (pre:=[.p 24 1 0 0]) (post:=[]) (ws:=[.c (.d (.int .i64 1))]) c2 j9 rfl rfl (by simp only[ae,aa,seval,iteOmega,toNatUp,abK,abS]) rfl ?_;simp only[gr,fC,ae,aa,seval,iteOmega,toNatUp,IntKind.bits,s2,s3,d1,d2,a1,a2];refine jZ (id:=24) (pre:=[.p 24 1 0 0]) (post:=[]) (ws:=[.c (.d (.int .i64 1))]) c3 j9 rfl rfl (by simp only[ae,aa,seval,iteOmega,toNatUp,abK,abS]) rfl ?_;simp only[gr,fC,ae,aa,seval,iteOmega,toNatUp,IntKind.bits,s2,s3,d1,d2,a1,a2];refine jZ (id:=24) (pre:=[.p 24 1 0 0]) (post:=[]) (ws:=[.c (.d (.int .i64 4))]) c4 j9 rfl rfl (by simp only[ae,aa,seval,iteOmega,toNatUp,abK,abS]) rfl ?_;simp only[gr,fC,ae,aa,seval,iteOmega,toNatUp,IntKind.bits,s2,s3,d1,d2,a1,a2];refine jZ (id:=24) (pre:=[.p 24 1 0 0]) (post:=[]) (ws:=[.c (.d (.int .i64 4))]) c5 j9 rfl rfl (by simp only[ae,aa,seval,iteOmega,toNatUp,abK,abS]) rfl ?_;simp only[gr,fC,ae,aa,seval,iteOmega,toNatUp,IntKind.bits,s2,s3,d1,d2,a1,a2];refine jZ (id:=24) (pre:=[.p 24 1 0 0]) (post:=[]) (ws:=[.c (.d (.int .i64 4))]) c6 j9 rfl rfl (by simp only[ae,aa,seval,iteOmega,toNatUp,abK,abS]) rfl ?_;simp only[gr,fC,ae,aa,seval,iteOmega,toNatUp,IntKind.bits,s2,s3,d1,d2,a1,a2];refine jZ (id:=24) (pre:=[.p 24 1 0 0]) (post:=[]) (ws:=[.c (.d (.int .i64 8))]) c7 j9 rfl rfl (by simp only[ae,aa,seval,iteOmega,toNatUp,abK,abS]) rfl ?_;simp only[gr,fC,ae,aa,seval,iteOmega,toNatUp,IntKind.bits,s2,s3,d1,d2,a1,a2];refine jZ (id:=24) (pre:=[.p 24 1 0 0]) (post:=[]) (ws:=[.c (.d (.int .i64 8))]) c8 j9 rfl rfl (by simp only[ae,aa,seval,iteOmega,toNatUp,abK,abS]) rfl ?_;simp only[gr,fC,ae,aa,seval,iteOmega,toNatUp,IntKind.bits,s2,s3,d1,d2,a1,a2];refine jZ (id:=24) (pre:=[.p 24 1 0 0]) (post:=[]) (ws:=[.c (.d (.int .i64 8))]) c9 j9 rfl rfl (by simp only[ae,aa,seval,iteOmega,toNatUp,abK,abS]) rfl ?_;simp only[gr,fC,ae,aa,seval,iteOmega,toNatUp,IntKind.bits,s2,s3,d1,d2,a1,a2];refine jZ (id:=24) (pre:=[.p 24 1 0 0]) (post:=[]) (ws:=[.c (.d (.int .i64 8))]) cA j9 rfl rfl (by simp only[ae,aa,seval,iteOmega,toNatUp,abK,abS]) rfl ?_;simp only[gr,fC,ae,aa,seval,iteOmega,toNatUp,IntKind.bits,s2,s3,d1,d2,a1,a2];exact aM
def Ku:aG:=⟨1,5,.seq (.reg [oO 2 (.alloc [(.d (.int .i64 0)),(.d (.int .i64 0)),(.d (.int .i64 0)),(.d (.int .i64 0)),(.d (.int .i64 0)),(.d (.int .i64 0)),(.d (.int .u32 0)),(.d (.int .u32 0)),(.d (.int .u32 0)),(.d (.int .u64 0)),(.d (.int .u64 0)),(.d (.int .u64 0)),(.d (.int .u64 0))])]) (.seq (.reg [oM 3 0,oO 4 (.build [(.d (.int .i64 0)),(.d (.int .i64 0)),(.d (.int .i64 0)),(.d (.int .i64 0)),(.d (.int .i64 0)),(.d (.int .i64 0)),(.d (.int .u32 0)),(.d (.int .u32 0)),(.d (.int .u32 0)),(.d (.int .u64 0)),(.d (.int .u64 0)),(.d (.int .u64 0)),(.d (.int .u64 0))] [(1,1,(kI 4)),(2,1,(kI 3)),(4,1,(kI 6)),(12,1,(.t 3))]),oN (.store (.ag 13) (.t 2) (.t 4))]) (.ret)),[(2,(some (.ag 13)))]⟩
theorem VJ:aF Tryz.prog { own:=[],comp:=[],frz:=[],nils:=[] } Tryz.f25=some Ku:=by kernel_rfl
theorem Yp (G:ah) (t:Nat):aB Tryz.prog G 25 [.int .u64 (t:Int)] (.w (.c (.d (cM (fe t))))):=by
  refine aI Tryz.func25 VJ rfl rfl ?_;unfold cM fe;simp only[Ku,af,ae,aa,seval,iteOmega,toNatUp];exact aM
def rX:aG:=⟨1,26,.seq (.reg [oO 2 (.alloc [(.d (.int .i64 0)),(.d (.int .i64 0)),(.d (.int .i64 0)),(.d (.int .i64 0)),(.d (.int .i64 0)),(.d (.int .i64 0)),(.d (.int .u32 0)),(.d (.int .u32 0)),(.d (.int .u32 0)),(.d (.int .u64 0)),(.d (.int .u64 0)),(.d (.int .u64 0)),(.d (.int .u64 0))]),oO 3 (.mv (.k (.c .nil))),oO 4 (.mv (kI 0))]) (.seq (.seq (.reg [oM 5 0,oO 6 (.len (.t 5)),oO 7 (.bin .lss (.t 6) (kI 48))]) (.cond (.t 7) (.seq (.reg [oO 8 (.build [(.d (.int .i64 0)),(.d (.int .i64 0)),(.d (.int .i64 0)),(.d (.int .i64 0)),(.d (.int .i64 0)),(.d (.int .i64 0)),(.d (.int .u32 0)),(.d (.int .u32 0)),(.d (.int .u32 0)),(.d (.int .u64 0)),(.d (.int .u64 0)),(.d (.int .u64 0)),(.d (.int .u64 0))] []),oN (.store (.ag 13) (.t 2) (.t 8)),oO 3 (.mv (.k (.c .nil))),oO 4 (.mv (kI 1))]) (.ret))
 (.skip))) (.seq (.seq (.reg [oM 9 0,oO 10 (.len (.t 9)),oO 11 (.bin .gtr (.t 10) (kI 1280))]) (.cond (.t 11) (.seq (.reg [oO 12 (.build [(.d (.int .i64 0)),(.d (.int .i64 0)),(.d (.int .i64 0)),(.d (.int .i64 0)),(.d (.int .i64 0)),(.d (.int .i64 0)),(.d (.int .u32 0)),(.d (.int .u32 0)),(.d (.int .u32 0)),(.d (.int .u64 0)),(.d (.int .u64 0)),(.d (.int .u64 0)),(.d (.int .u64 0))] []),oN (.store (.ag 13) (.t 2) (.t 12)),oO 3 (.mv (.k (.c .nil))),oO 4 (.mv (kI 2))]) (.ret)) (.skip))) (.seq (.reg [oM 13 0,oO 14 (.slice 1 (.t 13) none (some (kI 48)) none),oO 15 (.call 113 [(.t 14)] none),oN (.store (.ag 13) (.t 2) (.t 15))]) (.seq (.seq (.reg [oO 16 (.fieldAddr 1 (.t 2)),oO 17 (.load .sc (.t 16)),oO 18 (.call 114 [(.t 17)] none),oO 19 (.un .not (.t 18))]) (.cond (.t 19) (.seq (.reg [oO 20 (.build [(.d (.int .i64 0)),(.d (.int .i64 0)),(.d (.int .i64 0)),(.d (.int .i64 0)),(.d (.int .i64 0)),(.d (.int .i64 0)),(.d (.int .u32 0)),(.d (.int .u32 0)),(.d (.int .u32 0)),(.d (.int .u64 0)),(.d (.int .u64 0)),(.d (.int .u64 0)),(.d (.int .u64 0))] []),
 oN (.store (.ag 13) (.t 2) (.t 20)),oO 3 (.mv (.k (.c .nil))),oO 4 (.mv (kI 3))]) (.ret)) (.skip))) (.seq (.reg [oO 21 (.load (.ag 13) (.t 2)),oM 22 0,oO 23 (.slice 1 (.t 22) (some (kI 48)) none none),oO 24 (.bldSl false 1 1 (.sl []) [(0,(.t 23))]),oO 25 (.call 50 [(.t 24)] (some (0,1))),oN (.store (.ag 13) (.t 2) (.t 21)),oM 3 25,oO 4 (.mv (kI 0))]) (.ret)))))),[(2,(some (.ag 13))),(3,none),(4,none)]⟩
theorem VK:aF Tryz.prog { own:=[25],comp:=[],frz:=[],nils:=[] } Tryz.f91=some rX:=by kernel_rfl
theorem Yq (G:ah) (l:List UInt8) (hl:l.length≤9223372036854775807):aB Tryz.prog G 91 [.sl (l.map bD)] (.tup [.c (.d (cM (ot l))),.c (.d (.sl ((ou l).map bD))),.c (.d (.int .i64 (dJ l)))]):=by
  refine aI Tryz.func91 VK rfl rfl ?_;unfold ot ou;by_cases h1:l.length<48
  ·rw[show dJ l=1 from if_pos h1,if_neg (by decide),if_neg (by decide)];unfold cM Hd.z;simp only[rX,af,ae,aa,seval,iteOmega,toNatUp];exact fT (by simp only[ae,aa,seval,iteOmega,toNatUp]) (by simp only[ae,aa,seval,iteOmega,toNatUp] <;> rfl) (by simp only[ae,aa,seval,iteOmega,toNatUp])
  ·by_cases h2:1280<l.length
   ·rw[show dJ l=2 from (if_neg h1).trans (if_pos h2),if_neg (by decide),if_neg (by decide)];unfold cM Hd.z;simp only[rX,af,ae,aa,seval,iteOmega,toNatUp];exact fT (by simp only[ae,aa,seval,iteOmega,toNatUp]) (by simp only[ae,aa,seval,iteOmega,toNatUp] <;> rfl) (by simp only[ae,aa,seval,iteOmega,toNatUp])
   ·have c1:=aao G (l.take 48) (by simp; omega);have e48:bS (l.take 48)=bS l:=by
      exact TJ l (by omega)
    rw[e48] at c1;have c2:=M2 G (bS l).vr;have cj:=fc G [l.drop 48] (by simp) (by simp; omega);simp only[abK,abS,acn,acp,abP] at cj;have et:(l.drop 48).take (l.length-48)=l.drop 48:=abH (by simp);have hv:decide (3≤(bS l).vr∧(bS l).vr≤4)=decide ((bS l).vr=3∨(bS l).vr=4):=by
      congr 1
      exact propext (by omega)
    rw[hv] at c2;have he:dJ l=if decide ((bS l).vr=3∨(bS l).vr=4)=true then 0 else 3:=by
      unfold dJ;rw[if_neg h1,if_neg h2];simp only[decide_eq_true_eq]
    rw[he];generalize decide ((bS l).vr=3∨(bS l).vr=4)=b at *
    generalize bS l=q at *
    generalize hR:l.drop 48=R at *
    cases b
    ·rw[if_neg (by decide:¬ false=true),if_neg (by decide),if_neg (by decide)];unfold cM Hd.z at *
     simp only[rX,af,ae,aa,seval,iteOmega,toNatUp];refine sD (c1) ?_;refine sD (c2) ?_;exact fT (by simp only[ae,aa,seval,iteOmega,toNatUp]) (by simp only[ae,aa,seval,iteOmega,toNatUp] <;> rfl) (by simp only[ae,aa,seval,iteOmega,toNatUp])
    ·rw[if_pos rfl,if_pos rfl,if_pos rfl];unfold cM at *
     simp only[rX,af,ae,aa,seval,iteOmega,toNatUp];refine sD (c1) ?_;refine sC (c2) ?_;simp only[hR,et,ae,aa,seval,iteOmega,toNatUp];refine sD (cj) ?_;exact cN
theorem Yr (z:Int):IntKind.u64.wrap z=(((z%18446744073709551616).toNat:Nat):Int):=by
  rw[IntKind.wrap_u64,Int.toNat_of_nonneg (Int.emod_nonneg _ (by decide))]
theorem Ys (z:Int):au (z%18446744073709551616).toNat 1=[cY z]:=by
  have h:=Int.emod_nonneg z (show (18446744073709551616:Int)≠0 by decide);have e:(z%18446744073709551616)%256=z%256:=Int.emod_emod_of_dvd z (by decide);unfold au cY;rw[show List.range 1=[0] from rfl,abK,abS,Nat.pow_zero,Nat.div_one]
  congr 1
  rw[← UInt8.toNat_inj,UInt8.toNat_ofNat',UInt8.toNat_ofNat'];omega
theorem wj (G:ah) (z:Int):aB Tryz.prog G 81 [.int .u64 (IntKind.u64.wrap z),.int .i64 1] (.w (.c (.fr 1 (([cY z]:List UInt8).map bD)))):=by
  have c:=OM G (z%18446744073709551616).toNat 1;rw[show ol (z%18446744073709551616).toNat 1=[cY z] from Ys z,← Yr] at c;exact c
def AG:aG:=⟨1,62,.seq (.reg [oO 1 (.box .roBox (.t 0)),oO 2 (.mv (.k (.c .nil))),oO 3 (.mv (kI 0))]) (.seq (.seq (.reg [oO 6 (.load (.ag 13) (.t 1)),oO 7 (.call 104 [(.t 6)] none),oM 4 7]) (.seq (.reg [oM 8 4,oO 9 (.bin .neq (.t 8) (kI 0))]) (.cond (.t 9) (.seq (.reg [oM 10 4,oO 2 (.mv (.k (.c .nil))),oM 3 10]) (.ret)) (.skip)))) (.seq (.reg [oO 11 (.fieldAddr 0 (.t 1)),oO 12 (.load .sc (.t 11)),oO 13 (.bin .shl (.t 12) (.k (.c (.d (.int .u64 6))))),oO 14 (.fieldAddr 1 (.t 1)),oO 15 (.load .sc (.t 14)),oO 16 (.bin .shl (.t 15) (.k (.c (.d (.int .u64 3))))),oO 17 (.bin .or (.t 13) (.t 16)),oO 18 (.fieldAddr 2 (.t 1)),oO 19 (.load .sc (.t 18)),oO 20 (.bin .or (.t 17) (.t 19)),oM 5 20]) (.seq (.reg [oM 21 5,oO 22 (.conv .u64 (.t 21)),oO 23 (.call 81 [(.t 22),(kI 1)] none),oO 24 (.fieldAddr 3 (.t 1)),
 oO 25 (.load .sc (.t 24)),oO 26 (.conv .u64 (.t 25)),oO 27 (.call 81 [(.t 26),(kI 1)] none),oO 28 (.fieldAddr 4 (.t 1)),oO 29 (.load .sc (.t 28)),oO 30 (.conv .u64 (.t 29)),oO 31 (.call 81 [(.t 30),(kI 1)] none),oO 32 (.fieldAddr 5 (.t 1)),oO 33 (.load .sc (.t 32)),oO 34 (.conv .u64 (.t 33)),oO 35 (.call 81 [(.t 34),(kI 1)] none),oO 36 (.fieldAddr 6 (.t 1)),oO 37 (.load .sc (.t 36)),oO 38 (.conv .u64 (.t 37)),oO 39 (.call 81 [(.t 38),(kI 4)] none),oO 40 (.fieldAddr 7 (.t 1)),oO 41 (.load .sc (.t 40)),oO 42 (.conv .u64 (.t 41)),oO 43 (.call 81 [(.t 42),(kI 4)] none),oO 44 (.fieldAddr 8 (.t 1)),oO 45 (.load .sc (.t 44)),oO 46 (.conv .u64 (.t 45)),oO 47 (.call 81 [(.t 46),(kI 4)] none),oO 48 (.fieldAddr 9 (.t 1)),oO 49 (.load .sc (.t 48)),oO 50 (.call 81 [(.t 49),(kI 8)] none),oO 51 (.fieldAddr 10 (.t 1)),
 oO 52 (.load .sc (.t 51)),oO 53 (.call 81 [(.t 52),(kI 8)] none),oO 54 (.fieldAddr 11 (.t 1)),oO 55 (.load .sc (.t 54)),oO 56 (.call 81 [(.t 55),(kI 8)] none),oO 57 (.fieldAddr 12 (.t 1)),oO 58 (.load .sc (.t 57)),oO 59 (.call 81 [(.t 58),(kI 8)] none),oO 60 (.bldSl false 11 1 (.sl []) [(0,(.t 23)),(1,(.t 27)),(2,(.t 31)),(3,(.t 35)),(4,(.t 39)),(5,(.t 43)),(6,(.t 47)),(7,(.t 50)),(8,(.t 53)),(9,(.t 56)),(10,(.t 59))]),oO 61 (.call 50 [(.t 60)] (some (0,1))),oM 2 61,oO 3 (.mv (kI 0))]) (.ret)))),[(2,none),(3,none)]⟩
theorem VL:aF Tryz.prog { own:=[61],comp:=[],frz:=[],nils:=[] } Tryz.f76=some AG:=by kernel_rfl
theorem Yt (G:ah) (h:Hd) (hf:mC h):aB Tryz.prog G 76 [cM h] (.tup [.c (.d (.sl ((xL h).map bD))),.c (.d (.int .i64 (fj h)))]):=by
  refine aI Tryz.func76 VL rfl rfl ?_;have c1:=Yj G h;unfold xL fj at *
  by_cases hv:jl h=true
  ·have hr:ly h:=of_decide_eq_true hv;rw[if_pos hv] at c1 ⊢;rw[if_pos hv];obtain⟨o1,o2,o3,o4,o5,o6,o7,o8,o9,o10,o11⟩:=hr;obtain⟨f1,f2,f3,f4,f5,f6,f7⟩:=hf;have p1:=wj G (h.lp*64+h.vr*8+h.md);have p2:=wj G h.st;have p3:=wj G h.pl;have p4:=wj G h.pr;rw[u64_in _ (by omega) (by omega)] at p1 p2;rw[Ba] at p3 p4;have p5:=jA G h.rd 4 (by decide);have p6:=jA G h.rp 4 (by decide);have p7:=jA G h.ri 4 (by decide);have p8:=jA G h.rf 8 (by decide);have p9:=jA G h.og 8 (by decide);have pA:=jA G h.rc 8 (by decide);have pB:=jA G h.tr 8 (by decide);rw[show (4:Int).toNat=4 from rfl] at p5 p6 p7;rw[show (8:Int).toNat=8 from rfl] at p8 p9 pA pB;have cj:=fc G [[cY (h.lp*64+h.vr*8+h.md)],[cY h.st],[cY h.pl],[cY h.pr],au h.rd 4,au h.rp 4,au h.ri 4,au h.rf 8,au h.og 8,au h.rc 8,au h.tr 8] (by simp) (by simp[bP]);have ef:([[cY (h.lp*64+h.vr*8+h.md)],[cY h.st],[cY h.pl],[cY h.pr],au h.rd 4,au h.rp 4,au h.ri 4,au h.rf 8,au h.og 8,au h.rc 8,au h.tr 8]:List (List UInt8)).flatten=dB h:=by
     unfold dB tL;simp only[acn,acp,abP,acF,acE]
   rw[ef] at cj;have ho:=Yl o1 o2 (v:=h.vr) (by omega) (by omega) o4 o5;unfold cM at *
   generalize dB h=B at *
   generalize au h.rd 4=B5 at *
   generalize au h.rp 4=B6 at *
   generalize au h.ri 4=B7 at *
   generalize au h.rf 8=B8 at *
   generalize au h.og 8=B9 at *
   generalize au h.rc 8=BA at *
   generalize au h.tr 8=BB at *
   generalize [cY h.st]=B2 at *
   generalize [cY h.pl]=B3 at *
   generalize [cY h.pr]=B4 at *
   generalize hF:h.lp*64+h.vr*8+h.md=F at *
   generalize [cY F]=B1 at *
   simp only[abK,abS] at cj;simp only[AG,af,ae,aa,seval,iteOmega,toNatUp];refine sC (c1) ?_;simp only[ho,IntKind.bits,ae,aa,seval,iteOmega,toNatUp];refine sD (p1) ?_;refine sD (p2) ?_;refine sD (p3) ?_;refine sD (p4) ?_;refine sD (p5) ?_;refine sD (p6) ?_;refine sD (p7) ?_;refine sD (p8) ?_;refine sD (p9) ?_;refine sD (pA) ?_;refine sD (pB) ?_;refine sD (cj) ?_;exact cI
  ·have hv:jl h=false:=by simpa using hv
   rw[hv] at c1 ⊢;rw[if_neg (by decide:¬ false=true)] at c1;rw[if_neg (by decide:¬ false=true),if_neg (by decide:¬ false=true)];unfold cM at *
   simp only[AG,af,ae,aa,seval,iteOmega,toNatUp];refine sD (c1) ?_;exact dk (by simp only[ae,aa,seval,iteOmega,toNatUp] <;> rfl) (by simp only[ae,aa,seval,iteOmega,toNatUp])
theorem i4 {l:List Fd} {i:Nat} (h:i<l.length):l[i]?=some (l.getD i default):=by
  rw[abI,abF h]; rfl
theorem pg {l:List Fd} {i:Nat} (h:i<l.length):l.getD i default∈l:=by
  rw[abI,abF h];exact aca h
theorem aap (n:Nat):Int.tdiv ((n:Int)+4-1) 4=(((n+3) / 4:Nat):Int):=by
  rw[Int.tdiv_eq_ediv_of_nonneg (by omega)]; omega
theorem Nk {f:Fd} (h:16<(4+f.da.length+3) / 4*4):bc f=(4+f.da.length+3) / 4*4:=by unfold bc; omega
theorem Nl {f:Fd} (h:(4+f.da.length+3) / 4*4≤16):bc f=16:=by unfold bc; omega
theorem wm {f:Fd} (h:f.ty<0∨65535<f.ty):ca f=4∧iK f=0:=by
  have e:ca f=4:=if_pos h;exact⟨e,by unfold iK; rw[e]; rfl⟩
theorem mP {f:Fd} (h1:0≤f.ty) (h2:f.ty≤65535) (h:bc f≤1232):ca f=0∧iK f=bc f:=by
  have e:ca f=0:=Nh h1 h2 h;exact⟨e,by unfold iK; rw[if_pos e]⟩
theorem AJ {f:Fd} (h1:0≤f.ty) (h2:f.ty≤65535) (h:1232<bc f):ca f=2∧iK f=0:=by
  have e:ca f=2:=by unfold ca; rw[if_neg (by omega),if_pos h]
  exact⟨e,by unfold iK; rw[e]; rfl⟩
def KG:aG:=⟨1,8,.seq (.reg [oO 2 (.mv (kI 0))]) (.seq (.reg [oM 3 0,oO 4 (.bin .add (.t 3) (kI 4)),oO 5 (.bin .sub (.t 4) (kI 1)),oO 6 (.bin .quo (.t 5) (kI 4)),oO 7 (.bin .mul (.t 6) (kI 4)),oM 2 7]) (.ret)),[(2,none)]⟩
theorem VR:aF Tryz.prog { own:=[],comp:=[],frz:=[],nils:=[] } Tryz.f105=some KG:=by kernel_rfl
theorem YC (G:ah) (n:Nat) (hn:n≤9000000000000000000):aB Tryz.prog G 105 [.int .i64 (n:Int)] (.w (.c (.d (.int .i64 (((n+3) / 4*4:Nat):Int))))):=by
  refine aI Tryz.func105 VR rfl rfl ?_;have e:=aap n;have hq:(n+3) / 4*4≤n+3:=by omega
  generalize (n+3) / 4=q at *
  simp only[KG,af,ae,aa,seval,iteOmega,toNatUp,e];exact aM
def px:aG:=⟨1,22,.seq (.reg [oO 1 (.box .roBox (.t 0)),oO 2 (.mv (kI 0)),oO 3 (.mv (kI 0))]) (.seq (.seq (.reg [oO 5 (.fieldAddr 0 (.t 1)),oO 6 (.load .sc (.t 5)),oO 7 (.bin .lss (.t 6) (kI 0)),oM 8 7,oG 9 (.fieldAddr 0 (.t 1)) 8 false,oG 10 (.load .sc (.t 9)) 8 false,oG 11 (.bin .gtr (.t 10) (kI 65535)) 8 false,oO 12 (.pick (.t 8) (.k (.c (.d (.bool true)))) (.t 11))]) (.cond (.t 12) (.seq (.reg [oO 2 (.mv (kI 0)),oO 3 (.mv (kI 4))]) (.ret)) (.skip))) (.seq (.reg [oO 13 (.fieldAddr 1 (.t 1)),oO 14 (.load .sc (.t 13)),oO 15 (.len (.t 14)),oO 16 (.bin .add (kI 4) (.t 15)),oO 17 (.call 105 [(.t 16)] none),oO 18 (.max [(kI 16),(.t 17)]),oM 4 18]) (.seq (.seq (.reg [oM 19 4,oO 20 (.bin .gtr (.t 19) (kI 1232))]) (.cond (.t 20) (.seq (.reg [oO 2 (.mv (kI 0)),oO 3 (.mv (kI 2))]) (.ret)) (.skip)))
 (.seq (.reg [oM 21 4,oM 2 21,oO 3 (.mv (kI 0))]) (.ret))))),[(2,none),(3,none)]⟩
theorem VS:aF Tryz.prog { own:=[],comp:=[],frz:=[],nils:=[] } Tryz.f77=some px:=by kernel_rfl
theorem Nm (G:ah) (f:Fd) (hd:f.da.length≤8000000000000000000):aB Tryz.prog G 77 [aL f] (.tup [.c (.d (.int .i64 (iK f:Int))),.c (.d (.int .i64 (ca f)))]):=by
  refine aI Tryz.func77 VS rfl rfl ?_;unfold aL;rcases Int.lt_or_le f.ty 0 with h1 | h1
  ·obtain⟨e1,e2⟩:=wm (f:=f) (.inl h1);rw[e1,e2];simp only[px,af,ae,aa,seval,iteOmega,toNatUp];exact cI
  ·rcases Int.lt_or_le 65535 f.ty with h2 | h2
   ·obtain⟨e1,e2⟩:=wm (f:=f) (.inr h2);rw[e1,e2];have g:(f.ty>65535)=True:=eq_true h2;simp only[px,af,ae,aa,seval,iteOmega,toNatUp,g];exact cI
   ·have c:=YC G (4+f.da.length) (by omega);rw[show ((4+f.da.length:Nat):Int)=4+(f.da.length:Int) by omega] at c;have g:(f.ty>65535)=False:=eq_false (by omega);rcases ab1 16 ((4+f.da.length+3) / 4*4) with h3 | h3
    ·have hT:=Nk h3;have hb:(4+f.da.length+3) / 4*4≤4+f.da.length+3:=by omega
     rcases ab1 1232 (bc f) with h4 | h4
     ·obtain⟨e1,e2⟩:=AJ h1 h2 h4;rw[e1,e2];rw[hT] at h4;generalize (4+f.da.length+3) / 4*4=Y at *
      have g3:((Y:Int)>16)=True:=eq_true (by omega);have g4:((Y:Int)>1232)=True:=eq_true (by omega);simp only[px,af,ae,aa,seval,iteOmega,toNatUp,g];refine sC (c) ?_;simp only[g3,g4,acK,acX,ae,aa,seval,iteOmega,toNatUp];exact cI
     ·obtain⟨e1,e2⟩:=mP h1 h2 h4;rw[e1,e2,hT];rw[hT] at h4;generalize (4+f.da.length+3) / 4*4=Y at *
      have g3:((Y:Int)>16)=True:=eq_true (by omega);have g4:((Y:Int)>1232)=False:=eq_false (by omega);simp only[px,af,ae,aa,seval,iteOmega,toNatUp,g];refine sC (c) ?_;simp only[g3,g4,acK,acX,ae,aa,seval,iteOmega,toNatUp];exact cI
    ·have hT:=Nl h3;obtain⟨e1,e2⟩:=mP h1 h2 (by omega);rw[e1,e2,hT];generalize (4+f.da.length+3) / 4*4=Y at *
     have g3:((Y:Int)>16)=False:=eq_false (by omega);simp only[px,af,ae,aa,seval,iteOmega,toNatUp,g];refine sC (c) ?_;simp only[g3,acK,acX,ae,aa,seval,iteOmega,toNatUp];exact cI
theorem VT (n:Nat):au 0 n=List.replicate n 0:=by
  unfold au;refine List.ext_getElem (by simp) fun i i1 i2=>?_
  simp
def KH:aG:=⟨1,30,.seq (.reg [oO 1 (.box .roBox (.t 0)),oO 2 (.mv (.k (.c .nil)))]) (.seq (.reg [oO 7 (.load (.ag 2) (.t 1)),oO 8 (.call 77 [(.t 7)] none),oM 6 8,oO 9 (.extract (.t 6) 0),oO 10 (.extract (.t 6) 1),oM 3 9,oM 4 10]) (.seq (.reg [oM 11 3,oO 12 (.bin .sub (.t 11) (kI 4)),oO 13 (.fieldAddr 1 (.t 1)),oO 14 (.load .sc (.t 13)),oO 15 (.len (.t 14)),oO 16 (.bin .sub (.t 12) (.t 15)),oO 17 (.call 81 [(.k (.c (.d (.int .u64 0)))),(.t 16)] none),oM 5 17]) (.seq (.reg [oO 18 (.fieldAddr 0 (.t 1)),oO 19 (.load .sc (.t 18)),oO 20 (.conv .u64 (.t 19)),oO 21 (.call 81 [(.t 20),(kI 2)] none),oM 22 3,oO 23 (.conv .u64 (.t 22)),oO 24 (.call 81 [(.t 23),(kI 2)] none),oO 25 (.fieldAddr 1 (.t 1)),oO 26 (.load .sc (.t 25)),oM 27 5,oO 28 (.bldSl false 4 1 (.sl []) [(0,(.t 21)),(1,(.t 24)),(2,(.t 26)),(3,(.t 27))]),
 oO 29 (.call 50 [(.t 28)] (some (0,1))),oM 2 29]) (.ret)))),[(2,none)]⟩
theorem VU:aF Tryz.prog { own:=[29],comp:=[],frz:=[],nils:=[] } Tryz.f78=some KH:=by kernel_rfl
theorem YD (G:ah) (f:Fd) (h:ca f=0):aB Tryz.prog G 78 [aL f] (.w (.c (.fr 1 ((fk f).map bD)))):=by
  refine aI Tryz.func78 VU rfl rfl ?_;obtain⟨h1,h2,h3⟩:=mZ h;have hl:=rY f;have hp:=VN f;have c1:=Nm G f (by omega);have eN:iK f=bc f:=(mP h1 h2 h3).2;rw[h,eN] at c1;have c2:=jA G 0 ((bc f:Int)-4-(f.da.length:Int)) (by omega);rw[show ((bc f:Int)-4-(f.da.length:Int)).toNat=bc f-4-f.da.length by omega,VT] at c2;have c3:=jA G f.ty.toNat 2 (by decide);rw[show (2:Int).toNat=2 from rfl,show (f.ty.toNat:Int)=f.ty by omega] at c3;have c4:=jA G (bc f) 2 (by decide);rw[show (2:Int).toNat=2 from rfl] at c4;have cj:=fc G [au f.ty.toNat 2,au (bc f) 2,f.da,List.replicate (bc f-4-f.da.length) 0] (by simp) (by simp[bP]; omega);have ef:([au f.ty.toNat 2,au (bc f) 2,f.da,List.replicate (bc f-4-f.da.length) 0]:List (List UInt8)).flatten=fk f:=by
    unfold fk;simp only[acn,acp,abP]
  rw[ef] at cj;have n0:iK f≤1232:=by omega
  unfold aL at *
  generalize fk f=B at *
  generalize au f.ty.toNat 2=B1 at *
  generalize au (bc f) 2=B2 at *
  generalize List.replicate (bc f-4-f.da.length) (0:UInt8)=B3 at *
  generalize f.da=da at *
  generalize f.ty=ty at *
  generalize bc f=T at *
  simp only[abK,abS] at cj;simp only[KH,af,ae,aa,seval,iteOmega,toNatUp];refine sD (c1) ?_;refine sD (c2) ?_;refine sD (c3) ?_;refine sD (c4) ?_;refine sD (cj) ?_;exact fM
theorem KI {l:List Fd} (h0:eY l=0) (h:24<l.length):bX l=8∧eZ l=[]:=by
  have e:bX l=8:=by unfold bX; rw[if_pos h0,if_pos h]
  exact⟨e,by unfold eZ; rw[e]; rfl⟩
theorem Ik {l:List Fd} (h0:eY l=0) (h:l.length≤24) (h2:1232<bB l):bX l=2∧eZ l=[]:=by
  have e:bX l=2:=by unfold bX; rw[if_pos h0,if_neg (by omega),if_pos h2]
  exact⟨e,by unfold eZ; rw[e]; rfl⟩
theorem AK {l:List Fd} (h0:eY l=0) (h:l.length≤24) (h2:bB l≤1232):bX l=0∧eZ l=aY l:=by
  have e:bX l=0:=by unfold bX; rw[if_pos h0,if_neg (by omega),if_neg (by omega)]
  exact⟨e,by unfold eZ; rw[if_pos e]⟩
theorem KJ {l:List Fd} {e:Int} (h0:eY l=e) (h:e≠0):bX l=e∧eZ l=[]:=by
  have e:bX l=e:=by unfold bX; rw[h0,if_neg h]
  exact⟨e,by unfold eZ; rw[e,if_neg h]⟩
theorem KL {l:List Fd} (h:eY l=0) {i:Nat} (hi:i<l.length):ca (l.getD i default)=0:=qh.1 h _ (pg hi)
def qi (l:List Fd) (i:Nat):St:=⟨aT [(0,.w (.c (.d (.sl (l.map aL))))),(4,.w (.c (.d (.int .i64 (bB (l.take i):Int))))),(12,.w (.c (.d (.sl (l.map aL))))),(13,.w (.c (.d (.int .i64 (l.length:Int))))),(14,.w (.c (.d (.int .i64 (i:Int)))))],hL [],uL []⟩
def Cl (l:List Fd) (i:Nat):St:=⟨aT [(9,.w (.c (.own 1 1 0 (aY (l.take i)).length))),(37,.w (.c (.d (.sl (l.map aL))))),(38,.w (.c (.d (.int .i64 (l.length:Int))))),(39,.w (.c (.d (.int .i64 (i:Int)))))],hL [(1,.row 1 ((aY (l.take i)).map bD))],uL [1]⟩
def oV:aS := .seq (.reg [oO 15 (.bin .lss (.t 14) (.t 13))]) (.seq (.cond (.t 15) (.skip) (.exit 0)) (.seq (.block 1 (.seq (.reg [oO 16 (.idxSl 2 (.t 12) (.t 14)),oO 17 (.load (.ag 2) (.t 16)),oO 6 (.alloc [(.d (.int .i64 0)),.nil]),oN (.store (.ag 2) (.t 6) (.t 17))]) (.seq (.reg [oO 19 (.load (.ag 2) (.t 6)),oO 20 (.call 77 [(.t 19)] none),oM 18 20,oO 21 (.extract (.t 18) 0),oO 22 (.extract (.t 18) 1),oM 7 21,oM 8 22]) (.seq (.seq (.reg [oM 23 8,oO 24 (.bin .neq (.t 23) (kI 0))]) (.cond (.t 24) (.seq (.reg [oM 25 8,oO 2 (.mv (.k (.c .nil))),oM 3 25]) (.ret)) (.skip))) (.reg [oM 26 4,oM 27 7,oO 28 (.bin .add (.t 26) (.t 27)),oM 4 28]))))) (.reg [oO 29 (.bin .add (.t 14) (kI 1)),oM 14 29])))
def zd:aS := .seq (.reg [oO 40 (.bin .lss (.t 39) (.t 38))]) (.seq (.cond (.t 40) (.skip) (.exit 2)) (.seq (.block 3 (.seq (.reg [oO 41 (.idxSl 2 (.t 37) (.t 39)),oO 42 (.load (.ag 2) (.t 41)),oO 11 (.alloc [(.d (.int .i64 0)),.nil]),oN (.store (.ag 2) (.t 11) (.t 42))]) (.reg [oM 43 9,oO 44 (.load (.ag 2) (.t 11)),oO 45 (.call 78 [(.t 44)] none),oO 46 (.app false 1 1 (.t 43) (.t 45)),oM 9 46]))) (.reg [oO 47 (.bin .add (.t 39) (kI 1)),oM 39 47])))
def KM:aG:=⟨1,49,.seq (.reg [oO 2 (.mv (.k (.c .nil))),oO 3 (.mv (kI 0))]) (.seq (.reg [oO 4 (.mv (kI 0))]) (.seq (.seq (.reg [oM 12 0,oO 13 (.len (.t 12)),oO 14 (.mv (kI 0))]) (.block 0 (.loop oV))) (.seq (.seq (.reg [oM 30 0,oO 31 (.len (.t 30)),oO 32 (.bin .gtr (.t 31) (kI 24))]) (.cond (.t 32) (.seq (.reg [oO 2 (.mv (.k (.c .nil))),oO 3 (.mv (kI 8))]) (.ret)) (.skip))) (.seq (.seq (.reg [oM 33 4,oO 34 (.bin .gtr (.t 33) (kI 1232))]) (.cond (.t 34) (.seq (.reg [oO 2 (.mv (.k (.c .nil))),oO 3 (.mv (kI 2))]) (.ret)) (.skip))) (.seq (.reg [oM 35 4,oO 36 (.make true 1 1 (.int .u8 0) (kI 0) (.t 35)),oM 9 36]) (.seq (.seq (.reg [oM 37 0,oO 38 (.len (.t 37)),oO 39 (.mv (kI 0))]) (.block 2 (.loop zd))) (.seq (.reg [oM 48 9,oM 2 48,oO 3 (.mv (kI 0))]) (.ret)))))))),[(2,none),(3,none)]⟩
theorem VV:aF Tryz.prog { own:=[],comp:=[],frz:=[],nils:=[] } Tryz.f46=some KM:=by kernel_rfl
theorem YE (G:ah) (l:List Fd) (hl:l.length≤1000000) (hd:∀ f∈l,f.da.length≤8000000000000000000):aB Tryz.prog G 46 [.sl (l.map aL)] (.tup [.c (.fr 1 ((eZ l).map bD)),.c (.d (.int .i64 (bX l)))]):=by
  refine aI Tryz.func46 VV rfl rfl ?_;simp only[KM,af,ae,aa,seval,iteOmega,toNatUp];refine ba (qi l) (fun i=>l.length-i) (fun i=>i≤l.length∧eY (l.take i)=0) 0 ⟨abM _,rfl⟩ ?_ ?_
  ·refine ap (fun i=>i) ?_ ?_ rfl rfl <;> simp only[wx,aj,ar,aa,seval,iteOmega,toNatUp,Ie]
  ·rintro i ⟨hi,hok⟩;have hb:=KC (l.take i) (qh.1 hok);rw[abN,acS hi] at hb;by_cases hlt:i<l.length
   ·have g:=i4 hlt;have c:=Nm G (l.getD i default) (hd _ (pg hlt));have ht:=rq hlt;have hf:=z0 hlt hok;by_cases he:ca (l.getD i default)=0
    ·obtain⟨q1,q2,q3⟩:=mZ he;have eN:iK (l.getD i default)=bc (l.getD i default):=(mP q1 q2 q3).2;rw[he,eN] at c;rw[he] at hf;unfold aL at c;generalize l.getD i default=x at *
     generalize bc x=T at *
     simp only[oV,qi,ae,aa,seval,iteOmega,toNatUp,aD,g,aL];refine sD (c) ?_;refine aU (i+1) (by omega) ⟨by omega,hf⟩ (ap (fun i=>i) ?_ ?_ rfl rfl) <;> simp only[wx,aj,ar,aa,seval,iteOmega,toNatUp,ht]
    ·obtain⟨e1,e2⟩:=KJ (Ih hlt hok he) he;have hne:(ca (l.getD i default)=0)=False:=eq_false he;rw[e1,e2];unfold aL at c;generalize ca (l.getD i default)=e at *
     generalize iK (l.getD i default)=n at *
     generalize l.getD i default=x at *
     simp only[oV,qi,ae,aa,seval,iteOmega,toNatUp,aD,g,aL];refine sC (c) ?_;simp only[hne,ae,aa,seval,iteOmega,toNatUp];exact cm
   ·have hil:l.take i=l:=abH (by omega);rw[hil] at hok;rcases ab1 24 l.length with h24 | h24
    ·obtain⟨e1,e2⟩:=KI hok h24;rw[e1,e2];have g1:((l.length:Int)>24)=True:=eq_true (by omega);simp only[oV,qi,ae,aa,seval,iteOmega,toNatUp,g1];exact cm
    ·have g1:((l.length:Int)>24)=False:=eq_false (by omega);rcases ab1 1232 (bB l) with h12 | h12
     ·obtain⟨e1,e2⟩:=Ik hok h24 h12;rw[e1,e2];have g2:((bB l:Int)>1232)=True:=eq_true (by omega);simp only[oV,qi,ae,aa,seval,iteOmega,toNatUp,g1,hil,g2];exact cm
     ·obtain⟨e1,e2⟩:=AK hok h24 h12;rw[e1,e2];have g2:((bB l:Int)>1232)=False:=eq_false (by omega);simp only[oV,qi,ae,aa,seval,iteOmega,toNatUp,g1,hil,g2];refine ba (Cl l) (fun i=>l.length-i) (fun i=>i≤l.length) 0 (abM _) ?_ ?_
      ·refine ap (fun _=>288) ?_ ?_ rfl rfl <;> simp only[wx,aj,ar,aa,seval,iteOmega,toNatUp,Ig]
      ·intro i hi;by_cases hlt:i<l.length
       ·have g:=i4 hlt;have c:=kW (YD G (l.getD i default) (KL hok hlt));have ha:=uI hlt;have h1:=fQ (l.take (i+1));have h2:=AH l (i+1);rw[ha,abJ] at h1;unfold aL at c;generalize l.getD i default=x at *
        generalize fk x=B at *
        simp only[zd,Cl,ae,aa,seval,iteOmega,toNatUp,aD,g,aL];refine sC (c) ?_;simp only[bQ,ae,aa,seval,iteOmega,toNatUp];refine aU (i+1) (by omega) (by omega) (ap (fun _=>368) ?_ ?_ rfl rfl) <;> simp only[wx,aj,ar,aa,seval,iteOmega,toNatUp,ha]
       ·have hil:l.take i=l:=abH (by omega);simp only[zd,Cl,ae,aa,seval,iteOmega,toNatUp,hil];exact cm
theorem Bz (G:ah) (l:List Fd) (hl:l.length≤1000000) (hd:∀ f∈l,f.da.length≤8000000000000000000):aB Tryz.prog G 46 [.sl (l.map aL)] (.tup [.c (.d (.sl ((eZ l).map bD))),.c (.d (.int .i64 (bX l)))]):=rL (YE G l hl hd)
def df (l:List Fd) (k:Int):Nat→List Int
  | 0=>[]
  | n+1=>df l k n++(if (l.getD n default).ty=k then [(n:Int)] else [])
def aW (l:List Fd) (k:Int):List Int:=df l k l.length
theorem vM (l:List Fd) (k:Int):∀ n,(df l k n).length≤n
  | 0=>abR _
  | n+1=>by
    have:=vM l k n;rw[df,abJ];split <;> simp <;> omega
theorem xj {l:List Fd} {k:Int} {n:Nat} (h:(l.getD n default).ty=k):df l k (n+1)=df l k n++[(n:Int)]:=by rw[df,if_pos h]
theorem xk {l:List Fd} {k:Int} {n:Nat} (h:(l.getD n default).ty≠k):df l k (n+1)=df l k n:=by rw[df,if_neg h,abP]
def xl (l:List Fd) (k:Int) (i:Nat):St:=⟨aT [(1,.w (.c (.d (.int .i64 k)))),(5,.w (.c (.own 1 1 0 (df l k i).length))),(8,.w (.c (.d (.sl (l.map aL))))),(9,.w (.c (.d (.int .i64 (l.length:Int))))),(10,.w (.c (.d (.int .i64 (i:Int)))))],hL [(1,.row 1 ((df l k i).map zD))],uL [1]⟩
def uJ:aS := .seq (.reg [oO 11 (.bin .lss (.t 10) (.t 9))]) (.seq (.cond (.t 11) (.skip) (.exit 0)) (.seq (.block 1 (.seq (.reg [oM 12 10,oO 13 (.idxSl 2 (.t 8) (.t 10)),oO 14 (.load (.ag 2) (.t 13)),oO 7 (.alloc [(.d (.int .i64 0)),.nil]),oM 6 12,oN (.store (.ag 2) (.t 7) (.t 14))]) (.seq (.reg [oO 15 (.fieldAddr 0 (.t 7)),oO 16 (.load .sc (.t 15)),oM 17 1,oO 18 (.bin .eql (.t 16) (.t 17))]) (.cond (.t 18) (.reg [oM 19 5,oM 20 6,oO 21 (.bldSl false 1 1 (.int .i64 0) [(0,(.t 20))]),oO 22 (.app false 1 8 (.t 19) (.t 21)),oM 5 22]) (.skip))))) (.reg [oO 23 (.bin .add (.t 10) (kI 1)),oM 10 23])))
def KN:aG:=⟨2,25,.seq (.reg [oO 4 (.mv (.k (.c .nil)))]) (.seq (.reg [oO 5 (.nilOwn 1)]) (.seq (.seq (.reg [oM 8 0,oO 9 (.len (.t 8)),oO 10 (.mv (kI 0))]) (.block 0 (.loop uJ))) (.seq (.reg [oM 24 5,oM 4 24]) (.ret)))),[(4,none)]⟩
theorem VW:aF Tryz.prog { own:=[5],comp:=[],frz:=[],nils:=[] } Tryz.f47=some KN:=by kernel_rfl
theorem BC (G:ah) (l:List Fd) (k:Int) (hl:l.length≤1000000):aB Tryz.prog G 47 [.sl (l.map aL),.int .i64 k] (.w (.c (.d (.sl ((aW l k).map zD))))):=by
  refine aI Tryz.func47 VW rfl rfl ?_;have e0:df l k 0=[]:=rfl;simp only[KN,af,ae,aa,seval,iteOmega,toNatUp];refine ba (xl l k) (fun i=>l.length-i) (fun i=>i≤l.length) 0 (abM _) ?_ ?_
  ·refine ap (fun i=>40) ?_ ?_ rfl rfl <;> simp only[wx,aj,ar,aa,seval,iteOmega,toNatUp,e0]
  ·intro i hi;have hb:=vM l k i;have az:=zY (df l k i);by_cases hlt:i<l.length
   ·have g:=i4 hlt;by_cases hk:(l.getD i default).ty=k
    ·have hs:=xj hk;have hk':((l.getD i default).ty=k)=True:=eq_true hk;generalize l.getD i default=x at *
     simp only[uJ,xl,ae,aa,seval,iteOmega,toNatUp,aD,g,aL,hk',bQ];refine aU (i+1) (by omega) (by omega) (ap (fun _=>176) ?_ ?_ rfl rfl) <;> simp only[hs,abT,zD,wx,aj,ar,aa,seval,iteOmega,toNatUp]
    ·have hs:=xk hk;have hk':((l.getD i default).ty=k)=False:=eq_false hk;generalize l.getD i default=x at *
     simp only[uJ,xl,ae,aa,seval,iteOmega,toNatUp,aD,g,aL,hk',bQ];refine aU (i+1) (by omega) (by omega) (ap (fun i=>i) ?_ ?_ rfl rfl) <;> simp only[hs,wx,aj,ar,aa,seval,iteOmega,toNatUp]
   ·have hil:i=l.length:=by omega
    have e1:df l k i=aW l k:=by rw[hil]; rfl
    simp only[uJ,xl,ae,aa,seval,iteOmega,toNatUp,e1];exact aM
def s6 (a b:List Fd) (i:Nat):St:=⟨aT [(1,.w (.c (.d (.sl (b.map aL))))),(12,.w (.c (.d (.sl (a.map aL))))),(13,.w (.c (.d (.int .i64 (a.length:Int))))),(14,.w (.c (.d (.int .i64 (i:Int)))))],hL [],uL []⟩
theorem R4 {a b:List Fd} {i:Nat} (h1:i<a.length) (h2:i<b.length) (h:a.take i=b.take i) (e1:(a.getD i default).ty=(b.getD i default).ty) (e2:(a.getD i default).da=(b.getD i default).da):a.take (i+1)=b.take (i+1):=by
  rw[rn h1,rn h2,h]
  congr 2
  cases ha:a.getD i default;cases hb:b.getD i default;rw[ha,hb] at e1 e2;simp at e1 e2;rw[e1,e2]
theorem VX {a b:List Fd} {i:Nat} (h:(a.getD i default).ty≠(b.getD i default).ty∨(a.getD i default).da≠(b.getD i default).da):decide (a=b)=false:=by
  rw[decide_eq_false_iff_not];rintro rfl;rcases h with h | h <;> exact h rfl
def rr:aS := .seq (.reg [oO 15 (.bin .lss (.t 14) (.t 13))]) (.seq (.cond (.t 15) (.skip) (.exit 0)) (.seq (.block 1 (.seq (.reg [oM 16 14,oO 17 (.idxSl 2 (.t 12) (.t 14)),oO 18 (.load (.ag 2) (.t 17)),oO 6 (.alloc [(.d (.int .i64 0)),.nil]),oM 5 16,oN (.store (.ag 2) (.t 6) (.t 18))]) (.seq (.reg [oO 19 (.fieldAddr 0 (.t 6)),oO 20 (.load .sc (.t 19)),oM 21 1,oM 22 5,oO 23 (.idxSl 2 (.t 21) (.t 22)),oO 24 (.fieldAddr 0 (.t 23)),oO 25 (.load .sc (.t 24)),oO 26 (.bin .neq (.t 20) (.t 25)),oM 27 26,oG 28 (.fieldAddr 1 (.t 6)) 27 false,oG 29 (.load .sc (.t 28)) 27 false,oG 30 (.mv (.t 1)) 27 false,oG 31 (.mv (.t 5)) 27 false,oG 32 (.idxSl 2 (.t 30) (.t 31)) 27 false,oG 33 (.fieldAddr 1 (.t 32)) 27 false,oG 34 (.load .sc (.t 33)) 27 false,oG 35 (.call 55 [(.t 29),(.t 34)] none) 27 false,
 oG 36 (.un .not (.t 35)) 27 false,oO 37 (.pick (.t 27) (.k (.c (.d (.bool true)))) (.t 36))]) (.cond (.t 37) (.seq (.reg [oO 4 (.mv (.k (.c (.d (.bool false)))))]) (.ret)) (.skip))))) (.reg [oO 38 (.bin .add (.t 14) (kI 1)),oM 14 38])))
def AL:aG:=⟨2,39,.seq (.reg [oO 4 (.mv (.k (.c (.d (.bool false)))))]) (.seq (.seq (.reg [oM 7 0,oO 8 (.len (.t 7)),oM 9 1,oO 10 (.len (.t 9)),oO 11 (.bin .neq (.t 8) (.t 10))]) (.cond (.t 11) (.seq (.reg [oO 4 (.mv (.k (.c (.d (.bool false)))))]) (.ret)) (.skip))) (.seq (.seq (.reg [oM 12 0,oO 13 (.len (.t 12)),oO 14 (.mv (kI 0))]) (.block 0 (.loop rr))) (.seq (.reg [oO 4 (.mv (.k (.c (.d (.bool true)))))]) (.ret)))),[(4,none)]⟩
theorem VY:aF Tryz.prog { own:=[],comp:=[],frz:=[],nils:=[] } Tryz.f22=some AL:=by kernel_rfl
theorem YF (G:ah) (a b:List Fd) (ha:a.length≤9000000000000000000):aB Tryz.prog G 22 [.sl (a.map aL),.sl (b.map aL)] (.w (.c (.d (.bool (decide (a=b)))))):=by
  refine aI Tryz.func22 VY rfl rfl ?_;by_cases hlen:a.length=b.length
  ·have hl':((a.length:Int)=(b.length:Int))=True:=eq_true (by omega);simp only[AL,af,ae,aa,seval,iteOmega,toNatUp,hl'];refine ba (s6 a b) (fun i=>a.length-i) (fun i=>i≤a.length∧a.take i=b.take i) 0 ⟨abM _,rfl⟩ ?_ ?_
   ·refine ap (fun i=>0) ?_ ?_ rfl rfl <;> simp only[wx,aj,ar,aa,seval,iteOmega,toNatUp]
   ·rintro i ⟨hi,hpre⟩;by_cases hlt:i<a.length
    ·have hlb:i<b.length:=by omega
     have g1:=i4 hlt;have g2:=i4 hlb;have st:=R4 hlt hlb hpre;have sn:=VX (a:=a) (b:=b) (i:=i);have c:=pO G (a.getD i default).da (b.getD i default).da;clear hpre;generalize a.getD i default=x at *
     generalize b.getD i default=y at *
     by_cases ht:x.ty=y.ty
     ·have ht':(x.ty=y.ty)=True:=eq_true ht;cases hxy:x.da==y.da
      ·have hne:=sn (.inr (by simpa using hxy));rw[hne];rw[hxy] at c;clear sn st;simp only[rr,s6,ae,aa,seval,iteOmega,toNatUp,aD,g1,g2,aL,ht'];refine sD (c) ?_;exact aM
      ·have hst:=st ht (by simpa using hxy);rw[hxy] at c;clear sn st;simp only[rr,s6,ae,aa,seval,iteOmega,toNatUp,aD,g1,g2,aL,ht'];refine sD (c) ?_;refine aU (i+1) (by omega) ⟨by omega,hst⟩ (ap (fun _=>0) ?_ ?_ rfl rfl) <;> simp only[wx,aj,ar,aa,seval,iteOmega,toNatUp]
     ·have ht':(x.ty=y.ty)=False:=eq_false ht;have hne:=sn (.inl ht);rw[hne];clear sn st;simp only[rr,s6,ae,aa,seval,iteOmega,toNatUp,aD,g1,g2,aL,ht'];exact aM
    ·have e:a=b:=by
       rw[abH (by omega),abH (by omega)] at hpre;exact hpre
     rw[decide_eq_true e];simp only[rr,s6,ae,aa,seval,iteOmega,toNatUp];exact aM
  ·have hl':((a.length:Int)=(b.length:Int))=False:=eq_false (by omega);have hne:decide (a=b)=false:=by
     rw[decide_eq_false_iff_not]; rintro rfl; exact hlen rfl
   rw[hne];simp only[AL,af,ae,aa,seval,iteOmega,toNatUp,hl'];exact aM
theorem xm (z:Nat):Int.tmod (z:Int) 4=((z%4:Nat):Int):=by
  rfl
theorem TM (l:List UInt8) (p:Nat):bu (l.drop p) 0=bu l p:=by
  unfold bu aK;rw[adE,acR]
def jr (rest z:Nat):Nat:=if fa rest z=0 then z else 0
def py:aG:=⟨1,24,.seq (.reg [oO 2 (.mv (kI 0)),oO 3 (.mv (kI 0))]) (.seq (.seq (.reg [oM 5 0,oO 6 (.len (.t 5)),oO 7 (.bin .lss (.t 6) (kI 4))]) (.cond (.t 7) (.seq (.reg [oO 2 (.mv (kI 0)),oO 3 (.mv (kI 1))]) (.ret)) (.skip))) (.seq (.reg [oM 8 0,oO 9 (.slice 1 (.t 8) (some (kI 2)) (some (kI 4)) none),oO 10 (.call 93 [(.t 9)] none),oO 11 (.conv .i64 (.t 10)),oM 4 11]) (.seq (.seq (.reg [oM 12 4,oO 13 (.bin .rem (.t 12) (kI 4)),oO 14 (.bin .neq (.t 13) (kI 0)),oM 15 14,oG 16 (.mv (.t 4)) 15 false,oG 17 (.bin .lss (.t 16) (kI 16)) 15 false,oO 18 (.pick (.t 15) (.k (.c (.d (.bool true)))) (.t 17))]) (.cond (.t 18) (.seq (.reg [oO 2 (.mv (kI 0)),oO 3 (.mv (kI 3))]) (.ret)) (.skip))) (.seq (.seq (.reg [oM 19 0,oO 20 (.len (.t 19)),oM 21 4,oO 22 (.bin .lss (.t 20) (.t 21))]) (.cond (.t 22) (.seq (.reg [oO 2 (.mv (kI 0)),
 oO 3 (.mv (kI 1))]) (.ret)) (.skip))) (.seq (.reg [oM 23 4,oM 2 23,oO 3 (.mv (kI 0))]) (.ret)))))),[(2,none),(3,none)]⟩
theorem VZ:aF Tryz.prog { own:=[],comp:=[],frz:=[],nils:=[] } Tryz.f115=some py:=by kernel_rfl
theorem YG (G:ah) (l:List UInt8) (hl:l.length≤9000000000000000000):aB Tryz.prog G 115 [.sl (l.map bD)] (.tup [.c (.d (.int .i64 (jr l.length (bu l 0):Int))),.c (.d (.int .i64 (fa l.length (bu l 0))))]):=by
  refine aI Tryz.func115 VZ rfl rfl ?_;rcases ab1 l.length 4 with h1 | h1
  ·have e:fa l.length (bu l 0)=1:=if_pos h1;have e2:jr l.length (bu l 0)=0:=by unfold jr; rw[e]; rfl
   rw[e,e2];simp only[py,af,ae,aa,seval,iteOmega,toNatUp];exact cI
  ·have c:=qd G (aK l 2 2) (by rw[dj (by omega)]; decide);have e0:bu l 0=be (aK l 2 2):=rfl;have hz:=Ni l 0 (by omega);rw[← e0] at c;have ed:(l.drop 2).take (4-2)=aK l 2 2:=rfl;have hm:=xm (bu l 0);generalize bu l 0=z at *
   have ef:fa l.length z=if z%4≠0∨z<16 then 3 else if l.length<z then 1 else 0:=if_neg (by omega)
   by_cases h2:z%4=0
   ·have g2:(((z%4:Nat):Int)=0)=True:=eq_true (by omega);rcases ab1 z 16 with h3 | h3
    ·have e:fa l.length z=3:=by rw[ef,if_pos (.inr h3)]
     have e2:jr l.length z=0:=by unfold jr; rw[e]; rfl
     rw[e,e2];simp only[py,af,ae,aa,seval,iteOmega,toNatUp];refine bd c rfl (.inl rfl) ?_;simp only[ae,aa,seval,iteOmega,toNatUp,hm,g2];exact cI
    ·rcases ab1 l.length z with h4 | h4
     ·have e:fa l.length z=1:=by rw[ef,if_neg (by omega),if_pos h4]
      have e2:jr l.length z=0:=by unfold jr; rw[e]; rfl
      rw[e,e2];simp only[py,af,ae,aa,seval,iteOmega,toNatUp];refine bd c rfl (.inl rfl) ?_;simp only[ae,aa,seval,iteOmega,toNatUp,hm,g2];exact cI
     ·have e:fa l.length z=0:=by rw[ef,if_neg (by omega),if_neg (by omega)]
      have e2:jr l.length z=z:=if_pos e;rw[e,e2];simp only[py,af,ae,aa,seval,iteOmega,toNatUp];refine bd c rfl (.inl rfl) ?_;simp only[ae,aa,seval,iteOmega,toNatUp,hm,g2];exact cI
   ·have e:fa l.length z=3:=by rw[ef,if_pos (.inl h2)]
    have e2:jr l.length z=0:=by unfold jr; rw[e]; rfl
    have g2:(((z%4:Nat):Int)=0)=False:=eq_false (by omega);rw[e,e2];simp only[py,af,ae,aa,seval,iteOmega,toNatUp];refine bd c rfl (.inl rfl) ?_;simp only[ae,aa,seval,iteOmega,toNatUp,hm,g2];exact cI
def oB (sz:Nat):Nat→List D→List (Nat×Ob)
  | 0,_=>[(1,.box [.nil])]
  | _+1,es=>[(1,.box [.own 3 sz 0 es.length]),(3,.row sz es)]
theorem V0 (sz n:Nat) (es:List D):((oB sz n es).all fun p=>p.2.ids.all fun j=>((oB sz n es).map (·.1)).contains j)=true:=by
  cases n <;> rfl
def qD (sz:Nat) (E:Nat→List D):Nat→aA
  | 0=>hL [(1,.box [.nil])]
  | k+1=>hL [(1,.box [.own 2 sz 0 (E (k+1)).length]),(2,.row sz (E (k+1)))]
def C6:Nat→Nat→Bool
  | 0=>uL [1]
  | _+1=>uL [1,2]
def qj (l:List UInt8) (F:Nat) (cs:List D) (sz:Nat) (E:Nat→List D) (k:Nat):St :=
  ⟨aT [(0,.w (.c (.d (.sl (l.map bD))))),(1,.w (.c (.cf F [] (cs.map Cp.d++[.p 1 1 0 0])))),(5,.w (.c (.d (.int .i64 (aC l k:Int))))),(6,.w (.c (.d (.int .i64 (k:Int)))))],qD sz E k,C6 k⟩
theorem KO (F:Nat) (cs:List D) (m1:List (Nat×Ob)):C5 [1] [(1,.box [.nil])] m1 [(1,.c (.cf F [] (cs.map Cp.d++[.p 1 1 0 0])))] :=
  ⟨by simp,fun id h _=>⟨_,abU.2 rfl,by simp at h; subst h; simp[W.lnk,Cp.ids,pv]⟩⟩
theorem vN {σ:St} {x0:W} {x:Int} {F:Nat} {cs:List D} {sz:Nat} {E:Nat→List D} (k:Nat) (h1:σ.f 1=.w (.c (.cf F [] (cs.map Cp.d++[.p 1 1 0 0])))) (h4:σ.f 4=.w (.c (.d (.int .i64 x)))) (hh:σ.h=qD sz E k) :
    qg σ [(4,none)] [1] [x0,.c (.cf F [] (cs.map Cp.d++[.p 1 1 0 0]))] [(1,.box [.nil])] (.w (.c (.d (.int .i64 x)))) (oB sz k (E k)):=by
  cases k with
  | zero =>
    refine mY [] [(1,.c (.cf F [] (cs.map Cp.d++[.p 1 1 0 0])))] (ws:=[.c (.d (.int .i64 x))]) ?_ rfl ?_ rfl ?_ (KO F cs _)
    ·simp only[aX,cL,h4,iH]
    ·rw[hh]; simp only[qD,iJ,oB,wx,aj,ar,aa,seval,iteOmega,toNatUp,ce]
    ·simp only[mD,h1,wx,aj,ar,aa,seval,iteOmega,toNatUp,ce,abT]
  | succ k =>
    refine mY [(3,2)] [(1,.c (.cf F [] (cs.map Cp.d++[.p 1 1 0 0])))] (ws:=[.c (.d (.int .i64 x))]) ?_ rfl ?_ rfl ?_ (KO F cs _)
    ·simp only[aX,cL,h4,iH]
    ·rw[hh]; simp only[qD,iJ,oB,wx,aj,ar,aa,seval,iteOmega,toNatUp,ce]
    ·simp only[mD,h1,wx,aj,ar,aa,seval,iteOmega,toNatUp,ce,abT]
def jM (p z:Nat) (cs:List D):List W:=.c (.d (.int .i64 (p:Int)))::.c (.d (.int .i64 (z:Int)))::(cs.map (fun x=>W.c (.d x))++[.c (.ptr 1 1 0 0)])
def oW:aS := .seq (.seq (.reg [oM 12 5,oM 13 0,oO 14 (.len (.t 13)),oO 15 (.bin .lss (.t 12) (.t 14))]) (.cond (.t 15) (.skip) (.exit 0))) (.seq (.block 1 (.seq (.reg [oM 19 0,oM 20 5,oO 21 (.slice 1 (.t 19) (some (.t 20)) none none),oO 22 (.call 115 [(.t 21)] none),oM 18 22,oO 23 (.extract (.t 18) 0),oO 24 (.extract (.t 18) 1),oM 7 23,oM 8 24]) (.seq (.seq (.reg [oM 25 8,oO 26 (.bin .neq (.t 25) (kI 0))]) (.cond (.t 26) (.seq (.reg [oM 27 8,oM 4 27]) (.ret)) (.skip))) (.seq (.seq (.reg [oM 28 6,oO 29 (.bin .eql (.t 28) (kI 24))]) (.cond (.t 29) (.seq (.reg [oO 4 (.mv (kI 8))]) (.ret)) (.skip))) (.seq (.reg [oM 30 1,oM 31 5,oM 32 7,oO 33 (.callM 1000000007 [(.t 30),(.t 31),(.t 32)])]) (.reg [oM 34 5,oM 35 7,oO 36 (.bin .add (.t 34) (.t 35)),oM 5 36])))))) (.reg [oM 16 6,oO 17 (.bin .add (.t 16) (kI 1)),
 oM 6 17]))
def AM:aG:=⟨2,37,.seq (.reg [oO 4 (.mv (kI 0))]) (.seq (.seq (.reg [oM 9 0,oO 10 (.len (.t 9)),oO 11 (.bin .gtr (.t 10) (kI 1232))]) (.cond (.t 11) (.seq (.reg [oO 4 (.mv (kI 2))]) (.ret)) (.skip))) (.seq (.reg [oO 5 (.mv (kI 0))]) (.seq (.seq (.reg [oO 6 (.mv (kI 0))]) (.block 0 (.loop oW))) (.seq (.reg [oO 4 (.mv (kI 0))]) (.ret))))),[(4,none)]⟩
theorem V4:aF Tryz.prog { own:=[],comp:=[],frz:=[],nils:=[],mt:=[33],mv:=true } Tryz.f94=some AM:=by kernel_rfl
theorem Np (G:ah) (l:List UInt8) (hl:l.length≤9000000000000000000) (F:FuncId) (cs:List D) (sz:Nat) (E:Nat→List D) (he:∀ (args:Array Value) (w:World),(callFunc F args).run Tryz.prog w=.ok (.enter F args) w)
    (h0:0<fN l→ij Tryz.prog G F (jM (aC l 0) (bu l (aC l 0)) cs) [(1,.box [.nil])] (.tup []) [(1,.box [.own 3 sz 0 (E 1).length]),(3,.row sz (E 1))])
    (hs:∀ k,k+1<fN l→ij Tryz.prog G F (jM (aC l (k+1)) (bu l (aC l (k+1))) cs) [(1,.box [.own 2 sz 0 (E (k+1)).length]),(2,.row sz (E (k+1)))] (.tup []) [(1,.box [.own 3 sz 0 (E (k+2)).length]),(3,.row sz (E (k+2)))]) :
    ij Tryz.prog G 94 [.c (.d (.sl (l.map bD))),.c (.cf F [] (cs.map Cp.d++[.p 1 1 0 0]))] [(1,.box [.nil])] (.w (.c (.d (.int .i64 (cn l))))) (oB sz (fN l) (E (fN l))):=by
  refine oU Tryz.func94 V4 [1] rfl rfl rfl (by simp[W.ids,C.ids,Cp.ids,pv]) (V0 _ _ _) rfl rfl ?_;have hlnk:∀ m1,C5 [1] [(1,.box [.nil])] m1 [(1,.c (.cf F [] (cs.map Cp.d++[.p 1 1 0 0])))]:=fun m1=>⟨by simp,fun id h _=>⟨_,abU.2 rfl,by simp at h; subst h; simp[W.lnk,Cp.ids,pv]⟩⟩
  rcases ab1 1232 l.length with h1 | h1
  ·have e1:cn l=2:=if_pos h1;have e2:fN l=0:=if_pos h1;rw[e1,e2];have g1:((l.length:Int)>1232)=True:=eq_true (by omega);simp only[AM,gD,oB,ix,ae,aa,seval,iteOmega,toNatUp,g1];exact vN (E:=E) (sz:=sz) 0 (by simp only[ae,aa,seval,iteOmega,toNatUp]) (by simp only[ae,aa,seval,iteOmega,toNatUp]) rfl
  ·have eN:fN l=cP l:=if_neg (by omega);have eE:cn l=(dC l (cP l)).getD 0:=if_neg (by omega);obtain⟨c1,c2,c3⟩:=mK l;rw[eN] at h0 hs ⊢;have g1:((l.length:Int)>1232)=False:=eq_false (by omega);simp only[AM,gD,ix,ae,aa,seval,iteOmega,toNatUp,g1];refine ba (qj l F cs sz E) (fun k=>cP l-k) (fun k=>k≤cP l) 0 (abM _) ?_ ?_
   ·refine ap (fun i=>i) ?_ ?_ rfl (by simp[V.ids,W.ids,C.ids,Ob.ids,Cp.ids,pv]) <;> simp only[aC,wx,aj,ar,aa,seval,iteOmega,toNatUp,ce,abT]
   ·intro k hk;have hp:=wk l k hk;have cf:=YG G (l.drop (aC l k)) (by simp; omega);rw[TM,abO] at cf;have et:(l.drop (aC l k)).take (l.length-aC l k)=l.drop (aC l k):=abH (by simp);have hend:∀ x,dC l k=some x→cP l=k∧cn l=x:=fun x hx=>by
      have e:cP l=k:=by
        rcases ab1 k (cP l) with h | h
        ·rw[c3 k h] at hx; cases hx
        ·omega
      exact⟨e,by rw[eE,e,hx]; rfl⟩
    cases hst:dC l k with
    | some x =>
      obtain⟨e1,e2⟩:=hend x hst;rw[e1,e2];clear hend e1 e2 hs h0 c3 c2 eE eN;unfold dC at hst;split at hst
      ·rename_i q1;obtain rfl:=Option.some.inj hst;simp only[oW,qj,ix,ae,aa,seval,iteOmega,toNatUp];exact vN k (by simp only[ae,aa,seval,iteOmega,toNatUp]) (by simp only[ae,aa,seval,iteOmega,toNatUp]) rfl
      ·rename_i q1;have q1':(aC l k:Int)<(l.length:Int):=by omega
       split at hst
       ·rename_i q2;obtain rfl:=Option.some.inj hst;have q3:(fa (l.length-aC l k) (bu l (aC l k))=0)=False:=eq_false q2;generalize fa (l.length-aC l k) (bu l (aC l k))=e at *
        generalize jr (l.length-aC l k) (bu l (aC l k))=z at *
        simp only[oW,qj,ix,ae,aa,seval,iteOmega,toNatUp,et];refine sC (cf) ?_;simp only[q3,ix,ae,aa,seval,iteOmega,toNatUp];exact vN k (by simp only[ae,aa,seval,iteOmega,toNatUp]) (by simp only[ae,aa,seval,iteOmega,toNatUp]) rfl
       ·rename_i q2;have q2:fa (l.length-aC l k) (bu l (aC l k))=0:=by simpa using q2
        rw[q2] at cf;split at hst
        ·rename_i q3;obtain rfl:=Option.some.inj hst;have q4:((k:Int)=24)=True:=eq_true (by omega);generalize jr (l.length-aC l k) (bu l (aC l k))=z at *
         simp only[oW,qj,ix,ae,aa,seval,iteOmega,toNatUp,et];refine sC (cf) ?_;simp only[q4,ix,ae,aa,seval,iteOmega,toNatUp];exact vN k (by simp only[ae,aa,seval,iteOmega,toNatUp]) (by simp only[ae,aa,seval,iteOmega,toNatUp]) rfl
        ·cases hst
    | none =>
      obtain⟨q1,q2,q3⟩:=z1 hst;obtain⟨q4,q5,q6,_⟩:=sK hst;have hkc:k<cP l:=by
        rcases ab1 k (cP l) with h | h
        ·exact h
        ·have:cP l=k:=by omega
         rw[this,hst] at c2; cases c2
      have ez:jr (l.length-aC l k) (bu l (aC l k))=bu l (aC l k):=if_pos q2;rw[q2,ez] at cf;have q1':(aC l k:Int)<(l.length:Int):=by omega
      have hpl:aC l (k+1)=aC l k+bu l (aC l k):=rfl;have q7:((k:Int)=24)=False:=eq_false (by omega);rcases k with _ | k
      ·have hc:=h0 (by omega);clear hend hs h0 c3 c2 eE eN hst;generalize bu l (aC l 0)=z at *
       simp only[oW,qj,qD,C6,ix,ae,aa,seval,iteOmega,toNatUp,et];refine sC (cf) ?_;simp only[q7,ae,aa,seval,iteOmega,toNatUp];refine O5 (pre:=[]) (post:=cs.map Cp.d++[.p 1 1 0 0]) [.c (.d (.int .i64 (aC l 0:Int))),.c (.d (.int .i64 (z:Int)))] [(3,1000)] hc he ?_ ?_ ?_ rfl rfl ?_
       ·simp only[ae,aa,seval,iteOmega,toNatUp]
       ·simp only[jM,ae,aa,seval,iteOmega,toNatUp,ce,abT]
       ·simp only[wx,aj,ar,aa,seval,iteOmega,toNatUp,ce]
       ·simp only[ae,aa,seval,iteOmega,toNatUp,ce];refine aU 1 (by omega) (by omega) (ap (fun i=>if i=2 then 1000 else i) ?_ ?_ rfl (by simp[V.ids,W.ids,C.ids,Ob.ids,Cp.ids,pv])) <;> simp only[hpl,wx,aj,ar,aa,seval,iteOmega,toNatUp,ce,abT]
      ·have hc:=hs k (by omega);clear hend hs h0 c3 c2 eE eN hst;have q8:((k:Int)+1=24)=False:=eq_false (by omega);generalize bu l (aC l (k+1))=z at *
       simp only[oW,qj,qD,C6,ix,ae,aa,seval,iteOmega,toNatUp,et];refine sC (cf) ?_;simp only[q8,ae,aa,seval,iteOmega,toNatUp];refine O5 (pre:=[]) (post:=cs.map Cp.d++[.p 1 1 0 0]) [.c (.d (.int .i64 (aC l (k+1):Int))),.c (.d (.int .i64 (z:Int)))] [(3,1000)] hc he ?_ ?_ ?_ rfl rfl ?_
       ·simp only[ae,aa,seval,iteOmega,toNatUp]
       ·simp only[jM,ae,aa,seval,iteOmega,toNatUp,ce,abT]
       ·simp only[wx,aj,ar,aa,seval,iteOmega,toNatUp,ce]
       ·simp only[ae,aa,seval,iteOmega,toNatUp,ce];refine aU (k+1+1) (by omega) (by omega) (ap (fun i=>if i=2 then 1000 else i) ?_ ?_ rfl (by simp[V.ids,W.ids,C.ids,Ob.ids,Cp.ids,pv])) <;> simp only[hpl,wx,aj,ar,aa,seval,iteOmega,toNatUp,ce,abT]
def lr (l:List UInt8) (p z:Nat):Fd:=⟨(be (aK l p 2):Int),aK l (p+4) (z-4)⟩
theorem Nq {l:List UInt8} {p z:Nat} (h4:4≤z) (hz:p+z≤l.length):((l.drop p).take (p+z-p)).length=z∧((l.drop p).take (p+z-p)).take 2=aK l p 2∧(((l.drop p).take (p+z-p)).drop 4).take (z-4)=aK l (p+4) (z-4):=by
  rw[acC];refine⟨by simp; omega,?_,?_⟩
  ·rw[List.take_take,acS (by omega)]; rfl
  ·rw[List.drop_take,List.take_take,Nat.min_self,adE]; rfl
def AO:aG:=⟨4,25,.seq (.reg [oO 7 (.load .sc (.t 2)),oM 8 0,oM 9 0,oM 10 1,oO 11 (.bin .add (.t 9) (.t 10)),oO 12 (.slice 1 (.t 7) (some (.t 8)) (some (.t 11)) none),oM 6 12]) (.reg [oO 13 (.load .sc (.t 3)),oM 14 6,oO 15 (.slice 1 (.t 14) none (some (kI 2)) none),oO 16 (.call 93 [(.t 15)] none),oO 17 (.conv .i64 (.t 16)),oM 18 6,oO 19 (.slice 1 (.t 18) (some (kI 4)) none none),oO 20 (.bldSl false 1 1 (.sl []) [(0,(.t 19))]),oO 21 (.call 50 [(.t 20)] none),oO 22 (.build [(.d (.int .i64 0)),.nil] [(0,1,(.t 17)),(1,1,(.t 21))]),oO 23 (.bldSl false 1 2 (.agg [(.int .i64 0),(.sl [])]) [(0,(.t 22))]),oO 24 (.app false 2 32 (.t 13) (.t 23)),oN (.store .sc (.t 3) (.t 24))]),[]⟩
theorem KP:aF Tryz.prog { own:=[],comp:=[],frz:=[],nils:=[] } Tryz.f98=some AO:=by kernel_rfl
theorem YH (G:ah) (l:List UInt8) (p z:Nat) (h4:4≤z) (hz:p+z≤l.length) (hl:l.length≤1232):ij Tryz.prog G 98 (jM p z [.ref [.sl (l.map bD)]]) [(1,.box [.nil])] (.tup []) [(1,.box [.own 3 2 0 1]),(3,.row 2 [aL (lr l p z)])]:=by
  unfold jM;refine oU Tryz.func98 KP [3] rfl rfl rfl rfl rfl rfl rfl ?_;have c1:=qd G (aK l p 2) (by rw[dj (by omega)]; decide);have hty:=(iL 2 (aK l p 2) (dj (by omega)) (by decide)).1;have cj:=fc G [aK l (p+4) (z-4)] (by simp) (by simp[dj (show p+4+(z-4)≤l.length by omega)]; omega);simp only[abK,abS,acn,acp,abP] at cj;obtain⟨q0,q1,q2⟩:=Nq h4 hz;unfold lr aL;generalize be (aK l p 2)=ty at *
  generalize aK l p 2=B1 at *
  generalize aK l (p+4) (z-4)=B2 at *
  simp only[AO,gD,ju,ae,aa,seval,iteOmega,toNatUp,q0,q1,q2];refine sC (c1) ?_;simp only[q0,q1,q2,ae,aa,seval,iteOmega,toNatUp];refine sC (cj) ?_;simp only[bQ,ju,ae,aa,seval,iteOmega,toNatUp];refine mY [(3,192)] [(3,.c (.ptr 1 1 0 0))] (ws:=[]) rfl rfl ?_ rfl ?_ ⟨by simp,fun id h _=>⟨_,abU.2 rfl,by simp at h; subst h; simp[W.lnk]⟩⟩ <;> simp only[mD,wx,aj,ar,aa,seval,iteOmega,toNatUp,ce]
theorem YI (G:ah) (l:List UInt8) (p z:Nat) (h4:4≤z) (hz:p+z≤l.length) (hl:l.length≤1232) (es:List Fd) (he:es.length≤24):ij Tryz.prog G 98 (jM p z [.ref [.sl (l.map bD)]]) [(1,.box [.own 2 2 0 (es.map aL).length]),(2,.row 2 (es.map aL))] (.tup []) [(1,.box [.own 3 2 0 ((es++[lr l p z]).map aL).length]),(3,.row 2 ((es++[lr l p z]).map aL))]:=by
  unfold jM;refine oU Tryz.func98 KP [3] rfl rfl rfl rfl rfl rfl rfl ?_;have c1:=qd G (aK l p 2) (by rw[dj (by omega)]; decide);have hty:=(iL 2 (aK l p 2) (dj (by omega)) (by decide)).1;have cj:=fc G [aK l (p+4) (z-4)] (by simp) (by simp[dj (show p+4+(z-4)≤l.length by omega)]; omega);simp only[abK,abS,acn,acp,abP] at cj;obtain⟨q0,q1,q2⟩:=Nq h4 hz;rw[show (es++[lr l p z]).map aL=es.map aL++[aL (lr l p z)] by simp];unfold lr;rw[show aL ⟨(be (aK l p 2):Int),aK l (p+4) (z-4)⟩=.agg [.int .i64 (be (aK l p 2):Int),.sl ((aK l (p+4) (z-4)).map bD)] from rfl];generalize be (aK l p 2)=ty at *
  generalize aK l p 2=B1 at *
  generalize aK l (p+4) (z-4)=B2 at *
  have hel:(es.map aL).length≤24:=by simpa using he
  generalize es.map aL=E at *
  simp only[AO,gD,ju,ae,aa,seval,iteOmega,toNatUp,q0,q1,q2];refine sC (c1) ?_;simp only[q0,q1,q2,ae,aa,seval,iteOmega,toNatUp];refine sC (cj) ?_;simp only[bQ,ju,ae,aa,seval,iteOmega,toNatUp];refine mY [(3,192)] [(3,.c (.ptr 1 1 0 0))] (ws:=[]) rfl rfl ?_ rfl ?_ ⟨by simp,fun id h _=>⟨_,abU.2 rfl,by simp at h; rcases h with rfl | rfl <;> simp[W.lnk] at *⟩⟩ <;> simp only[mD,wx,aj,ar,aa,seval,iteOmega,toNatUp,ce]
theorem YJ:∀ (args:Array Value) (w:World),(callFunc 98 args).run Tryz.prog w=.ok (.enter 98 args) w:=enters_of Tryz.func98 (by kernel_rfl) rfl
def AP:aG:=⟨3,9,.reg [oO 5 (.load .sc (.t 2)),oM 6 0,oO 7 (.bldSl false 1 1 (.int .i64 0) [(0,(.t 6))]),oO 8 (.app false 1 8 (.t 5) (.t 7)),oN (.store .sc (.t 2) (.t 8))],[]⟩
theorem KQ:aF Tryz.prog { own:=[],comp:=[],frz:=[],nils:=[] } Tryz.f95=some AP:=by kernel_rfl
theorem YK (G:ah) (p z:Nat):ij Tryz.prog G 95 (jM p z []) [(1,.box [.nil])] (.tup []) [(1,.box [.own 3 1 0 1]),(3,.row 1 [.int .i64 (p:Int)])]:=by
  unfold jM;refine oU Tryz.func95 KQ [2] rfl rfl rfl rfl rfl rfl rfl ?_;simp only[AP,gD,ju,bQ,ae,aa,seval,iteOmega,toNatUp];refine mY [(3,64)] [(2,.c (.ptr 1 1 0 0))] (ws:=[]) rfl rfl ?_ rfl ?_ ⟨by simp,fun id h _=>⟨_,abU.2 rfl,by simp at h; subst h; simp[W.lnk]⟩⟩ <;> simp only[mD,wx,aj,ar,aa,seval,iteOmega,toNatUp,ce]
theorem YL (G:ah) (p z:Nat) (es:List Int) (he:es.length≤24):ij Tryz.prog G 95 (jM p z []) [(1,.box [.own 2 1 0 (es.map zD).length]),(2,.row 1 (es.map zD))] (.tup []) [(1,.box [.own 3 1 0 ((es++[(p:Int)]).map zD).length]),(3,.row 1 ((es++[(p:Int)]).map zD))]:=by
  unfold jM;refine oU Tryz.func95 KQ [2] rfl rfl rfl rfl rfl rfl rfl ?_;rw[show (es++[(p:Int)]).map zD=es.map zD++[zD (p:Int)] by simp];have hel:(es.map zD).length≤24:=by simpa using he
  generalize es.map zD=E at *
  unfold zD;simp only[AP,gD,ju,bQ,ae,aa,seval,iteOmega,toNatUp];refine mY [(3,64)] [(2,.c (.ptr 1 1 0 0))] (ws:=[]) rfl rfl ?_ rfl ?_ ⟨by simp,fun id h _=>⟨_,abU.2 rfl,by simp at h; rcases h with rfl | rfl <;> simp[W.lnk] at *⟩⟩ <;> simp only[mD,wx,aj,ar,aa,seval,iteOmega,toNatUp,ce]
theorem YM:∀ (args:Array Value) (w:World),(callFunc 95 args).run Tryz.prog w=.ok (.enter 95 args) w:=enters_of Tryz.func95 (by kernel_rfl) rfl
theorem wn (l:List UInt8):fN l≤24∧∀ k,k<fN l→l.length≤1232∧k<cP l:=by
  have h:=(mK l).1;unfold fN;split
  ·exact⟨by omega,fun k hk=>by omega⟩
  ·exact⟨h,fun k hk=>⟨by omega,hk⟩⟩
theorem Nr {l:List UInt8} {k:Nat} (hk:k<fN l):l.length≤1232∧4≤bu l (aC l k)∧aC l k+bu l (aC l k)≤l.length:=by
  obtain⟨h1,h2⟩:=(wn l).2 k hk;have:=sK ((mK l).2.2 k h2);omega
def r6:aG:=⟨1,13,.seq (.reg [oO 1 (.box .roBox (.t 0)),oO 2 (.mv (.k (.c .nil))),oO 3 (.mv (kI 0))]) (.seq (.reg [oO 4 (.alloc [.nil])]) (.seq (.reg [oO 6 (.load .sc (.t 1)),oO 7 (.closM 98 [] [(.t 1),(.t 4)]),oO 8 (.callM 94 [(.t 6),(.t 7)]),oM 5 8]) (.seq (.seq (.reg [oM 9 5,oO 10 (.bin .neq (.t 9) (kI 0))]) (.cond (.t 10) (.seq (.reg [oM 11 5,oO 2 (.mv (.k (.c .nil))),oM 3 11]) (.ret)) (.skip))) (.seq (.reg [oO 12 (.load .sc (.t 4)),oM 2 12,oO 3 (.mv (kI 0))]) (.ret))))),[(2,none),(3,none)]⟩
theorem V5:aF Tryz.prog { own:=[],comp:=[],frz:=[],nils:=[],mt:=[7,8] } Tryz.f66=some r6:=by kernel_rfl
theorem Ns (G:ah) (l:List UInt8) (hl:l.length≤9000000000000000000):aB Tryz.prog G 66 [.sl (l.map bD)] (.tup [.c (.d (.sl ((aV l).map aL))),.c (.d (.int .i64 (cn l)))]):=by
  refine aI Tryz.func66 V5 rfl rfl ?_;have c:=Np G l hl _ [.ref [.sl (l.map bD)]] 2 (fun k=>(d9 l k).map aL) YJ (fun h=>by
    obtain⟨h1,h2,h3⟩:=Nr h;exact YH G l (aC l 0) (bu l (aC l 0)) h2 h3 h1) (fun k h=>by
    obtain⟨h1,h2,h3⟩:=Nr h;have h4:=(wn l).1;have:=YI G l (aC l (k+1)) (bu l (aC l (k+1))) h2 h3 h1 (d9 l (k+1)) (by rw[vL]; omega);rw[show d9 l (k+1)++[lr l (aC l (k+1)) (bu l (aC l (k+1)))]=d9 l (k+2) from (Ii l (k+1)).symm] at this;exact this)
  have hx:aV l=if cn l=0 then d9 l (fN l) else []:=rfl
  rw[hx];generalize cn l=e at *
  cases hn:fN l with
  | zero =>
    rw[hn] at c;have c:ij Tryz.prog G _ [.c (.d (.sl (l.map bD))),.c (.cf 98 [] [.d (.ref [.sl (l.map bD)]),.p 1 1 0 0])] [(1,.box [.nil])] (.w (.c (.d (.int .i64 e)))) [(1,.box [.nil])]:=c;have hr:d9 l 0=[]:=rfl;rw[hr,show (if e=0 then ([]:List Fd) else [])=[] by split <;> rfl];by_cases he:e=0
    ·have he':(e=0)=True:=eq_true he;simp only[r6,af,gr,fC,ae,aa,seval,iteOmega,toNatUp];refine mb [.c (.d (.sl (l.map bD))),.c (.cf 98 [] [.d (.ref [.sl (l.map bD)]),.p 32 1 0 0])] [(1,32)] c ?_ ?_ ?_ rfl rfl ?_
     ·simp only[ae,aa,seval,iteOmega,toNatUp]
     ·simp only[ae,aa,seval,iteOmega,toNatUp,ce]
     ·simp only[wx,aj,ar,aa,seval,iteOmega,toNatUp,ce]
     ·simp only[ce,ae,aa,seval,iteOmega,toNatUp,he'];rw[he];exact dk (by simp only[ae,aa,seval,iteOmega,toNatUp]; try rfl) (by simp only[ae,aa,seval,iteOmega,toNatUp])
    ·have he':(e=0)=False:=eq_false he;simp only[r6,af,gr,fC,ae,aa,seval,iteOmega,toNatUp];refine mb [.c (.d (.sl (l.map bD))),.c (.cf 98 [] [.d (.ref [.sl (l.map bD)]),.p 32 1 0 0])] [(1,32)] c ?_ ?_ ?_ rfl rfl ?_
     ·simp only[ae,aa,seval,iteOmega,toNatUp]
     ·simp only[ae,aa,seval,iteOmega,toNatUp,ce]
     ·simp only[wx,aj,ar,aa,seval,iteOmega,toNatUp,ce]
     ·simp only[ce,ae,aa,seval,iteOmega,toNatUp,he'];exact dk (by simp only[ae,aa,seval,iteOmega,toNatUp]; try rfl) (by simp only[ae,aa,seval,iteOmega,toNatUp])
  | succ n =>
    rw[hn] at c;have c:ij Tryz.prog G _ [.c (.d (.sl (l.map bD))),.c (.cf 98 [] [.d (.ref [.sl (l.map bD)]),.p 1 1 0 0])] [(1,.box [.nil])] (.w (.c (.d (.int .i64 e)))) [(1,.box [.own 3 2 0 ((d9 l (n+1)).map aL).length]),(3,.row 2 ((d9 l (n+1)).map aL))]:=c;by_cases he:e=0
    ·rw[if_pos he];have he':(e=0)=True:=eq_true he;simp only[r6,af,gr,fC,ae,aa,seval,iteOmega,toNatUp];refine mb [.c (.d (.sl (l.map bD))),.c (.cf 98 [] [.d (.ref [.sl (l.map bD)]),.p 32 1 0 0])] [(1,32),(3,1000)] c ?_ ?_ ?_ rfl rfl ?_
     ·simp only[ae,aa,seval,iteOmega,toNatUp]
     ·simp only[ae,aa,seval,iteOmega,toNatUp,ce]
     ·simp only[wx,aj,ar,aa,seval,iteOmega,toNatUp,ce]
     ·simp only[ce,ae,aa,seval,iteOmega,toNatUp,he'];rw[he];exact dk (by simp only[ae,aa,seval,iteOmega,toNatUp]; try rfl) (by simp only[ae,aa,seval,iteOmega,toNatUp])
    ·rw[if_neg he];have he':(e=0)=False:=eq_false he;simp only[r6,af,gr,fC,ae,aa,seval,iteOmega,toNatUp];refine mb [.c (.d (.sl (l.map bD))),.c (.cf 98 [] [.d (.ref [.sl (l.map bD)]),.p 32 1 0 0])] [(1,32),(3,1000)] c ?_ ?_ ?_ rfl rfl ?_
     ·simp only[ae,aa,seval,iteOmega,toNatUp]
     ·simp only[ae,aa,seval,iteOmega,toNatUp,ce]
     ·simp only[wx,aj,ar,aa,seval,iteOmega,toNatUp,ce]
     ·simp only[ce,ae,aa,seval,iteOmega,toNatUp,he'];exact dk (by simp only[ae,aa,seval,iteOmega,toNatUp]; try rfl) (by simp only[ae,aa,seval,iteOmega,toNatUp])
def r7:aG:=⟨1,13,.seq (.reg [oO 2 (.mv (.k (.c .nil))),oO 3 (.mv (kI 0))]) (.seq (.reg [oO 4 (.alloc [.nil])]) (.seq (.reg [oM 6 0,oO 7 (.closM 95 [] [(.t 4)]),oO 8 (.callM 94 [(.t 6),(.t 7)]),oM 5 8]) (.seq (.seq (.reg [oM 9 5,oO 10 (.bin .neq (.t 9) (kI 0))]) (.cond (.t 10) (.seq (.reg [oM 11 5,oO 2 (.mv (.k (.c .nil))),oM 3 11]) (.ret)) (.skip))) (.seq (.reg [oO 12 (.load .sc (.t 4)),oM 2 12,oO 3 (.mv (kI 0))]) (.ret))))),[(2,none),(3,none)]⟩
theorem V6:aF Tryz.prog { own:=[],comp:=[],frz:=[],nils:=[],mt:=[7,8] } Tryz.f64=some r7:=by kernel_rfl
theorem YN (G:ah) (l:List UInt8) (hl:l.length≤9000000000000000000):aB Tryz.prog G 64 [.sl (l.map bD)] (.tup [.c (.d (.sl ((fO l).map zD))),.c (.d (.int .i64 (cn l)))]):=by
  refine aI Tryz.func64 V6 rfl rfl ?_;have c:=Np G l hl _ [] 1 (fun k=>(eQ l k).map zD) YM (fun h=>YK G (aC l 0) (bu l (aC l 0))) (fun k h=>by
    have h4:=(wn l).1;have:=YL G (aC l (k+1)) (bu l (aC l (k+1))) (eQ l (k+1)) (by rw[KD]; omega);rw[show eQ l (k+1)++[(aC l (k+1):Int)]=eQ l (k+2) from (Ij l (k+1)).symm] at this;exact this)
  have hx:fO l=if cn l=0 then eQ l (fN l) else []:=rfl
  rw[hx];generalize cn l=e at *
  cases hn:fN l with
  | zero =>
    rw[hn] at c;have c:ij Tryz.prog G _ [.c (.d (.sl (l.map bD))),.c (.cf 95 [] [.p 1 1 0 0])] [(1,.box [.nil])] (.w (.c (.d (.int .i64 e)))) [(1,.box [.nil])]:=c;have hr:eQ l 0=[]:=rfl;rw[hr,show (if e=0 then ([]:List Int) else [])=[] by split <;> rfl];by_cases he:e=0
    ·have he':(e=0)=True:=eq_true he;simp only[r7,af,gr,fC,ae,aa,seval,iteOmega,toNatUp];refine mb [.c (.d (.sl (l.map bD))),.c (.cf 95 [] [.p 32 1 0 0])] [(1,32)] c ?_ ?_ ?_ rfl rfl ?_
     ·simp only[ae,aa,seval,iteOmega,toNatUp]
     ·simp only[ae,aa,seval,iteOmega,toNatUp,ce]
     ·simp only[wx,aj,ar,aa,seval,iteOmega,toNatUp,ce]
     ·simp only[ce,ae,aa,seval,iteOmega,toNatUp,he'];rw[he];exact dk (by simp only[ae,aa,seval,iteOmega,toNatUp]; try rfl) (by simp only[ae,aa,seval,iteOmega,toNatUp])
    ·have he':(e=0)=False:=eq_false he;simp only[r7,af,gr,fC,ae,aa,seval,iteOmega,toNatUp];refine mb [.c (.d (.sl (l.map bD))),.c (.cf 95 [] [.p 32 1 0 0])] [(1,32)] c ?_ ?_ ?_ rfl rfl ?_
     ·simp only[ae,aa,seval,iteOmega,toNatUp]
     ·simp only[ae,aa,seval,iteOmega,toNatUp,ce]
     ·simp only[wx,aj,ar,aa,seval,iteOmega,toNatUp,ce]
     ·simp only[ce,ae,aa,seval,iteOmega,toNatUp,he'];exact dk (by simp only[ae,aa,seval,iteOmega,toNatUp]; try rfl) (by simp only[ae,aa,seval,iteOmega,toNatUp])
  | succ n =>
    rw[hn] at c;have c:ij Tryz.prog G _ [.c (.d (.sl (l.map bD))),.c (.cf 95 [] [.p 1 1 0 0])] [(1,.box [.nil])] (.w (.c (.d (.int .i64 e)))) [(1,.box [.own 3 1 0 ((eQ l (n+1)).map zD).length]),(3,.row 1 ((eQ l (n+1)).map zD))]:=c;by_cases he:e=0
    ·rw[if_pos he];have he':(e=0)=True:=eq_true he;simp only[r7,af,gr,fC,ae,aa,seval,iteOmega,toNatUp];refine mb [.c (.d (.sl (l.map bD))),.c (.cf 95 [] [.p 32 1 0 0])] [(1,32),(3,1000)] c ?_ ?_ ?_ rfl rfl ?_
     ·simp only[ae,aa,seval,iteOmega,toNatUp]
     ·simp only[ae,aa,seval,iteOmega,toNatUp,ce]
     ·simp only[wx,aj,ar,aa,seval,iteOmega,toNatUp,ce]
     ·simp only[ce,ae,aa,seval,iteOmega,toNatUp,he'];rw[he];exact dk (by simp only[ae,aa,seval,iteOmega,toNatUp]; try rfl) (by simp only[ae,aa,seval,iteOmega,toNatUp])
    ·rw[if_neg he];have he':(e=0)=False:=eq_false he;simp only[r7,af,gr,fC,ae,aa,seval,iteOmega,toNatUp];refine mb [.c (.d (.sl (l.map bD))),.c (.cf 95 [] [.p 32 1 0 0])] [(1,32),(3,1000)] c ?_ ?_ ?_ rfl rfl ?_
     ·simp only[ae,aa,seval,iteOmega,toNatUp]
     ·simp only[ae,aa,seval,iteOmega,toNatUp,ce]
     ·simp only[wx,aj,ar,aa,seval,iteOmega,toNatUp,ce]
     ·simp only[ce,ae,aa,seval,iteOmega,toNatUp,he'];exact dk (by simp only[ae,aa,seval,iteOmega,toNatUp]; try rfl) (by simp only[ae,aa,seval,iteOmega,toNatUp])
def fp:aG:=⟨1,61,.seq (.reg [oO 1 (.box .roBox (.t 0)),oO 2 (.mv (kI 0))]) (.seq (.seq (.reg [oO 3 (.fieldAddr 0 (.t 1)),oO 4 (.load .sc (.t 3)),oO 5 (.bin .lss (.t 4) (kI 0)),oM 6 5,oG 7 (.fieldAddr 0 (.t 1)) 6 false,oG 8 (.load .sc (.t 7)) 6 false,oG 9 (.bin .gtr (.t 8) (kI 3)) 6 false,oO 10 (.pick (.t 6) (.k (.c (.d (.bool true)))) (.t 9)),oM 11 10,oG 12 (.fieldAddr 1 (.t 1)) 11 false,oG 13 (.load .sc (.t 12)) 11 false,oG 14 (.bin .neq (.t 13) (kI 3)) 11 false,oG 15 (.mv (.t 14)) 11 false,oG 16 (.fieldAddr 1 (.t 1)) 15 true,oG 17 (.load .sc (.t 16)) 15 true,oG 18 (.bin .neq (.t 17) (kI 4)) 15 true,oG 19 (.pick (.t 15) (.t 18) (.k (.c (.d (.bool false))))) 11 false,oO 20 (.pick (.t 11) (.k (.c (.d (.bool true)))) (.t 19)),oM 21 20,oG 22 (.fieldAddr 2 (.t 1)) 21 false,oG 23 (.load .sc (.t 22)) 21 false,
 oG 24 (.bin .lss (.t 23) (kI 0)) 21 false,oO 25 (.pick (.t 21) (.k (.c (.d (.bool true)))) (.t 24)),oM 26 25,oG 27 (.fieldAddr 2 (.t 1)) 26 false,oG 28 (.load .sc (.t 27)) 26 false,oG 29 (.bin .gtr (.t 28) (kI 7)) 26 false,oO 30 (.pick (.t 26) (.k (.c (.d (.bool true)))) (.t 29)),oM 31 30,oG 32 (.fieldAddr 3 (.t 1)) 31 false,oG 33 (.load .sc (.t 32)) 31 false,oG 34 (.bin .lss (.t 33) (kI 0)) 31 false,oO 35 (.pick (.t 31) (.k (.c (.d (.bool true)))) (.t 34)),oM 36 35,oG 37 (.fieldAddr 3 (.t 1)) 36 false,oG 38 (.load .sc (.t 37)) 36 false,oG 39 (.bin .gtr (.t 38) (kI 255)) 36 false,oO 40 (.pick (.t 36) (.k (.c (.d (.bool true)))) (.t 39)),oM 41 40,oG 42 (.fieldAddr 4 (.t 1)) 41 false,oG 43 (.load .sc (.t 42)) 41 false,oG 44 (.bin .lss (.t 43) (.k (.c (.d (.int .i64 (-128)))))) 41 false,oO 45 (.pick (.t 41) (.k (.c (.d (.bool true)))) (.t 44)),
 oM 46 45,oG 47 (.fieldAddr 4 (.t 1)) 46 false,oG 48 (.load .sc (.t 47)) 46 false,oG 49 (.bin .gtr (.t 48) (kI 127)) 46 false,oO 50 (.pick (.t 46) (.k (.c (.d (.bool true)))) (.t 49)),oM 51 50,oG 52 (.fieldAddr 5 (.t 1)) 51 false,oG 53 (.load .sc (.t 52)) 51 false,oG 54 (.bin .lss (.t 53) (.k (.c (.d (.int .i64 (-128)))))) 51 false,oO 55 (.pick (.t 51) (.k (.c (.d (.bool true)))) (.t 54)),oM 56 55,oG 57 (.fieldAddr 5 (.t 1)) 56 false,oG 58 (.load .sc (.t 57)) 56 false,oG 59 (.bin .gtr (.t 58) (kI 127)) 56 false,oO 60 (.pick (.t 56) (.k (.c (.d (.bool true)))) (.t 59))]) (.cond (.t 60) (.seq (.reg [oO 2 (.mv (kI 4))]) (.ret)) (.skip))) (.seq (.reg [oO 2 (.mv (kI 0))]) (.ret))),[(2,none)]⟩
theorem Wk:aF Tryz.prog { own:=[],comp:=[],frz:=[],nils:=[] } Tryz.f43=some fp:=by kernel_rfl
theorem Zb (G:ah) (h:Hd):aB Tryz.prog G 43 [cM h] (.w (.c (.d (.int .i64 (fj h))))):=by
  refine aI Tryz.func43 Wk rfl rfl ?_;have bad:¬ ly h→fj h=4:=fun k=>by unfold fj jl; rw[decide_eq_false k]; rfl
  have good:ly h→fj h=0:=fun k=>by unfold fj jl; rw[decide_eq_true k]; rfl
  unfold ly at bad good;unfold cM;by_cases h1:h.lp<0
  ·rw[bad (by omega)]; clear bad good
   simp only[fp,af,ae,aa,seval,iteOmega,toNatUp];exact aM
  by_cases h2:h.lp>3
  ·rw[bad (by omega)]; clear bad good
   simp only[fp,af,ae,aa,seval,iteOmega,toNatUp];exact aM
  by_cases h3:h.vr=3
  ·by_cases h4:h.md<0
   ·rw[bad (by omega)]; clear bad good
    simp only[fp,af,ae,aa,seval,iteOmega,toNatUp];exact aM
   by_cases h5:h.md>7
   ·rw[bad (by omega)]; clear bad good
    simp only[fp,af,ae,aa,seval,iteOmega,toNatUp];exact aM
   by_cases h6:h.st<0
   ·rw[bad (by omega)]; clear bad good
    simp only[fp,af,ae,aa,seval,iteOmega,toNatUp];exact aM
   by_cases h7:h.st>255
   ·rw[bad (by omega)]; clear bad good
    simp only[fp,af,ae,aa,seval,iteOmega,toNatUp];exact aM
   by_cases h8:h.pl < -128
   ·rw[bad (by omega)]; clear bad good
    simp only[fp,af,ae,aa,seval,iteOmega,toNatUp];exact aM
   by_cases h9:h.pl>127
   ·rw[bad (by omega)]; clear bad good
    simp only[fp,af,ae,aa,seval,iteOmega,toNatUp];exact aM
   by_cases hA:h.pr < -128
   ·rw[bad (by omega)]; clear bad good
    simp only[fp,af,ae,aa,seval,iteOmega,toNatUp];exact aM
   by_cases hB:h.pr>127
   ·rw[bad (by omega)]; clear bad good
    simp only[fp,af,ae,aa,seval,iteOmega,toNatUp];exact aM
   ·rw[good (by omega)]; clear bad good
    simp only[fp,af,ae,aa,seval,iteOmega,toNatUp];exact aM
  by_cases h3':h.vr=4
  ·obtain⟨lp,vr,md,st,pl,pr,rd,rp,ri,rf,og,rc,tr⟩:=h;simp only at h1 h2 h3 h3' bad good;subst h3';clear h3;dsimp only;by_cases h4:md<0
   ·rw[bad (by omega)]; clear bad good
    simp only[fp,af,ae,aa,seval,iteOmega,toNatUp];exact aM
   by_cases h5:md>7
   ·rw[bad (by omega)]; clear bad good
    simp only[fp,af,ae,aa,seval,iteOmega,toNatUp];exact aM
   by_cases h6:st<0
   ·rw[bad (by omega)]; clear bad good
    simp only[fp,af,ae,aa,seval,iteOmega,toNatUp];exact aM
   by_cases h7:st>255
   ·rw[bad (by omega)]; clear bad good
    simp only[fp,af,ae,aa,seval,iteOmega,toNatUp];exact aM
   by_cases h8:pl < -128
   ·rw[bad (by omega)]; clear bad good
    simp only[fp,af,ae,aa,seval,iteOmega,toNatUp];exact aM
   by_cases h9:pl>127
   ·rw[bad (by omega)]; clear bad good
    simp only[fp,af,ae,aa,seval,iteOmega,toNatUp];exact aM
   by_cases hA:pr < -128
   ·rw[bad (by omega)]; clear bad good
    simp only[fp,af,ae,aa,seval,iteOmega,toNatUp];exact aM
   by_cases hB:pr>127
   ·rw[bad (by omega)]; clear bad good
    simp only[fp,af,ae,aa,seval,iteOmega,toNatUp];exact aM
   ·rw[good (by omega)]; clear bad good
    simp only[fp,af,ae,aa,seval,iteOmega,toNatUp];exact aM
  ·rw[bad (by omega)]; clear bad good
   simp only[fp,af,ae,aa,seval,iteOmega,toNatUp];exact aM
def KZ:aG:=⟨1,5,.seq (.reg [oO 2 (.alloc [(.d (.int .i64 0)),(.d (.int .i64 0)),(.d (.int .i64 0)),(.d (.int .i64 0)),(.d (.int .i64 0)),(.d (.int .i64 0)),(.d (.int .u32 0)),(.d (.int .u32 0)),(.d (.int .u32 0)),(.d (.int .u64 0)),(.d (.int .u64 0)),(.d (.int .u64 0)),(.d (.int .u64 0))])]) (.seq (.reg [oM 3 0,oO 4 (.build [(.d (.int .i64 0)),(.d (.int .i64 0)),(.d (.int .i64 0)),(.d (.int .i64 0)),(.d (.int .i64 0)),(.d (.int .i64 0)),(.d (.int .u32 0)),(.d (.int .u32 0)),(.d (.int .u32 0)),(.d (.int .u64 0)),(.d (.int .u64 0)),(.d (.int .u64 0)),(.d (.int .u64 0))] [(1,1,(kI 4)),(2,1,(kI 3)),(4,1,(kI 6)),(12,1,(.t 3))]),oN (.store (.ag 13) (.t 2) (.t 4))]) (.ret)),[(2,(some (.ag 13)))]⟩
theorem Wl:aF Tryz.prog { own:=[],comp:=[],frz:=[],nils:=[] } Tryz.f19=some KZ:=by kernel_rfl
theorem Zc (G:ah) (t:Nat):aB Tryz.prog G 19 [.int .u64 (t:Int)] (.w (.c (.d (cM (fe t))))):=by
  refine aI Tryz.func19 Wl rfl rfl ?_;unfold cM fe;simp only[KZ,af,ae,aa,seval,iteOmega,toNatUp];exact aM
def pC:aG:=⟨4,38,.seq (.reg [oO 4 (.box .roBox (.t 0)),oO 8 (.alloc [(.d (.int .i64 0)),(.d (.int .i64 0)),(.d (.int .i64 0)),(.d (.int .i64 0)),(.d (.int .i64 0)),(.d (.int .i64 0)),(.d (.int .u32 0)),(.d (.int .u32 0)),(.d (.int .u32 0)),(.d (.int .u64 0)),(.d (.int .u64 0)),(.d (.int .u64 0)),(.d (.int .u64 0))]),oO 9 (.mv (kI 0))]) (.seq (.seq (.reg [oO 11 (.load (.ag 13) (.t 4)),oO 12 (.call 43 [(.t 11)] none),oM 10 12]) (.seq (.reg [oM 13 10,oO 14 (.bin .neq (.t 13) (kI 0))]) (.cond (.t 14) (.seq (.reg [oO 15 (.build [(.d (.int .i64 0)),(.d (.int .i64 0)),(.d (.int .i64 0)),(.d (.int .i64 0)),(.d (.int .i64 0)),(.d (.int .i64 0)),(.d (.int .u32 0)),(.d (.int .u32 0)),(.d (.int .u32 0)),(.d (.int .u64 0)),(.d (.int .u64 0)),(.d (.int .u64 0)),(.d (.int .u64 0))] []),oM 16 10,oN (.store (.ag 13) (.t 8) (.t 15)),
 oM 9 16]) (.ret)) (.skip)))) (.seq (.seq (.reg [oO 17 (.fieldAddr 2 (.t 4)),oO 18 (.load .sc (.t 17)),oO 19 (.bin .neq (.t 18) (kI 3))]) (.cond (.t 19) (.seq (.reg [oO 20 (.build [(.d (.int .i64 0)),(.d (.int .i64 0)),(.d (.int .i64 0)),(.d (.int .i64 0)),(.d (.int .i64 0)),(.d (.int .i64 0)),(.d (.int .u32 0)),(.d (.int .u32 0)),(.d (.int .u32 0)),(.d (.int .u64 0)),(.d (.int .u64 0)),(.d (.int .u64 0)),(.d (.int .u64 0))] []),oN (.store (.ag 13) (.t 8) (.t 20)),oO 9 (.mv (kI 3))]) (.ret)) (.skip))) (.seq (.seq (.reg [oM 21 1,oO 22 (.bin .lss (.t 21) (kI 0)),oM 23 22,oG 24 (.mv (.t 1)) 23 false,oG 25 (.bin .gtr (.t 24) (kI 255)) 23 false,oO 26 (.pick (.t 23) (.k (.c (.d (.bool true)))) (.t 25))]) (.cond (.t 26) (.seq (.reg [oO 27 (.build [(.d (.int .i64 0)),(.d (.int .i64 0)),(.d (.int .i64 0)),(.d (.int .i64 0)),(.d (.int .i64 0)),(.d (.int .i64 0)),(.d (.int .u32 0)),(.d (.int .u32 0)),(.d (.int .u32 0)),(.d (.int .u64 0)),(.d (.int .u64 0)),(.d (.int .u64 0)),(.d (.int .u64 0))] []),
 oN (.store (.ag 13) (.t 8) (.t 27)),oO 9 (.mv (kI 4))]) (.ret)) (.skip))) (.seq (.reg [oO 28 (.fieldAddr 1 (.t 4)),oO 29 (.load .sc (.t 28)),oM 30 1,oO 31 (.fieldAddr 4 (.t 4)),oO 32 (.load .sc (.t 31)),oO 33 (.fieldAddr 12 (.t 4)),oO 34 (.load .sc (.t 33)),oM 35 2,oM 36 3,oO 37 (.build [(.d (.int .i64 0)),(.d (.int .i64 0)),(.d (.int .i64 0)),(.d (.int .i64 0)),(.d (.int .i64 0)),(.d (.int .i64 0)),(.d (.int .u32 0)),(.d (.int .u32 0)),(.d (.int .u32 0)),(.d (.int .u64 0)),(.d (.int .u64 0)),(.d (.int .u64 0)),(.d (.int .u64 0))] [(1,1,(.t 29)),(2,1,(kI 4)),(3,1,(.t 30)),(4,1,(.t 32)),(5,1,(.k (.c (.d (.int .i64 (-20)))))),(10,1,(.t 34)),(11,1,(.t 35)),(12,1,(.t 36))]),oN (.store (.ag 13) (.t 8) (.t 37)),oO 9 (.mv (kI 0))]) (.ret))))),[(8,(some (.ag 13))),(9,none)]⟩
theorem Wm:aF Tryz.prog { own:=[],comp:=[],frz:=[],nils:=[] } Tryz.f18=some pC:=by kernel_rfl
theorem Zd (G:ah) (q:Hd) (st:Int) (rc tr:Nat):aB Tryz.prog G 18 [cM q,.int .i64 st,.int .u64 (rc:Int),.int .u64 (tr:Int)] (.tup [.c (.d (cM (ov q st rc tr))),.c (.d (.int .i64 (jm q st)))]):=by
  refine aI Tryz.func18 Wm rfl rfl ?_;have c1:=Zb G q;unfold fj at c1;cases hv:jl q
  ·rw[hv,if_neg (by decide:¬ false=true)] at c1;have he:jm q st=4:=by unfold jm; rw[hv]; rfl
   unfold ov;rw[he,if_neg (by decide:¬ (4:Int)=0)];unfold cM Hd.z at *
   simp only[pC,af,ae,aa,seval,iteOmega,toNatUp];refine sD (c1) ?_;exact cI
  ·rw[hv,if_pos rfl] at c1;by_cases hm:q.md=3
   ·by_cases s1:st<0
    ·have he:jm q st=4:=by unfold jm; rw[if_pos hv,if_pos hm,if_neg (by omega)]
     unfold ov;rw[he,if_neg (by decide:¬ (4:Int)=0)];unfold cM Hd.z at *
     simp only[pC,af,ae,aa,seval,iteOmega,toNatUp];refine sD (c1) ?_;exact cI
    ·by_cases s2:st>255
     ·have he:jm q st=4:=by unfold jm; rw[if_pos hv,if_pos hm,if_neg (by omega)]
      unfold ov;rw[he,if_neg (by decide:¬ (4:Int)=0)];unfold cM Hd.z at *
      simp only[pC,af,ae,aa,seval,iteOmega,toNatUp];refine sD (c1) ?_;exact cI
     ·have he:jm q st=0:=by unfold jm; rw[if_pos hv,if_pos hm,if_pos (by omega)]
      unfold ov;rw[he,if_pos rfl];unfold cM at *
      simp only[pC,af,ae,aa,seval,iteOmega,toNatUp];refine sD (c1) ?_;exact cI
   ·have he:jm q st=3:=by unfold jm; rw[if_pos hv,if_neg hm]
    unfold ov;rw[he,if_neg (by decide:¬ (3:Int)=0)];unfold cM Hd.z at *
    simp only[pC,af,ae,aa,seval,iteOmega,toNatUp];refine sD (c1) ?_;exact cI
def AS:aG:=⟨1,10,.seq (.reg [oO 2 (.mv (kI 0))]) (.seq (.seq (.reg [oM 3 0,oO 4 (.bin .gtr (.t 3) (.k (.c (.d (.int .u8 127)))))]) (.cond (.t 4) (.seq (.reg [oM 5 0,oO 6 (.conv .i64 (.t 5)),oO 7 (.bin .sub (.t 6) (kI 256)),oM 2 7]) (.ret)) (.skip))) (.seq (.reg [oM 8 0,oO 9 (.conv .i64 (.t 8)),oM 2 9]) (.ret))),[(2,none)]⟩
theorem Wn:aF Tryz.prog { own:=[],comp:=[],frz:=[],nils:=[] } Tryz.f119=some AS:=by kernel_rfl
theorem NP (G:ah) (b:UInt8):aB Tryz.prog G 119 [.int .u8 (b.toNat:Int)] (.w (.c (.d (.int .i64 (iZ b))))):=by
  refine aI Tryz.func119 Wn rfl rfl ?_;have hb:=b.toNat_lt;unfold iZ;generalize b.toNat=n at *
  by_cases h:n>127
  ·have h':(n:Int)>127:=by omega
   rw[if_pos h];simp only[AS,af,ae,aa,seval,iteOmega,toNatUp];exact aM
  ·have h':¬ (n:Int)>127:=by omega
   rw[if_neg h];simp only[AS,af,ae,aa,seval,iteOmega,toNatUp];exact aM
theorem aaL:∀ m:Fin 256,bits .and .u8 (m.val:Int) 7=((m.val%8:Nat):Int):=by decide +kernel
theorem K0 {m:Nat} (h:m<256):bits .and .u8 (m:Int) 7=((m%8:Nat):Int):=aaL ⟨m,h⟩
theorem xO {l:List UInt8} {i n:Nat} (h:i<l.length) (hn:(l.getD i 0).toNat=n):(l.map bD)[i]?=some (.int .u8 (n:Int)):=by
  rw[acG,abF h,← hn,abI,abF h];rfl
def pD:aG:=⟨1,81,.seq (.reg [oO 2 (.alloc [(.d (.int .i64 0)),(.d (.int .i64 0)),(.d (.int .i64 0)),(.d (.int .i64 0)),(.d (.int .i64 0)),(.d (.int .i64 0)),(.d (.int .u32 0)),(.d (.int .u32 0)),(.d (.int .u32 0)),(.d (.int .u64 0)),(.d (.int .u64 0)),(.d (.int .u64 0)),(.d (.int .u64 0))]),oO 3 (.mv (.k (.c .nil))),oO 4 (.mv (kI 0))]) (.seq (.seq (.reg [oM 6 0,oO 7 (.len (.t 6)),oO 8 (.bin .lss (.t 7) (kI 48))]) (.cond (.t 8) (.seq (.reg [oO 9 (.build [(.d (.int .i64 0)),(.d (.int .i64 0)),(.d (.int .i64 0)),(.d (.int .i64 0)),(.d (.int .i64 0)),(.d (.int .i64 0)),(.d (.int .u32 0)),(.d (.int .u32 0)),(.d (.int .u32 0)),(.d (.int .u64 0)),(.d (.int .u64 0)),(.d (.int .u64 0)),(.d (.int .u64 0))] []),oN (.store (.ag 13) (.t 2) (.t 9)),oO 3 (.mv (.k (.c .nil))),oO 4 (.mv (kI 1))]) (.ret))
 (.skip))) (.seq (.seq (.reg [oM 10 0,oO 11 (.len (.t 10)),oO 12 (.bin .gtr (.t 11) (kI 1280))]) (.cond (.t 12) (.seq (.reg [oO 13 (.build [(.d (.int .i64 0)),(.d (.int .i64 0)),(.d (.int .i64 0)),(.d (.int .i64 0)),(.d (.int .i64 0)),(.d (.int .i64 0)),(.d (.int .u32 0)),(.d (.int .u32 0)),(.d (.int .u32 0)),(.d (.int .u64 0)),(.d (.int .u64 0)),(.d (.int .u64 0)),(.d (.int .u64 0))] []),oN (.store (.ag 13) (.t 2) (.t 13)),oO 3 (.mv (.k (.c .nil))),oO 4 (.mv (kI 2))]) (.ret)) (.skip))) (.seq (.reg [oM 14 0,oO 15 (.idxSl 1 (.t 14) (kI 0)),oO 16 (.load .sc (.t 15)),oO 17 (.bin .shr (.t 16) (.k (.c (.d (.int .u64 6))))),oO 18 (.conv .i64 (.t 17)),oM 19 0,oO 20 (.idxSl 1 (.t 19) (kI 0)),oO 21 (.load .sc (.t 20)),oO 22 (.bin .shr (.t 21) (.k (.c (.d (.int .u64 3))))),oO 23 (.bin .and (.t 22) (.k (.c (.d (.int .u8 7))))),
 oO 24 (.conv .i64 (.t 23)),oM 25 0,oO 26 (.idxSl 1 (.t 25) (kI 0)),oO 27 (.load .sc (.t 26)),oO 28 (.bin .and (.t 27) (.k (.c (.d (.int .u8 7))))),oO 29 (.conv .i64 (.t 28)),oM 30 0,oO 31 (.idxSl 1 (.t 30) (kI 1)),oO 32 (.load .sc (.t 31)),oO 33 (.conv .i64 (.t 32)),oM 34 0,oO 35 (.idxSl 1 (.t 34) (kI 2)),oO 36 (.load .sc (.t 35)),oO 37 (.call 119 [(.t 36)] none),oM 38 0,oO 39 (.idxSl 1 (.t 38) (kI 3)),oO 40 (.load .sc (.t 39)),oO 41 (.call 119 [(.t 40)] none),oM 42 0,oO 43 (.slice 1 (.t 42) (some (kI 4)) (some (kI 8)) none),oO 44 (.call 100 [(.t 43)] none),oO 45 (.conv .u32 (.t 44)),oM 46 0,oO 47 (.slice 1 (.t 46) (some (kI 8)) (some (kI 12)) none),oO 48 (.call 100 [(.t 47)] none),oO 49 (.conv .u32 (.t 48)),oM 50 0,oO 51 (.slice 1 (.t 50) (some (kI 12)) (some (kI 16)) none),oO 52 (.call 100 [(.t 51)] none),
 oO 53 (.conv .u32 (.t 52)),oM 54 0,oO 55 (.slice 1 (.t 54) (some (kI 16)) (some (kI 24)) none),oO 56 (.call 100 [(.t 55)] none),oM 57 0,oO 58 (.slice 1 (.t 57) (some (kI 24)) (some (kI 32)) none),oO 59 (.call 100 [(.t 58)] none),oM 60 0,oO 61 (.slice 1 (.t 60) (some (kI 32)) (some (kI 40)) none),oO 62 (.call 100 [(.t 61)] none),oM 63 0,oO 64 (.slice 1 (.t 63) (some (kI 40)) (some (kI 48)) none),oO 65 (.call 100 [(.t 64)] none),oO 66 (.build [(.d (.int .i64 0)),(.d (.int .i64 0)),(.d (.int .i64 0)),(.d (.int .i64 0)),(.d (.int .i64 0)),(.d (.int .i64 0)),(.d (.int .u32 0)),(.d (.int .u32 0)),(.d (.int .u32 0)),(.d (.int .u64 0)),(.d (.int .u64 0)),(.d (.int .u64 0)),(.d (.int .u64 0))] [(0,1,(.t 18)),(1,1,(.t 24)),(2,1,(.t 29)),(3,1,(.t 33)),(4,1,(.t 37)),(5,1,(.t 41)),(6,1,(.t 45)),(7,1,(.t 49)),(8,1,(.t 53)),(9,1,(.t 56)),(10,1,(.t 59)),(11,1,(.t 62)),(12,1,(.t 65))]),
 oO 5 (.alloc [(.d (.int .i64 0)),(.d (.int .i64 0)),(.d (.int .i64 0)),(.d (.int .i64 0)),(.d (.int .i64 0)),(.d (.int .i64 0)),(.d (.int .u32 0)),(.d (.int .u32 0)),(.d (.int .u32 0)),(.d (.int .u64 0)),(.d (.int .u64 0)),(.d (.int .u64 0)),(.d (.int .u64 0))]),oN (.store (.ag 13) (.t 5) (.t 66))]) (.seq (.seq (.reg [oO 67 (.fieldAddr 1 (.t 5)),oO 68 (.load .sc (.t 67)),oO 69 (.bin .neq (.t 68) (kI 3)),oM 70 69,oG 71 (.fieldAddr 1 (.t 5)) 70 true,oG 72 (.load .sc (.t 71)) 70 true,oG 73 (.bin .neq (.t 72) (kI 4)) 70 true,oO 74 (.pick (.t 70) (.t 73) (.k (.c (.d (.bool false)))))]) (.cond (.t 74) (.seq (.reg [oO 75 (.build [(.d (.int .i64 0)),(.d (.int .i64 0)),(.d (.int .i64 0)),(.d (.int .i64 0)),(.d (.int .i64 0)),(.d (.int .i64 0)),(.d (.int .u32 0)),(.d (.int .u32 0)),(.d (.int .u32 0)),(.d (.int .u64 0)),(.d (.int .u64 0)),(.d (.int .u64 0)),(.d (.int .u64 0))] []),
 oN (.store (.ag 13) (.t 2) (.t 75)),oO 3 (.mv (.k (.c .nil))),oO 4 (.mv (kI 3))]) (.ret)) (.skip))) (.seq (.reg [oO 76 (.load (.ag 13) (.t 5)),oM 77 0,oO 78 (.slice 1 (.t 77) (some (kI 48)) none none),oO 79 (.bldSl false 1 1 (.sl []) [(0,(.t 78))]),oO 80 (.call 41 [(.t 79)] (some (0,1))),oN (.store (.ag 13) (.t 2) (.t 76)),oM 3 80,oO 4 (.mv (kI 0))]) (.ret)))))),[(2,(some (.ag 13))),(3,none),(4,none)]⟩
theorem Wo:aF Tryz.prog { own:=[80],comp:=[],frz:=[],nils:=[] } Tryz.f99=some pD:=by kernel_rfl
theorem Ze (G:ah) (l:List UInt8) (hl:l.length≤9223372036854775807):aB Tryz.prog G 99 [.sl (l.map bD)] (.tup [.c (.d (cM (ot l))),.c (.d (.sl ((ou l).map bD))),.c (.d (.int .i64 (dJ l)))]):=by
  refine aI Tryz.func99 Wo rfl rfl ?_;unfold ot ou;by_cases h1:l.length<48
  ·rw[show dJ l=1 from if_pos h1,if_neg (by decide),if_neg (by decide)];unfold cM Hd.z;simp only[pD,af,ae,aa,seval,iteOmega,toNatUp];exact fT (by simp only[ae,aa,seval,iteOmega,toNatUp]) (by simp only[ae,aa,seval,iteOmega,toNatUp] <;> rfl) (by simp only[ae,aa,seval,iteOmega,toNatUp])
  by_cases h2:1280<l.length
  ·rw[show dJ l=2 from (if_neg h1).trans (if_pos h2),if_neg (by decide),if_neg (by decide)];unfold cM Hd.z;simp only[pD,af,ae,aa,seval,iteOmega,toNatUp];exact fT (by simp only[ae,aa,seval,iteOmega,toNatUp]) (by simp only[ae,aa,seval,iteOmega,toNatUp] <;> rfl) (by simp only[ae,aa,seval,iteOmega,toNatUp])
  have hh:∀ a n,a+n≤48→(aK l a n).length≤9223372036854775807:=fun a n h=>by rw[dj (by omega)]; omega
  have c4:=ka G (aK l 4 4) (hh _ _ (by decide));have c5:=ka G (aK l 8 4) (hh _ _ (by decide));have c6:=ka G (aK l 12 4) (hh _ _ (by decide));have c7:=ka G (aK l 16 8) (hh _ _ (by decide));have c8:=ka G (aK l 24 8) (hh _ _ (by decide));have c9:=ka G (aK l 32 8) (hh _ _ (by decide));have cA:=ka G (aK l 40 8) (hh _ _ (by decide));have s2:=NP G (l.getD 2 0);have s3:=NP G (l.getD 3 0);have cj:=fR G [l.drop 48] (by simp) (by simp; omega);simp only[abK,abS,acn,acp,abP] at cj;have et:(l.drop 48).take (l.length-48)=l.drop 48:=abH (by simp);have q4:=(iL 4 (aK l 4 4) (dj (by omega)) (by decide)).1;have q5:=(iL 4 (aK l 8 4) (dj (by omega)) (by decide)).1;have q6:=(iL 4 (aK l 12 4) (dj (by omega)) (by decide)).1;have b0:=(l.getD 0 0).toNat_lt;have b1:=(l.getD 1 0).toNat_lt;have i2:=vI (l.getD 2 0);have i3:=vI (l.getD 3 0);have he:dJ l=if (bS l).vr=3∨(bS l).vr=4 then 0 else 3:=by
    unfold dJ;rw[if_neg h1,if_neg h2]
  rw[he];unfold bS cM;dsimp only;generalize iZ (l.getD 2 0)=S2 at *
  generalize iZ (l.getD 3 0)=S3 at *
  obtain⟨N0,Dm⟩:∃ n,(l.getD 0 0).toNat=n:=⟨_,rfl⟩
  obtain⟨N1,hN1⟩:∃ n,(l.getD 1 0).toNat=n:=⟨_,rfl⟩
  obtain⟨N2,hN2⟩:∃ n,(l.getD 2 0).toNat=n:=⟨_,rfl⟩
  obtain⟨N3,hN3⟩:∃ n,(l.getD 3 0).toNat=n:=⟨_,rfl⟩
  have g0:=xO (l:=l) (i:=0) (by omega) Dm;have g1:=xO (l:=l) (i:=1) (by omega) hN1;have g2:=xO (l:=l) (i:=2) (by omega) hN2;have g3:=xO (l:=l) (i:=3) (by omega) hN3;rw[Dm] at b0 ⊢;rw[hN1] at b1 ⊢;rw[hN2] at s2;rw[hN3] at s3;generalize hX4:aK l 4 4=X4 at *
  generalize hX5:aK l 8 4=X5 at *
  generalize hX6:aK l 12 4=X6 at *
  generalize hX7:aK l 16 8=X7 at *
  generalize hX8:aK l 24 8=X8 at *
  generalize hX9:aK l 32 8=X9 at *
  generalize hXA:aK l 40 8=XA at *
  unfold aK at hX4 hX5 hX6 hX7 hX8 hX9 hXA;generalize hR:l.drop 48=R at *
  generalize be X4=N4 at *
  generalize be X5=N5 at *
  generalize be X6=N6 at *
  generalize be X7=N7 at *
  generalize be X8=N8 at *
  generalize be X9=N9 at *
  generalize be XA=NA at *
  have a1:=K0 (m:=N0 / 8) (by omega);have a2:=K0 b0;have d1:(N0:Int) / 64=((N0 / 64:Nat):Int):=(Int.natCast_ediv N0 64).symm;have d2:(N0:Int) / 8=((N0 / 8:Nat):Int):=(Int.natCast_ediv N0 8).symm;generalize hV:N0 / 8%8=V at *
  by_cases v3:(V:Int)=3
  ·have hz:(if (V:Int)=3∨(V:Int)=4 then (0:Int) else 3)=0:=if_pos (Or.inl v3);simp only[hz,if_true];simp only[pD,af,ae,aa,seval,iteOmega,toNatUp,IntKind.bits,g0,g1,g2,g3,d1,d2,a1,a2];refine sC (s2) ?_;simp only[g3,ae,aa,seval,iteOmega,toNatUp];refine sC (s3) ?_;simp only[hX4,ae,aa,seval,iteOmega,toNatUp];refine sC (c4) ?_;simp only[hX5,ae,aa,seval,iteOmega,toNatUp];refine sC (c5) ?_;simp only[hX6,ae,aa,seval,iteOmega,toNatUp];refine sC (c6) ?_;simp only[hX7,ae,aa,seval,iteOmega,toNatUp];refine sC (c7) ?_;simp only[hX8,ae,aa,seval,iteOmega,toNatUp];refine sC (c8) ?_;simp only[hX9,ae,aa,seval,iteOmega,toNatUp];refine sC (c9) ?_;simp only[hXA,ae,aa,seval,iteOmega,toNatUp];refine sC (cA) ?_;simp only[hR,et,ae,aa,seval,iteOmega,toNatUp];refine sD (cj) ?_;exact cN
  ·by_cases v4:(V:Int)=4
   ·have hz:(if (V:Int)=3∨(V:Int)=4 then (0:Int) else 3)=0:=if_pos (Or.inr v4);simp only[hz,if_true];simp only[pD,af,ae,aa,seval,iteOmega,toNatUp,IntKind.bits,g0,g1,g2,g3,d1,d2,a1,a2];refine sC (s2) ?_;simp only[g3,ae,aa,seval,iteOmega,toNatUp];refine sC (s3) ?_;simp only[hX4,ae,aa,seval,iteOmega,toNatUp];refine sC (c4) ?_;simp only[hX5,ae,aa,seval,iteOmega,toNatUp];refine sC (c5) ?_;simp only[hX6,ae,aa,seval,iteOmega,toNatUp];refine sC (c6) ?_;simp only[hX7,ae,aa,seval,iteOmega,toNatUp];refine sC (c7) ?_;simp only[hX8,ae,aa,seval,iteOmega,toNatUp];refine sC (c8) ?_;simp only[hX9,ae,aa,seval,iteOmega,toNatUp];refine sC (c9) ?_;simp only[hXA,ae,aa,seval,iteOmega,toNatUp];refine sC (cA) ?_;simp only[hR,et,ae,aa,seval,iteOmega,toNatUp];refine sD (cj) ?_;exact cN
   ·have hz:(if (V:Int)=3∨(V:Int)=4 then (0:Int) else 3)=3:=if_neg (fun h=>h.elim v3 v4);simp only[hz,show ((3:Int)=0)=False from by decide,if_false];unfold Hd.z;simp only[pD,af,ae,aa,seval,iteOmega,toNatUp,IntKind.bits,g0,g1,g2,g3,d1,d2,a1,a2];refine sC (s2) ?_;simp only[g3,ae,aa,seval,iteOmega,toNatUp];refine sC (s3) ?_;simp only[hX4,ae,aa,seval,iteOmega,toNatUp];refine sC (c4) ?_;simp only[hX5,ae,aa,seval,iteOmega,toNatUp];refine sC (c5) ?_;simp only[hX6,ae,aa,seval,iteOmega,toNatUp];refine sC (c6) ?_;simp only[hX7,ae,aa,seval,iteOmega,toNatUp];refine sC (c7) ?_;simp only[hX8,ae,aa,seval,iteOmega,toNatUp];refine sC (c8) ?_;simp only[hX9,ae,aa,seval,iteOmega,toNatUp];refine sC (c9) ?_;simp only[hXA,ae,aa,seval,iteOmega,toNatUp];refine sC (cA) ?_;simp only[hR,et,ae,aa,seval,iteOmega,toNatUp];exact fT (by simp only[ae,aa,seval,iteOmega,toNatUp]) (by simp only[ae,aa,seval,iteOmega,toNatUp] <;> rfl) (by simp only[ae,aa,seval,iteOmega,toNatUp])
theorem Zf (n:Nat):Int.tdiv (4+(n:Int)+3) 4=(((4+n+3) / 4:Nat):Int):=by
  rw[Int.tdiv_eq_ediv_of_nonneg (by omega)]; omega
def nM:aG:=⟨1,28,.seq (.reg [oO 1 (.box .roBox (.t 0)),oO 2 (.mv (kI 0)),oO 3 (.mv (kI 0))]) (.seq (.seq (.reg [oO 5 (.fieldAddr 0 (.t 1)),oO 6 (.load .sc (.t 5)),oO 7 (.bin .lss (.t 6) (kI 0)),oM 8 7,oG 9 (.fieldAddr 0 (.t 1)) 8 false,oG 10 (.load .sc (.t 9)) 8 false,oG 11 (.bin .gtr (.t 10) (kI 65535)) 8 false,oO 12 (.pick (.t 8) (.k (.c (.d (.bool true)))) (.t 11))]) (.cond (.t 12) (.seq (.reg [oO 2 (.mv (kI 0)),oO 3 (.mv (kI 4))]) (.ret)) (.skip))) (.seq (.seq (.reg [oO 13 (.fieldAddr 1 (.t 1)),oO 14 (.load .sc (.t 13)),oO 15 (.len (.t 14)),oO 16 (.bin .gtr (.t 15) (kI 1232))]) (.cond (.t 16) (.seq (.reg [oO 2 (.mv (kI 0)),oO 3 (.mv (kI 2))]) (.ret)) (.skip))) (.seq (.reg [oO 17 (.fieldAddr 1 (.t 1)),oO 18 (.load .sc (.t 17)),oO 19 (.len (.t 18)),oO 20 (.bin .add (kI 4) (.t 19)),
 oO 21 (.bin .add (.t 20) (kI 3)),oO 22 (.bin .quo (.t 21) (kI 4)),oO 23 (.bin .mul (.t 22) (kI 4)),oO 24 (.max [(kI 16),(.t 23)]),oM 4 24]) (.seq (.seq (.reg [oM 25 4,oO 26 (.bin .gtr (.t 25) (kI 1232))]) (.cond (.t 26) (.seq (.reg [oO 2 (.mv (kI 0)),oO 3 (.mv (kI 2))]) (.ret)) (.skip))) (.seq (.reg [oM 27 4,oM 2 27,oO 3 (.mv (kI 0))]) (.ret)))))),[(2,none),(3,none)]⟩
theorem Wp:aF Tryz.prog { own:=[],comp:=[],frz:=[],nils:=[] } Tryz.f86=some nM:=by kernel_rfl
theorem NQ (G:ah) (f:Fd):aB Tryz.prog G 86 [aL f] (.tup [.c (.d (.int .i64 (iK f:Int))),.c (.d (.int .i64 (ca f)))]):=by
  refine aI Tryz.func86 Wp rfl rfl ?_;unfold aL;rcases Int.lt_or_le f.ty 0 with h1 | h1
  ·obtain⟨e1,e2⟩:=wm (f:=f) (.inl h1);rw[e1,e2];simp only[nM,af,ae,aa,seval,iteOmega,toNatUp];exact cI
  ·rcases Int.lt_or_le 65535 f.ty with h2 | h2
   ·obtain⟨e1,e2⟩:=wm (f:=f) (.inr h2);rw[e1,e2];have g:(f.ty>65535)=True:=eq_true h2;simp only[nM,af,ae,aa,seval,iteOmega,toNatUp,g];exact cI
   ·have g:(f.ty>65535)=False:=eq_false (by omega);rcases ab1 1232 f.da.length with h0 | h0
    ·have h4:1232<bc f:=by have:=rY f; omega
     obtain⟨e1,e2⟩:=AJ h1 h2 h4;rw[e1,e2];have g0:((f.da.length:Int)>1232)=True:=eq_true (by omega);simp only[nM,af,ae,aa,seval,iteOmega,toNatUp,g,g0];exact cI
    ·have g0:((f.da.length:Int)>1232)=False:=eq_false (by omega);have hq:=Zf f.da.length;have hm:(((4+f.da.length+3) / 4:Nat):Int)*4=(((4+f.da.length+3) / 4*4:Nat):Int):=by omega
     have hb:(4+f.da.length+3) / 4≤1240:=by omega
     rcases ab1 16 ((4+f.da.length+3) / 4*4) with h3 | h3
     ·have hT:=Nk h3;rcases ab1 1232 (bc f) with h4 | h4
      ·obtain⟨e1,e2⟩:=AJ h1 h2 h4;rw[e1,e2];rw[hT] at h4;generalize (4+f.da.length+3) / 4=Y at *
       have g3:((Y:Int)*4>16)=True:=eq_true (by omega);have g4:((Y:Int)*4>1232)=True:=eq_true (by omega);simp only[nM,af,ae,aa,seval,iteOmega,toNatUp,g,g0,hq,g3,g4,acK,acX];exact cI
      ·obtain⟨e1,e2⟩:=mP h1 h2 h4;rw[e1,e2,hT];rw[hT] at h4;generalize (4+f.da.length+3) / 4=Y at *
       have g3:((Y:Int)*4>16)=True:=eq_true (by omega);have g4:((Y:Int)*4>1232)=False:=eq_false (by omega);simp only[nM,af,ae,aa,seval,iteOmega,toNatUp,g,g0,hq,g3,g4,acK,acX];exact cI
     ·have hT:=Nl h3;obtain⟨e1,e2⟩:=mP h1 h2 (by omega);rw[e1,e2,hT];generalize (4+f.da.length+3) / 4=Y at *
      have g3:((Y:Int)*4>16)=False:=eq_false (by omega);simp only[nM,af,ae,aa,seval,iteOmega,toNatUp,g,g0,hq,g3,acK,acX];exact cI
def qm (l:List Fd) (i:Nat):St:=⟨aT [(0,.w (.c (.d (.sl (l.map aL))))),(4,.w (.c (.d (.int .i64 (bB (l.take i):Int))))),(5,.w (.c (.d (.int .i64 (i:Int)))))],hL [],uL []⟩
def CB (l:List Fd) (i:Nat):St:=⟨aT [(0,.w (.c (.d (.sl (l.map aL))))),(8,.w (.c (.own 1 1 0 (aY (l.take i)).length))),(9,.w (.c (.d (.int .i64 (i:Int)))))],hL [(1,.row 1 ((aY (l.take i)).map bD))],uL [1]⟩
def CC (l:List Fd) (i:Nat) (n:Nat) (B A:List UInt8) (j:Nat):St:=⟨aT [(0,.w (.c (.d (.sl (l.map aL))))),(8,.w (.c (.own 1 1 0 A.length))),(9,.w (.c (.d (.int .i64 (i:Int))))),(10,.w (.c (.d (.int .i64 (n:Int))))),(12,.w (.c (.own 2 1 0 (B++List.replicate j 0).length)))],hL [(1,.row 1 (A.map bD)),(2,.row 1 ((B++List.replicate j 0).map bD))],uL [1,2]⟩
def oY:aS := .seq (.seq (.reg [oM 13 5,oM 14 0,oO 15 (.len (.t 14)),oO 16 (.bin .lss (.t 13) (.t 15))]) (.cond (.t 16) (.skip) (.exit 0))) (.seq (.block 1 (.seq (.reg [oM 20 0,oM 21 5,oO 22 (.idxSl 2 (.t 20) (.t 21)),oO 23 (.load (.ag 2) (.t 22)),oO 24 (.call 86 [(.t 23)] none),oM 19 24,oO 25 (.extract (.t 19) 0),oO 26 (.extract (.t 19) 1),oM 6 25,oM 7 26]) (.seq (.seq (.reg [oM 27 7,oO 28 (.bin .neq (.t 27) (kI 0))]) (.cond (.t 28) (.seq (.reg [oM 29 7,oO 2 (.mv (.k (.c .nil))),oM 3 29]) (.ret)) (.skip))) (.reg [oM 30 4,oM 31 6,oO 32 (.bin .add (.t 30) (.t 31)),oM 4 32])))) (.reg [oM 17 5,oO 18 (.bin .add (.t 17) (kI 1)),oM 5 18]))
def zg:aS := .seq (.seq (.reg [oM 70 12,oO 71 (.len (.t 70)),oM 72 10,oO 73 (.bin .lss (.t 71) (.t 72))]) (.cond (.t 73) (.skip) (.exit 4))) (.block 5 (.reg [oM 74 12,oO 75 (.bldSl false 1 1 (.int .u8 0) [(0,(.k (.c (.d (.int .u8 0)))))]),oO 76 (.app false 1 1 (.t 74) (.t 75)),oM 12 76]))
def zh:aS := .seq (.seq (.reg [oM 39 9,oM 40 0,oO 41 (.len (.t 40)),oO 42 (.bin .lss (.t 39) (.t 41))]) (.cond (.t 42) (.skip) (.exit 2))) (.seq (.block 3 (.seq (.reg [oM 46 0,oM 47 9,oO 48 (.idxSl 2 (.t 46) (.t 47)),oO 49 (.load (.ag 2) (.t 48)),oO 50 (.call 86 [(.t 49)] none),oM 45 50,oO 51 (.extract (.t 45) 0),oO 52 (.extract (.t 45) 1),oM 10 51,oM 11 52]) (.seq (.reg [oM 53 0,oM 54 9,oO 55 (.idxSl 2 (.t 53) (.t 54)),oO 56 (.fieldAddr 0 (.t 55)),oO 57 (.load .sc (.t 56)),oO 58 (.conv .u64 (.t 57)),oO 59 (.call 42 [(.t 58),(kI 2)] none),oM 60 10,oO 61 (.conv .u64 (.t 60)),oO 62 (.call 42 [(.t 61),(kI 2)] none),oM 63 0,oM 64 9,oO 65 (.idxSl 2 (.t 63) (.t 64)),oO 66 (.fieldAddr 1 (.t 65)),oO 67 (.load .sc (.t 66)),oO 68 (.bldSl false 3 1 (.sl []) [(0,(.t 59)),(1,(.t 62)),(2,(.t 67))]),
 oO 69 (.call 41 [(.t 68)] (some (0,1))),oM 12 69]) (.seq (.block 4 (.loop zg)) (.reg [oM 77 8,oM 78 12,oO 79 (.app false 1 1 (.t 77) (.t 78)),oM 8 79]))))) (.reg [oM 43 9,oO 44 (.bin .add (.t 43) (kI 1)),oM 9 44]))
def K1:aG:=⟨1,81,.seq (.reg [oO 2 (.mv (.k (.c .nil))),oO 3 (.mv (kI 0))]) (.seq (.reg [oO 4 (.mv (kI 0))]) (.seq (.seq (.reg [oO 5 (.mv (kI 0))]) (.block 0 (.loop oY))) (.seq (.seq (.reg [oM 33 0,oO 34 (.len (.t 33)),oO 35 (.bin .gtr (.t 34) (kI 24))]) (.cond (.t 35) (.seq (.reg [oO 2 (.mv (.k (.c .nil))),oO 3 (.mv (kI 8))]) (.ret)) (.skip))) (.seq (.seq (.reg [oM 36 4,oO 37 (.bin .gtr (.t 36) (kI 1232))]) (.cond (.t 37) (.seq (.reg [oO 2 (.mv (.k (.c .nil))),oO 3 (.mv (kI 2))]) (.ret)) (.skip))) (.seq (.reg [oO 38 (.bldSl true 0 1 (.int .u8 0) []),oM 8 38]) (.seq (.seq (.reg [oO 9 (.mv (kI 0))]) (.block 2 (.loop zh))) (.seq (.reg [oM 80 8,oM 2 80,oO 3 (.mv (kI 0))]) (.ret)))))))),[(2,none),(3,none)]⟩
theorem Wq:aF Tryz.prog { own:=[38,69],comp:=[],frz:=[],nils:=[] } Tryz.f59=some K1:=by kernel_rfl
theorem Zg (G:ah) (l:List Fd) (hl:l.length≤1000000):aB Tryz.prog G 59 [.sl (l.map aL)] (.tup [.c (.d (.sl ((eZ l).map bD))),.c (.d (.int .i64 (bX l)))]):=by
  refine aI Tryz.func59 Wq rfl rfl ?_;simp only[K1,af,ae,aa,seval,iteOmega,toNatUp];refine ba (qm l) (fun i=>l.length-i) (fun i=>i≤l.length∧eY (l.take i)=0) 0 ⟨abM _,rfl⟩ ?_ ?_
  ·refine ap (fun i=>i) ?_ ?_ rfl rfl <;> simp only[wx,aj,ar,aa,seval,iteOmega,toNatUp,Ie]
  ·rintro i ⟨hi,hok⟩;have hb:=KC (l.take i) (qh.1 hok);rw[abN,acS hi] at hb;by_cases hlt:i<l.length
   ·have g:=i4 hlt;have c:=NQ G (l.getD i default);have ht:=rq hlt;have hf:=z0 hlt hok;by_cases he:ca (l.getD i default)=0
    ·obtain⟨q1,q2,q3⟩:=mZ he;have eN:iK (l.getD i default)=bc (l.getD i default):=(mP q1 q2 q3).2;rw[he,eN] at c;rw[he] at hf;unfold aL at c;generalize l.getD i default=x at *
     generalize bc x=T at *
     simp only[oY,qm,ae,aa,seval,iteOmega,toNatUp,aD,g,aL];refine sD (c) ?_;refine aU (i+1) (by omega) ⟨by omega,hf⟩ (ap (fun i=>i) ?_ ?_ rfl rfl) <;> simp only[wx,aj,ar,aa,seval,iteOmega,toNatUp,ht]
    ·obtain⟨e1,e2⟩:=KJ (Ih hlt hok he) he;have hne:(ca (l.getD i default)=0)=False:=eq_false he;rw[e1,e2];unfold aL at c;generalize ca (l.getD i default)=e at *
     generalize iK (l.getD i default)=n at *
     generalize l.getD i default=x at *
     simp only[oY,qm,ae,aa,seval,iteOmega,toNatUp,aD,g,aL];refine sC (c) ?_;simp only[hne,ae,aa,seval,iteOmega,toNatUp];exact cI
   ·have hil:l.take i=l:=abH (by omega);rw[hil] at hok;rcases ab1 24 l.length with h24 | h24
    ·obtain⟨e1,e2⟩:=KI hok h24;rw[e1,e2];have g1:((l.length:Int)>24)=True:=eq_true (by omega);simp only[oY,qm,ae,aa,seval,iteOmega,toNatUp,g1];exact cI
    ·have g1:((l.length:Int)>24)=False:=eq_false (by omega);rcases ab1 1232 (bB l) with h12 | h12
     ·obtain⟨e1,e2⟩:=Ik hok h24 h12;rw[e1,e2];have g2:((bB l:Int)>1232)=True:=eq_true (by omega);simp only[oY,qm,ae,aa,seval,iteOmega,toNatUp,g1,hil,g2];exact cI
     ·obtain⟨e1,e2⟩:=AK hok h24 h12;rw[e1,e2];have g2:((bB l:Int)>1232)=False:=eq_false (by omega);simp only[oY,qm,ae,aa,seval,iteOmega,toNatUp,g1,hil,g2];refine ba (CB l) (fun i=>l.length-i) (fun i=>i≤l.length) 0 (abM _) ?_ ?_
      ·refine ap (fun _=>304) ?_ ?_ rfl rfl <;> simp only[wx,aj,ar,aa,seval,iteOmega,toNatUp,Ig]
      ·intro i hi;by_cases hlt:i<l.length
       ·have g:=i4 hlt;have hx:=KL hok hlt;have ha:=uI hlt;have h1:=fQ (l.take (i+1));have h2:=AH l (i+1);rw[ha,abJ] at h1;have es:CB l i=⟨aT [(0,.w (.c (.d (.sl (l.map aL))))),(8,.w (.c (.own 1 1 0 (aY (l.take i)).length))),(9,.w (.c (.d (.int .i64 (i:Int)))))],hL [(1,.row 1 ((aY (l.take i)).map bD))],uL [1]⟩:=rfl;rw[es];have hA:(aY (l.take i)).length≤1232:=by omega
        generalize hAA:aY (l.take i)=A at *
        generalize l.getD i default=x at *
        obtain⟨q1,q2,q3⟩:=mZ hx;have c:=NQ G x;have eN:iK x=bc x:=(mP q1 q2 q3).2;rw[hx,eN] at c;have c3:=vJ G x.ty.toNat 2 (by decide);rw[show (2:Int).toNat=2 from rfl,show ((x.ty.toNat:Nat):Int)=x.ty by omega] at c3;have c4:=vJ G (bc x) 2 (by decide);rw[show (2:Int).toNat=2 from rfl] at c4;have hl1:=rY x;have cj:=fR G [au x.ty.toNat 2,au (bc x) 2,x.da] (by simp) (by simp[bP]; omega);simp only[abK,abS,acn,acp,abP] at cj;have eB:fk x=(au x.ty.toNat 2++(au (bc x) 2++x.da))++List.replicate (bc x-4-x.da.length) 0:=by
          unfold fk; simp only[abV]
        have lB:(au x.ty.toNat 2++(au (bc x) 2++x.da)).length=4+x.da.length:=by simp[bP]; omega
        rw[eB] at ha h1;unfold aL at c;generalize au x.ty.toNat 2++(au (bc x) 2++x.da)=B at *
        generalize au x.ty.toNat 2=B1 at *
        generalize au (bc x) 2=B2 at *
        generalize bc x=T at *
        clear eB eN hx;simp only[zh,ae,aa,seval,iteOmega,toNatUp,aD,g,aL];refine sC (c) ?_;simp only[aD,g,aL,ae,aa,seval,iteOmega,toNatUp];refine sD (c3) ?_;refine sC (c4) ?_;simp only[aD,g,aL,ae,aa,seval,iteOmega,toNatUp];refine sD (cj) ?_;refine ba (CC l i T B A) (fun j=>T-4-x.da.length-j) (fun j=>j≤T-4-x.da.length) 0 (abM _) ?_ ?_
        ·refine ap (fun i=>if i=1 then 1 else 552) ?_ ?_ rfl rfl <;> simp only[wx,aj,ar,aa,seval,iteOmega,toNatUp]
        ·intro j hj;have hj2:(B++List.replicate j (0:UInt8)).length=4+x.da.length+j:=by simp[lB]
         by_cases hjl:j<T-4-x.da.length
         ·have hr:B++List.replicate (j+1) (0:UInt8)=(B++List.replicate j 0)++[0]:=by rw[adf,abV]
          have er:CC l i T B A j=⟨aT [(0,.w (.c (.d (.sl (l.map aL))))),(8,.w (.c (.own 1 1 0 A.length))),(9,.w (.c (.d (.int .i64 (i:Int))))),(10,.w (.c (.d (.int .i64 (T:Int))))),(12,.w (.c (.own 2 1 0 (B++List.replicate j 0).length)))],hL [(1,.row 1 (A.map bD)),(2,.row 1 ((B++List.replicate j 0).map bD))],uL [1,2]⟩:=rfl;rw[er];generalize hC:B++List.replicate j (0:UInt8)=C at *
          simp only[zg,ae,aa,seval,iteOmega,toNatUp,bQ];refine aU (j+1) (by omega) (by omega) (ap (fun i=>if i=1 then 1 else 608) ?_ ?_ rfl rfl) <;> simp only[hr,hC,abT,bD,wx,aj,ar,aa,seval,iteOmega,toNatUp]
          all_goals rfl
         ·have hje:j=T-4-x.da.length:=by omega
          have er:CC l i T B A j=⟨aT [(0,.w (.c (.d (.sl (l.map aL))))),(8,.w (.c (.own 1 1 0 A.length))),(9,.w (.c (.d (.int .i64 (i:Int))))),(10,.w (.c (.d (.int .i64 (T:Int))))),(12,.w (.c (.own 2 1 0 (B++List.replicate j 0).length)))],hL [(1,.row 1 (A.map bD)),(2,.row 1 ((B++List.replicate j 0).map bD))],uL [1,2]⟩:=rfl;rw[er];rw[← hje] at ha;generalize hC:B++List.replicate j (0:UInt8)=C at *
          simp only[zg,ae,aa,seval,iteOmega,toNatUp,bQ];refine aU (i+1) (by omega) (by omega) (ap (fun _=>632) ?_ ?_ rfl rfl) <;> simp only[ha,wx,aj,ar,aa,seval,iteOmega,toNatUp]
       ·have hil:l.take i=l:=abH (by omega);simp only[zh,CB,ae,aa,seval,iteOmega,toNatUp,hil];exact cI
def Po (l:List UInt8) (k:Nat):St:=⟨aT [(0,.w (.c (.d (.sl (l.map bD))))),(5,.w (.c (.own 1 2 0 (d9 l k).length))),(6,.w (.c (.own 2 1 0 (eQ l k).length))),(7,.w (.c (.d (.int .i64 (aC l k:Int)))))],hL [(1,.row 2 ((d9 l k).map aL)),(2,.row 1 ((eQ l k).map zD))],uL [1,2]⟩
theorem BL {l:List UInt8} {e:Int} (h:cn l=e) (he:e≠0):aV l=[]∧fO l=[]:=by
  unfold aV fO;rw[h,if_neg he,if_neg he];exact⟨rfl,rfl⟩
theorem aaM {l:List UInt8} {k:Nat} (h:cn l=0) (hk:fN l=k):aV l=d9 l k∧fO l=eQ l k:=by
  unfold aV fO;rw[if_pos h,if_pos h,hk];exact⟨rfl,rfl⟩
theorem K2 (l:List UInt8) (p a b:Nat):(l.drop (p+a)).take (p+b-(p+a))=aK l (p+a) (b-a):=by
  rw[show p+b-(p+a)=b-a by omega]; rfl
def mI:aS := .seq (.seq (.reg [oM 12 7,oM 13 0,oO 14 (.len (.t 13)),oO 15 (.bin .lss (.t 12) (.t 14))]) (.cond (.t 15) (.skip) (.exit 0))) (.block 1 (.seq (.seq (.reg [oM 16 0,oO 17 (.len (.t 16)),oM 18 7,oO 19 (.bin .sub (.t 17) (.t 18)),oO 20 (.bin .lss (.t 19) (kI 4))]) (.cond (.t 20) (.seq (.reg [oO 2 (.mv (.k (.c .nil))),oO 3 (.mv (.k (.c .nil))),oO 4 (.mv (kI 1))]) (.ret)) (.skip))) (.seq (.reg [oM 21 0,oM 22 7,oO 23 (.bin .add (.t 22) (kI 2)),oM 24 7,oO 25 (.bin .add (.t 24) (kI 4)),oO 26 (.slice 1 (.t 21) (some (.t 23)) (some (.t 25)) none),oO 27 (.call 100 [(.t 26)] none),oO 28 (.conv .i64 (.t 27)),oM 8 28]) (.seq (.seq (.reg [oM 29 8,oO 30 (.bin .rem (.t 29) (kI 4)),oO 31 (.bin .neq (.t 30) (kI 0)),oM 32 31,oG 33 (.mv (.t 8)) 32 false,oG 34 (.bin .lss (.t 33) (kI 16)) 32 false,
 oO 35 (.pick (.t 32) (.k (.c (.d (.bool true)))) (.t 34))]) (.cond (.t 35) (.seq (.reg [oO 2 (.mv (.k (.c .nil))),oO 3 (.mv (.k (.c .nil))),oO 4 (.mv (kI 3))]) (.ret)) (.skip))) (.seq (.seq (.reg [oM 36 0,oO 37 (.len (.t 36)),oM 38 7,oO 39 (.bin .sub (.t 37) (.t 38)),oM 40 8,oO 41 (.bin .lss (.t 39) (.t 40))]) (.cond (.t 41) (.seq (.reg [oO 2 (.mv (.k (.c .nil))),oO 3 (.mv (.k (.c .nil))),oO 4 (.mv (kI 1))]) (.ret)) (.skip))) (.seq (.seq (.reg [oM 42 5,oO 43 (.len (.t 42)),oO 44 (.bin .eql (.t 43) (kI 24))]) (.cond (.t 44) (.seq (.reg [oO 2 (.mv (.k (.c .nil))),oO 3 (.mv (.k (.c .nil))),oO 4 (.mv (kI 8))]) (.ret)) (.skip))) (.seq (.reg [oM 45 5,oM 46 0,oM 47 7,oM 48 7,oO 49 (.bin .add (.t 48) (kI 2)),oO 50 (.slice 1 (.t 46) (some (.t 47)) (some (.t 49)) none),oO 51 (.call 100 [(.t 50)] none),
 oO 52 (.conv .i64 (.t 51)),oM 53 0,oM 54 7,oO 55 (.bin .add (.t 54) (kI 4)),oM 56 7,oM 57 8,oO 58 (.bin .add (.t 56) (.t 57)),oO 59 (.slice 1 (.t 53) (some (.t 55)) (some (.t 58)) none),oO 60 (.bldSl false 1 1 (.sl []) [(0,(.t 59))]),oO 61 (.call 41 [(.t 60)] none),oO 62 (.build [(.d (.int .i64 0)),.nil] [(0,1,(.t 52)),(1,1,(.t 61))]),oO 63 (.bldSl false 1 2 (.agg [(.int .i64 0),(.sl [])]) [(0,(.t 62))]),oO 64 (.app false 2 32 (.t 45) (.t 63)),oM 65 6,oM 66 7,oO 67 (.bldSl false 1 1 (.int .i64 0) [(0,(.t 66))]),oO 68 (.app false 1 8 (.t 65) (.t 67)),oM 5 64,oM 6 68]) (.reg [oM 69 7,oM 70 8,oO 71 (.bin .add (.t 69) (.t 70)),oM 7 71]))))))))
def AU:aG:=⟨1,74,.seq (.reg [oO 2 (.mv (.k (.c .nil))),oO 3 (.mv (.k (.c .nil))),oO 4 (.mv (kI 0))]) (.seq (.seq (.reg [oM 9 0,oO 10 (.len (.t 9)),oO 11 (.bin .gtr (.t 10) (kI 1232))]) (.cond (.t 11) (.seq (.reg [oO 2 (.mv (.k (.c .nil))),oO 3 (.mv (.k (.c .nil))),oO 4 (.mv (kI 2))]) (.ret)) (.skip))) (.seq (.reg [oO 5 (.nilOwn 2)]) (.seq (.reg [oO 6 (.nilOwn 1)]) (.seq (.seq (.reg [oO 7 (.mv (kI 0))]) (.block 0 (.loop mI))) (.seq (.reg [oM 72 5,oM 73 6,oM 2 72,oM 3 73,oO 4 (.mv (kI 0))]) (.ret)))))),[(2,none),(3,none),(4,none)]⟩
theorem Wr:aF Tryz.prog { own:=[5,6],comp:=[],frz:=[],nils:=[] } Tryz.f101=some AU:=by kernel_rfl
theorem NR (G:ah) (l:List UInt8) (hl:l.length≤9000000000000000000):aB Tryz.prog G 101 [.sl (l.map bD)] (.tup [.c (.d (.sl ((aV l).map aL))),.c (.d (.sl ((fO l).map zD))),.c (.d (.int .i64 (cn l)))]):=by
  refine aI Tryz.func101 Wr rfl rfl ?_;rcases ab1 1232 l.length with h1 | h1
  ·have e1:cn l=2:=if_pos h1;obtain⟨e2,e3⟩:=BL e1 (by decide);rw[e1,e2,e3];have g1:((l.length:Int)>1232)=True:=eq_true (by omega);simp only[AU,af,ae,aa,seval,iteOmega,toNatUp,g1];exact cN
  ·have eN:fN l=cP l:=if_neg (by omega);have eE:cn l=(dC l (cP l)).getD 0:=if_neg (by omega);obtain⟨c1,c2,c3⟩:=mK l;have g1:((l.length:Int)>1232)=False:=eq_false (by omega);simp only[AU,af,ae,aa,seval,iteOmega,toNatUp,g1];refine ba (Po l) (fun k=>cP l-k) (fun k=>k≤cP l) 0 (abM _) ?_ ?_
   ·have r0:d9 l 0=[]:=rfl;have p0:eQ l 0=[]:=rfl;have n0:aC l 0=0:=rfl;refine ap (fun i=>if i=1 then 40 else 48) ?_ ?_ rfl rfl <;> simp only[r0,p0,n0,wx,aj,ar,aa,seval,iteOmega,toNatUp]
   ·intro k hk;have hp:=wk l k hk;have hend:∀ x,dC l k=some x→cP l=k∧cn l=x:=fun x hx=>by
      have e:cP l=k:=by
        rcases ab1 k (cP l) with h | h
        ·rw[c3 k h] at hx; cases hx
        ·omega
      exact⟨e,by rw[eE,e,hx]; rfl⟩
    have hk24:k≤24:=by omega
    have lf:=vL l k;have lp:=KD l k;have est:Po l k=⟨aT [(0,.w (.c (.d (.sl (l.map bD))))),(5,.w (.c (.own 1 2 0 (d9 l k).length))),(6,.w (.c (.own 2 1 0 (eQ l k).length))),(7,.w (.c (.d (.int .i64 (aC l k:Int)))))],hL [(1,.row 2 ((d9 l k).map aL)),(2,.row 1 ((eQ l k).map zD))],uL [1,2]⟩:=rfl;have cg:4≤l.length-aC l k→aB Tryz.prog G _ [.sl ((aK l (aC l k+2) 2).map bD)] (.w (.c (.d (.int .u64 (bu l (aC l k)))))):=fun h=>ka G (aK l (aC l k+2) 2) (by rw[dj (by omega)]; decide)
    have hz16:4≤l.length-aC l k→bu l (aC l k)<65536:=fun h=>Ni l _ (by omega)
    have cs:(l.drop (aC l k+2)).take (aC l k+2-aC l k)=aK l (aC l k+2) 2:=by rw[acC]; rfl
    cases hst:dC l k with
    | some x =>
      obtain⟨e1,e2⟩:=hend x hst;clear hend c3 c2 eE;unfold dC at hst;split at hst
      ·rename_i q1;obtain rfl:=Option.some.inj hst;obtain⟨x1,x2⟩:=aaM (k:=k) e2 (by rw[eN,e1]);rw[e2,x1,x2,est];clear est cg hz16 cs;simp only[mI,ae,aa,seval,iteOmega,toNatUp];exact cN
      ·rename_i q1;have q1':(aC l k:Int)<(l.length:Int):=by omega
       split at hst
       ·rename_i q2;obtain rfl:=Option.some.inj hst;obtain⟨x1,x2⟩:=BL e2 q2;rw[e2,x1,x2,est];clear est e2 e1 x1 x2;rcases ab1 (l.length-aC l k) 4 with q3 | q3
        ·rw[show fa (l.length-aC l k) (bu l (aC l k))=1 from if_pos q3];clear cg hz16 cs;simp only[mI,ae,aa,seval,iteOmega,toNatUp];exact cN
        ·have cg':=cg q3;have hz':=hz16 q3;clear cg hz16;have ef:fa (l.length-aC l k) (bu l (aC l k))=if bu l (aC l k)%4≠0∨bu l (aC l k)<16 then 3 else if l.length-aC l k<bu l (aC l k) then 1 else 0:=if_neg (by omega)
         have hm:=xm (bu l (aC l k));generalize bu l (aC l k)=z at *
         by_cases h2:z%4=0
         ·have g2:(((z%4:Nat):Int)=0)=True:=eq_true (by omega);rcases ab1 z 16 with h3 | h3
          ·rw[show fa (l.length-aC l k) z=3 by rw[ef,if_pos (.inr h3)]];clear ef q2;simp only[mI,ae,aa,seval,iteOmega,toNatUp,cs];refine bd cg' rfl (.inl rfl) ?_;simp only[ae,aa,seval,iteOmega,toNatUp,hm,g2];exact cN
          ·rcases ab1 (l.length-aC l k) z with h4 | h4
           ·rw[show fa (l.length-aC l k) z=1 by rw[ef,if_neg (by omega),if_pos h4]];clear ef q2;simp only[mI,ae,aa,seval,iteOmega,toNatUp,cs];refine bd cg' rfl (.inl rfl) ?_;simp only[ae,aa,seval,iteOmega,toNatUp,hm,g2];exact cN
           ·exact absurd (by rw[ef,if_neg (by omega),if_neg (by omega)]) q2
         ·have g2:(((z%4:Nat):Int)=0)=False:=eq_false (by omega);rw[show fa (l.length-aC l k) z=3 by rw[ef,if_pos (.inl h2)]];clear ef q2;simp only[mI,ae,aa,seval,iteOmega,toNatUp,cs];refine bd cg' rfl (.inl rfl) ?_;simp only[ae,aa,seval,iteOmega,toNatUp,hm,g2];exact cN
       ·rename_i q2;have q2:fa (l.length-aC l k) (bu l (aC l k))=0:=by simpa using q2
        obtain⟨f1,f2,f3,f4⟩:=O6 q2;split at hst
        ·rename_i q3;obtain rfl:=Option.some.inj hst;obtain⟨x1,x2⟩:=BL e2 (by decide);rw[e2,x1,x2,est];clear est e2 e1 x1 x2;have cg':=cg f1;have hz':=hz16 f1;clear cg hz16;have hm:=xm (bu l (aC l k));have g2:(((bu l (aC l k)%4:Nat):Int)=0)=True:=eq_true (by omega);have g3:((k:Int)=24)=True:=eq_true (by omega);generalize bu l (aC l k)=z at *
         clear q2;simp only[mI,ae,aa,seval,iteOmega,toNatUp,cs];refine bd cg' rfl (.inl rfl) ?_;simp only[ae,aa,seval,iteOmega,toNatUp,hm,g2,lf,g3];exact cN
        ·cases hst
    | none =>
      obtain⟨q1,q2,q3⟩:=z1 hst;obtain⟨q4,q5,q6,q8⟩:=sK hst;have hkc:k<cP l:=by
        rcases ab1 k (cP l) with h | h
        ·exact h
        ·have:cP l=k:=by omega
         rw[this,hst] at c2; cases c2
      have hrf:d9 l (k+1)=d9 l k++[lr l (aC l k) (bu l (aC l k))]:=Ii l k;have hrp:=Ij l k;have hpl:aC l (k+1)=aC l k+bu l (aC l k):=rfl;have cg':=cg q8;have hz':=hz16 q8;clear cg hz16;have cg2:=ka G (aK l (aC l k) 2) (by rw[dj (by omega)]; decide);have hty:=(iL 2 (aK l (aC l k) 2) (dj (by omega)) (by decide)).1;have cj:=fR G [aK l (aC l k+4) (bu l (aC l k)-4)] (by simp) (by simp[dj (show aC l k+4+(bu l (aC l k)-4)≤l.length by omega)]; omega);simp only[abK,abS,acn,acp,abP] at cj;have cs2:(l.drop (aC l k)).take (aC l k+2-aC l k)=aK l (aC l k) 2:=K2 l (aC l k) 0 2;have cs3:(l.drop (aC l k+4)).take (aC l k+bu l (aC l k)-(aC l k+4))=aK l (aC l k+4) (bu l (aC l k)-4):=K2 l (aC l k) 4 _;have q1':(aC l k:Int)<(l.length:Int):=by omega
      have hm:=xm (bu l (aC l k));have g2:(((bu l (aC l k)%4:Nat):Int)=0)=True:=eq_true (by omega);have g3:((k:Int)=24)=False:=eq_false (by omega);have az1:=nE (d9 l k);have az2:=zY (eQ l k);unfold lr at hrf;rw[est];clear est hend c3 c2 eE hst;generalize bu l (aC l k)=z at *
      generalize be (aK l (aC l k) 2)=ty at *
      generalize aK l (aC l k) 2=B0 at *
      generalize aK l (aC l k+2) 2=B1 at *
      generalize aK l (aC l k+4) (z-4)=B2 at *
      generalize d9 l k=FS at *
      generalize eQ l k=PS at *
      generalize aC l k=p at *
      simp only[mI,ae,aa,seval,iteOmega,toNatUp,cs];refine bd cg' rfl (.inl rfl) ?_;simp only[ae,aa,seval,iteOmega,toNatUp,hm,g2,lf,g3,cs2];refine bd cg2 rfl (.inl rfl) ?_;simp only[ae,aa,seval,iteOmega,toNatUp,cs3];refine bd cj rfl (.inl rfl) ?_;simp only[ae,aa,seval,iteOmega,toNatUp,bQ,lf,lp];refine aU (k+1) (by omega) (by omega) (ap (fun i=>if i=1 then 512 else 544) ?_ ?_ rfl rfl) <;> simp only[hrf,hrp,hpl,abT,abJ,lf,lp,aL,zD,wx,aj,ar,aa,seval,iteOmega,toNatUp]
def K3:aG:=⟨1,15,.seq (.reg [oO 2 (.mv (.k (.c .nil))),oO 3 (.mv (kI 0))]) (.seq (.reg [oM 8 0,oO 9 (.call 101 [(.t 8)] none),oM 7 9,oO 10 (.extract (.t 7) 0),oO 11 (.extract (.t 7) 1),oO 12 (.extract (.t 7) 2),oM 4 10,oM 5 11,oM 6 12]) (.seq (.reg [oM 13 4,oM 14 6,oM 2 13,oM 3 14]) (.ret))),[(2,none),(3,none)]⟩
theorem Ws:aF Tryz.prog { own:=[],comp:=[],frz:=[],nils:=[] } Tryz.f71=some K3:=by kernel_rfl
theorem NS (G:ah) (l:List UInt8) (hl:l.length≤9000000000000000000):aB Tryz.prog G 71 [.sl (l.map bD)] (.tup [.c (.d (.sl ((aV l).map aL))),.c (.d (.int .i64 (cn l)))]):=by
  refine aI Tryz.func71 Ws rfl rfl ?_;have c:=NR G l hl;simp only[K3,af,ae,aa,seval,iteOmega,toNatUp];refine sD (c) ?_;exact cI
def K4:aG:=⟨1,15,.seq (.reg [oO 2 (.mv (.k (.c .nil))),oO 3 (.mv (kI 0))]) (.seq (.reg [oM 8 0,oO 9 (.call 101 [(.t 8)] none),oM 7 9,oO 10 (.extract (.t 7) 0),oO 11 (.extract (.t 7) 1),oO 12 (.extract (.t 7) 2),oM 4 10,oM 5 11,oM 6 12]) (.seq (.reg [oM 13 5,oM 14 6,oM 2 13,oM 3 14]) (.ret))),[(2,none),(3,none)]⟩
theorem Wt:aF Tryz.prog { own:=[],comp:=[],frz:=[],nils:=[] } Tryz.f69=some K4:=by kernel_rfl
theorem Zh (G:ah) (l:List UInt8) (hl:l.length≤9000000000000000000):aB Tryz.prog G 69 [.sl (l.map bD)] (.tup [.c (.d (.sl ((fO l).map zD))),.c (.d (.int .i64 (cn l)))]):=by
  refine aI Tryz.func69 Wt rfl rfl ?_;have c:=NR G l hl;simp only[K4,af,ae,aa,seval,iteOmega,toNatUp];refine sD (c) ?_;exact cI
def xu (l:List Fd) (k:Int) (i:Nat):St:=⟨aT [(0,.w (.c (.d (.sl (l.map aL))))),(1,.w (.c (.d (.int .i64 k)))),(5,.w (.c (.own 1 1 0 (df l k i).length))),(6,.w (.c (.d (.int .i64 (i:Int)))))],hL [(1,.row 1 ((df l k i).map zD))],uL [1]⟩
def uK:aS := .seq (.seq (.reg [oM 7 6,oM 8 0,oO 9 (.len (.t 8)),oO 10 (.bin .lss (.t 7) (.t 9))]) (.cond (.t 10) (.skip) (.exit 0))) (.seq (.block 1 (.seq (.reg [oM 13 0,oM 14 6,oO 15 (.idxSl 2 (.t 13) (.t 14)),oO 16 (.fieldAddr 0 (.t 15)),oO 17 (.load .sc (.t 16)),oM 18 1,oO 19 (.bin .eql (.t 17) (.t 18))]) (.cond (.t 19) (.reg [oM 20 5,oM 21 6,oO 22 (.bldSl false 1 1 (.int .i64 0) [(0,(.t 21))]),oO 23 (.app false 1 8 (.t 20) (.t 22)),oM 5 23]) (.skip)))) (.reg [oM 11 6,oO 12 (.bin .add (.t 11) (kI 1)),oM 6 12]))
def K5:aG:=⟨2,25,.seq (.reg [oO 4 (.mv (.k (.c .nil)))]) (.seq (.reg [oO 5 (.nilOwn 1)]) (.seq (.seq (.reg [oO 6 (.mv (kI 0))]) (.block 0 (.loop uK))) (.seq (.reg [oM 24 5,oM 4 24]) (.ret)))),[(4,none)]⟩
theorem Wu:aF Tryz.prog { own:=[5],comp:=[],frz:=[],nils:=[] } Tryz.f35=some K5:=by kernel_rfl
theorem BM (G:ah) (l:List Fd) (k:Int) (hl:l.length≤1000000):aB Tryz.prog G 35 [.sl (l.map aL),.int .i64 k] (.w (.c (.d (.sl ((aW l k).map zD))))):=by
  refine aI Tryz.func35 Wu rfl rfl ?_;have e0:df l k 0=[]:=rfl;simp only[K5,af,ae,aa,seval,iteOmega,toNatUp];refine ba (xu l k) (fun i=>l.length-i) (fun i=>i≤l.length) 0 (abM _) ?_ ?_
  ·refine ap (fun i=>40) ?_ ?_ rfl rfl <;> simp only[wx,aj,ar,aa,seval,iteOmega,toNatUp,e0]
  ·intro i hi;have hb:=vM l k i;have az:=zY (df l k i);by_cases hlt:i<l.length
   ·have g:=i4 hlt;by_cases hk:(l.getD i default).ty=k
    ·have hs:=xj hk;have hk':((l.getD i default).ty=k)=True:=eq_true hk;generalize l.getD i default=x at *
     simp only[uK,xu,ae,aa,seval,iteOmega,toNatUp,aD,g,aL,hk',bQ];refine aU (i+1) (by omega) (by omega) (ap (fun _=>184) ?_ ?_ rfl rfl) <;> simp only[hs,abT,zD,wx,aj,ar,aa,seval,iteOmega,toNatUp]
    ·have hs:=xk hk;have hk':((l.getD i default).ty=k)=False:=eq_false hk;generalize l.getD i default=x at *
     simp only[uK,xu,ae,aa,seval,iteOmega,toNatUp,aD,g,aL,hk',bQ];refine aU (i+1) (by omega) (by omega) (ap (fun i=>i) ?_ ?_ rfl rfl) <;> simp only[hs,wx,aj,ar,aa,seval,iteOmega,toNatUp]
   ·have hil:i=l.length:=by omega
    have e1:df l k i=aW l k:=by rw[hil]; rfl
    simp only[uK,xu,ae,aa,seval,iteOmega,toNatUp,e1];exact aM
end Go.Proofs.YtofonnokanoflaaGreat
