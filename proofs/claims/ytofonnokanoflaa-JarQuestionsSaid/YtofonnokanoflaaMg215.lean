/- Texts of one's own, merged: from: Layer 16 on data: the program: headers. Own work. -/
import Derived.Test.YtofonnokanoflaaProg
import Derived.Test.YtofonnokanoflaaMg27
import Derived.Test.YtofonnokanoflaaMg29
import Derived.Test.YtofonnokanoflaaMg214
import Derived.Test.YtofonnokanoflaaMg210
import Derived.Test.YtofonnokanoflaaMg216
set_option linter.unusedVariables false
set_option linter.unusedSimpArgs false
namespace Go.Proofs.Ytofonnokanoflaa
open Go.RowKit IntWalk
set_option maxHeartbeats 6400000
def dj (h:Hd):D:=.agg [.int .i64 h.lp,.int .i64 h.vr,.int .i64 h.md,.int .i64 h.st,.int .i64 h.pl,.int .i64 h.pr,.int .u32 (h.rd:Int),.int .u32 (h.rp:Int),.int .u32 (h.ri:Int),.int .u64 (h.rf:Int),.int .u64 (h.og:Int),.int .u64 (h.rc:Int),.int .u64 (h.tr:Int)]
def fg (h:Hd):Int:=if jH h then 0 else 4
def sG (h:Hd):List UInt8:=if jH h then cp h else []
def dE (l:List UInt8):Int:=if l.length<48 then 1 else if 1280<l.length then 2 else if (bN l).vr=3∨(bN l).vr=4 then 0 else 3
def sH (l:List UInt8):Hd:=if dE l=0 then bN l else Hd.z
def sI (l:List UInt8):List UInt8:=if dE l=0 then l.drop 48 else []
def cT (t:Nat):Hd:=⟨0,4,3,0,6,0,0,0,0,0,0,0,t⟩
theorem OS (h:Hd):jH h=(decide (0≤h.lp∧h.lp≤3)&&(decide (3≤h.vr∧h.vr≤4)&&(decide (0≤h.md∧h.md≤7)&&(decide (0≤h.st∧h.st≤255)&&(decide (-128≤h.pl∧h.pl≤127)&&decide (-128≤h.pr∧h.pr≤127)))))):=by
  unfold jH lD;by_cases k:0≤h.lp∧h.lp≤3∧(h.vr=3∨h.vr=4)∧0≤h.md∧h.md≤7∧0≤h.st∧h.st≤255∧-128≤h.pl∧h.pl≤127∧-128≤h.pr∧h.pr≤127
  ·rw[decide_eq_true k];simp only[show (0≤h.lp∧h.lp≤3) from by omega,show (3≤h.vr∧h.vr≤4) from by omega,show (0≤h.md∧h.md≤7) from by omega,show (0≤h.st∧h.st≤255) from by omega,show (-128≤h.pl∧h.pl≤127) from by omega,show (-128≤h.pr∧h.pr≤127) from by omega];decide
  ·rw[decide_eq_false k]
   symm
   rw[← Bool.not_eq_true];intro e;simp only[Vb,decide_eq_true_eq] at e;exact k (by omega)
def qK:aB:=⟨3,15,.seq (.reg [oO 6 (.mv (.k (.c (.d (.bool false)))))]) (.seq (.reg [oM 7 0,oM 8 1,oO 9 (.bin .leq (.t 7) (.t 8)),oM 10 9,oG 11 (.mv (.t 1)) 10 true,oG 12 (.mv (.t 2)) 10 true,oG 13 (.bin .leq (.t 11) (.t 12)) 10 true,oO 14 (.pick (.t 10) (.t 13) (.k (.c (.d (.bool false))))),oM 6 14]) (.ret)),[(6,none)]⟩
theorem OT:aA Try.prog { own:=[],comp:=[],frz:=[],nils:=[] } Try.f83=some qK:=by kernel_rfl
theorem nU (G:aj) (a n b:Int):ar Try.prog G 83 [.int .i64 a,.int .i64 n,.int .i64 b] (.w (.c (.d (.bool (decide (a≤n∧n≤b)))))):=by
  refine aF Try.func83 OT rfl rfl ?_;by_cases h1:a≤n
  ·by_cases h2:n≤b
   ·rw[decide_eq_true ⟨h1,h2⟩];simp only[qK,ah,ae,aa,seval,iteOmega,toNatUp];exact aP
   ·rw[decide_eq_false (fun h=>h2 h.2)];simp only[qK,ah,ae,aa,seval,iteOmega,toNatUp];exact aP
  ·rw[decide_eq_false (fun h=>h1 h.1)];simp only[qK,ah,ae,aa,seval,iteOmega,toNatUp];exact aP
def Et:aB:=⟨1,5,.seq (.reg [oO 2 (.mv (.k (.c (.d (.bool false)))))]) (.seq (.reg [oM 3 0,oO 4 (.call 83 [(kI 3),(.t 3),(kI 4)] none),oM 2 4]) (.ret)),[(2,none)]⟩
theorem OU:aA Try.prog { own:=[],comp:=[],frz:=[],nils:=[] } Try.f73=some Et:=by kernel_rfl
theorem GQ (G:aj) (n:Int):ar Try.prog G 73 [.int .i64 n] (.w (.c (.d (.bool (decide (3≤n∧n≤4)))))):=by
  refine aF Try.func73 OU rfl rfl ?_;have c:=nU G (3) n 4;generalize decide (3≤n∧n≤4)=b at *
  simp only[Et,ah,ae,aa,seval,iteOmega,toNatUp];refine sD (c) ?_;exact aP
def Eu:aB:=⟨1,5,.seq (.reg [oO 2 (.mv (.k (.c (.d (.bool false)))))]) (.seq (.reg [oM 3 0,oO 4 (.call 83 [(.k (.c (.d (.int .i64 (-128))))),(.t 3),(kI 127)] none),oM 2 4]) (.ret)),[(2,none)]⟩
theorem OV:aA Try.prog { own:=[],comp:=[],frz:=[],nils:=[] } Try.f91=some Eu:=by kernel_rfl
theorem GR (G:aj) (n:Int):ar Try.prog G 91 [.int .i64 n] (.w (.c (.d (.bool (decide (-128≤n∧n≤127)))))):=by
  refine aF Try.func91 OV rfl rfl ?_;have c:=nU G (-128) n 127;generalize decide (-128≤n∧n≤127)=b at *
  simp only[Eu,ah,ae,aa,seval,iteOmega,toNatUp];refine sD (c) ?_;exact aP
def jY:aB:=⟨1,35,.seq (.reg [oO 1 (.box .roBox (.t 0)),oO 2 (.mv (kI 0))]) (.seq (.seq (.reg [oO 3 (.fieldAddr 0 (.t 1)),oO 4 (.load .sc (.t 3)),oO 5 (.call 83 [(kI 0),(.t 4),(kI 3)] none),oO 6 (.un .not (.t 5)),oM 7 6,oG 8 (.fieldAddr 1 (.t 1)) 7 false,oG 9 (.load .sc (.t 8)) 7 false,oG 10 (.call 73 [(.t 9)] none) 7 false,oG 11 (.un .not (.t 10)) 7 false,oO 12 (.pick (.t 7) (.k (.c (.d (.bool true)))) (.t 11)),oM 13 12,oG 14 (.fieldAddr 2 (.t 1)) 13 false,oG 15 (.load .sc (.t 14)) 13 false,oG 16 (.call 83 [(kI 0),(.t 15),(kI 7)] none) 13 false,oG 17 (.un .not (.t 16)) 13 false,oO 18 (.pick (.t 13) (.k (.c (.d (.bool true)))) (.t 17))]) (.cond (.t 18) (.seq (.reg [oO 2 (.mv (kI 4))]) (.ret)) (.skip))) (.seq (.seq (.reg [oO 19 (.fieldAddr 3 (.t 1)),oO 20 (.load .sc (.t 19)),oO 21 (.call 83 [(kI 0),(.t 20),(kI 255)] none),
 oO 22 (.un .not (.t 21)),oM 23 22,oG 24 (.fieldAddr 4 (.t 1)) 23 false,oG 25 (.load .sc (.t 24)) 23 false,oG 26 (.call 91 [(.t 25)] none) 23 false,oG 27 (.un .not (.t 26)) 23 false,oO 28 (.pick (.t 23) (.k (.c (.d (.bool true)))) (.t 27)),oM 29 28,oG 30 (.fieldAddr 5 (.t 1)) 29 false,oG 31 (.load .sc (.t 30)) 29 false,oG 32 (.call 91 [(.t 31)] none) 29 false,oG 33 (.un .not (.t 32)) 29 false,oO 34 (.pick (.t 29) (.k (.c (.d (.bool true)))) (.t 33))]) (.cond (.t 34) (.seq (.reg [oO 2 (.mv (kI 4))]) (.ret)) (.skip))) (.seq (.reg [oO 2 (.mv (kI 0))]) (.ret)))),[(2,none)]⟩
theorem OW:aA Try.prog { own:=[],comp:=[],frz:=[],nils:=[] } Try.f80=some jY:=by kernel_rfl
theorem Rc (G:aj) (h:Hd):ar Try.prog G 80 [dj h] (.w (.c (.d (.int .i64 (fg h))))):=by
  refine aF Try.func80 OW rfl rfl ?_;have c1:=nU G 0 h.lp 3;have c2:=GQ G h.vr;have c3:=nU G 0 h.md 7;have c4:=nU G 0 h.st 255;have c5:=GR G h.pl;have c6:=GR G h.pr;have he:fg h=if jH h=true then 0 else 4:=rfl
  rw[OS] at he;unfold dj;generalize decide (0≤h.lp∧h.lp≤3)=b1 at *
  generalize decide (3≤h.vr∧h.vr≤4)=b2 at *
  generalize decide (0≤h.md∧h.md≤7)=b3 at *
  generalize decide (0≤h.st∧h.st≤255)=b4 at *
  generalize decide (-128≤h.pl∧h.pl≤127)=b5 at *
  generalize decide (-128≤h.pr∧h.pr≤127)=b6 at *
  cases b1
  ·rw[he];simp only[jY,ah,ae,aa,seval,iteOmega,toNatUp];refine sD (c1) ?_;exact aP
  cases b2
  ·rw[he];simp only[jY,ah,ae,aa,seval,iteOmega,toNatUp];refine sD (c1) ?_;refine sD (c2) ?_;exact aP
  cases b3
  ·rw[he];simp only[jY,ah,ae,aa,seval,iteOmega,toNatUp];refine sD (c1) ?_;refine sD (c2) ?_;refine sD (c3) ?_;exact aP
  cases b4
  ·rw[he];simp only[jY,ah,ae,aa,seval,iteOmega,toNatUp];refine sD (c1) ?_;refine sD (c2) ?_;refine sD (c3) ?_;refine sD (c4) ?_;exact aP
  cases b5
  ·rw[he];simp only[jY,ah,ae,aa,seval,iteOmega,toNatUp];refine sD (c1) ?_;refine sD (c2) ?_;refine sD (c3) ?_;refine sD (c4) ?_;refine sD (c5) ?_;exact aP
  cases b6
  ·rw[he];simp only[jY,ah,ae,aa,seval,iteOmega,toNatUp];refine sD (c1) ?_;refine sD (c2) ?_;refine sD (c3) ?_;refine sD (c4) ?_;refine sD (c5) ?_;refine sD (c6) ?_;exact aP
  ·rw[he];simp only[jY,ah,ae,aa,seval,iteOmega,toNatUp];refine sD (c1) ?_;refine sD (c2) ?_;refine sD (c3) ?_;refine sD (c4) ?_;refine sD (c5) ?_;refine sD (c6) ?_;exact aP
def Ev:aB:=⟨2,23,.seq (.reg [oO 4 (.mv (.k (.c (.d (.int .u64 0)))))]) (.seq (.reg [oM 6 0,oO 7 (.nilChk (.t 6)),oO 8 (.fieldAddr 0 (.t 7)),oO 9 (.load .sc (.t 8)),oM 10 1,oO 11 (.slice 1 (.t 9) none (some (.t 10)) none),oO 12 (.call 56 [(.t 11)] none),oM 5 12]) (.seq (.reg [oM 13 0,oM 14 0,oO 15 (.nilChk (.t 14)),oO 16 (.fieldAddr 0 (.t 15)),oO 17 (.load .sc (.t 16)),oM 18 1,oO 19 (.slice 1 (.t 17) (some (.t 18)) none none),oO 20 (.nilChk (.t 13)),oO 21 (.fieldAddr 0 (.t 20)),oN (.store .sc (.t 21) (.t 19))]) (.seq (.reg [oM 22 5,oM 4 22]) (.ret)))),[(4,none)]⟩
theorem OX:aA Try.prog { own:=[],comp:=[],frz:=[],nils:=[] } Try.f82=some Ev:=by kernel_rfl
theorem Re (G:aj) (l:List UInt8) (k:Nat) (hk:k≤l.length) (hl:l.length≤9223372036854775807):kn Try.prog G 82 [.c (.ptr 1 1 0 0),.c (.d (.int .i64 (k:Int)))] (dH [.sl (l.map bD)]) [1] (.w (.c (.d (.int .u64 (aU (l.take k)))))) (dH [.sl ((l.drop k).map bD)]) [1]:=by
  have c:=mz G (l.take k) (by simp; omega);have e:(l.drop k).take (l.length-k)=l.drop k:=UG (by simp);refine K4 Try.func82 OX 0 rfl rfl rfl rfl rfl rfl ?_;simp only[Ev,ep,dH,dF,ae,aa,seval,iteOmega,toNatUp];refine bE c rfl (.inl rfl) ?_;simp only[dF,MN,ae,aa,seval,iteOmega,toNatUp];refine Tj (by simp only[ae,aa,seval,iteOmega,toNatUp]) ?_ (by simp only[ae,aa,seval,iteOmega,toNatUp]);simp only[ae,aa,seval,iteOmega,toNatUp,UE,UT,e]
theorem ii (G:aj) (l:List UInt8) (a k c:Nat) (K:Int) (hK:(k:Int)=K) (hc:a+k=c) (hk:c≤l.length) (hl:l.length≤9223372036854775807):kn Try.prog G 82 [.c (.ptr 1 1 0 0),.c (.d (.int .i64 K))] (dH [.sl ((l.drop a).map bD)]) [1] (.w (.c (.d (.int .u64 (aU (aE l a k)))))) (dH [.sl ((l.drop c).map bD)]) [1]:=by
  have h:=Re G (l.drop a) k (by simp; omega) (by simp; omega);rw[Wk,hc,hK] at h;exact h
theorem ip:∀ (args:Array Value) (w:World),(callFunc 82 args).run Try.prog w=.ok (.enter 82 args) w:=enters_of Try.func82 (by kernel_rfl) rfl
theorem and7:∀ m:Fin 256,bits .and .i64 (m.val:Int) 7=((m.val%8:Nat):Int):=by decide +kernel
theorem GT {m:Nat} (h:m<256):bits .and .i64 (m:Int) 7=((m%8:Nat):Int):=and7 ⟨m,h⟩
theorem Tk:∀ (l:Fin 4) (v:Fin 8) (m:Fin 8),bits .or .i64 (bits .or .i64 ((l.val*64:Nat):Int) ((v.val*8:Nat):Int)) (m.val:Int)=((l.val*64+v.val*8+m.val:Nat):Int):=by decide +kernel
theorem Rf {l v m:Int} (l0:0≤l) (l1:l≤3) (v0:0≤v) (v1:v≤7) (m0:0≤m) (m1:m≤7):bits .or .i64 (bits .or .i64 (l*64) (v*8)) m=l*64+v*8+m:=by
  obtain⟨L,rfl⟩:=Vz l0;obtain⟨V,rfl⟩:=Vz v0;obtain⟨M,rfl⟩:=Vz m0;have:=Tk ⟨L,by omega⟩ ⟨V,by omega⟩ ⟨M,by omega⟩
  simpa using this
theorem Rh {l:List UInt8} {a:Nat} (h:a<l.length):aU (aE l a 1)=(l.getD a 0).toNat:=by
  have e:aE l a 1=[l.getD a 0]:=by
    unfold aE;rw[List.drop_eq_getElem_cons h,List.take_succ_cons,List.take_zero,UD,UB h];rfl
  rw[e];have:=(l.getD a 0).toNat_lt;simp[aU]
theorem Ri:∀ b:Fin 256,IntKind.i8.wrap (b.val:Int)=if b.val>127 then (b.val:Int)-256 else (b.val:Int):=by decide +kernel
theorem Ew (b:UInt8):IntKind.i8.wrap (b.toNat:Int)=iZ b:=Ri ⟨b.toNat,b.toNat_lt⟩
theorem MO (l:List UInt8) (h:48≤l.length):bN (l.take 48)=bN l:=by
  have c:∀ a n,a+n≤48→aE (l.take 48) a n=aE l a n:=by
    intro a n hn;unfold aE;rw[List.drop_take,List.take_take,VP (by omega)]
  have g:∀ i,i<48→(l.take 48).getD i 0=l.getD i 0:=by
    intro i hi;rw[UD,UD,List.getElem?_take_of_lt hi]
  unfold bN;rw[c 4 4 (by omega),c 8 4 (by omega),c 12 4 (by omega),c 16 8 (by omega),c 24 8 (by omega),c 32 8 (by omega),c 40 8 (by omega),g 0 (by omega),g 1 (by omega),g 2 (by omega),g 3 (by omega)]
def GU:aB:=⟨1,48,.seq (.reg [oO 2 (.alloc [(.d (.int .i64 0)),(.d (.int .i64 0)),(.d (.int .i64 0)),(.d (.int .i64 0)),(.d (.int .i64 0)),(.d (.int .i64 0)),(.d (.int .u32 0)),(.d (.int .u32 0)),(.d (.int .u32 0)),(.d (.int .u64 0)),(.d (.int .u64 0)),(.d (.int .u64 0)),(.d (.int .u64 0))])]) (.seq (.reg [oM 6 0,oO 7 (.build [.nil] [(0,1,(.t 6))]),oO 3 (.alloc [.nil]),oN (.store (.ag 1) (.t 3) (.t 7))]) (.seq (.reg [oO 8 (.closM 82 [(.t 3)] []),oM 4 8]) (.seq (.reg [oM 9 4,oO 10 (.callM 1000000007 [(.t 9),(kI 1)]),oO 11 (.conv .i64 (.t 10)),oM 5 11]) (.seq (.reg [oM 12 5,oO 13 (.bin .shr (.t 12) (.k (.c (.d (.int .u64 6))))),oM 14 5,oO 15 (.bin .shr (.t 14) (.k (.c (.d (.int .u64 3))))),oO 16 (.bin .and (.t 15) (kI 7)),oM 17 5,oO 18 (.bin .and (.t 17) (kI 7)),oM 19 4,oO 20 (.callM 1000000007 [(.t 19),(kI 1)]),
 oO 21 (.conv .i64 (.t 20)),oM 22 4,oO 23 (.callM 1000000007 [(.t 22),(kI 1)]),oO 24 (.conv .i8 (.t 23)),oO 25 (.conv .i64 (.t 24)),oM 26 4,oO 27 (.callM 1000000007 [(.t 26),(kI 1)]),oO 28 (.conv .i8 (.t 27)),oO 29 (.conv .i64 (.t 28)),oM 30 4,oO 31 (.callM 1000000007 [(.t 30),(kI 4)]),oO 32 (.conv .u32 (.t 31)),oM 33 4,oO 34 (.callM 1000000007 [(.t 33),(kI 4)]),oO 35 (.conv .u32 (.t 34)),oM 36 4,oO 37 (.callM 1000000007 [(.t 36),(kI 4)]),oO 38 (.conv .u32 (.t 37)),oM 39 4,oO 40 (.callM 1000000007 [(.t 39),(kI 8)]),oM 41 4,oO 42 (.callM 1000000007 [(.t 41),(kI 8)]),oM 43 4,oO 44 (.callM 1000000007 [(.t 43),(kI 8)]),oM 45 4,oO 46 (.callM 1000000007 [(.t 45),(kI 8)]),oO 47 (.build [(.d (.int .i64 0)),(.d (.int .i64 0)),(.d (.int .i64 0)),(.d (.int .i64 0)),(.d (.int .i64 0)),(.d (.int .i64 0)),(.d (.int .u32 0)),(.d (.int .u32 0)),(.d (.int .u32 0)),(.d (.int .u64 0)),(.d (.int .u64 0)),(.d (.int .u64 0)),(.d (.int .u64 0))] [(0,1,(.t 13)),(1,1,(.t 16)),(2,1,(.t 18)),(3,1,(.t 21)),(4,1,(.t 25)),(5,1,(.t 29)),(6,1,(.t 32)),(7,1,(.t 35)),(8,1,(.t 38)),(9,1,(.t 40)),(10,1,(.t 42)),(11,1,(.t 44)),(12,1,(.t 46))]),
 oN (.store (.ag 13) (.t 2) (.t 47))]) (.ret))))),[(2,(some (.ag 13)))]⟩
theorem Rj:aA Try.prog { own:=[],comp:=[],frz:=[],nils:=[],mt:=[8,10,20,23,27,31,34,37,40,42,44,46] } Try.f72=some GU:=by kernel_rfl
theorem Tl (G:aj) (l:List UInt8) (hl:l.length=48):ar Try.prog G 72 [.sl (l.map bD)] (.w (.c (.d (dj (bN l))))):=by
  refine aF Try.func72 Rj rfl rfl ?_;have hb:=by exact (show l.length≤9223372036854775807 by omega)
  have c0:=ii G l 0 1 1 1 rfl rfl (by omega) hb;have c1:=ii G l 1 1 2 1 rfl rfl (by omega) hb;have c2:=ii G l 2 1 3 1 rfl rfl (by omega) hb;have c3:=ii G l 3 1 4 1 rfl rfl (by omega) hb;have c4:=ii G l 4 4 8 4 rfl rfl (by omega) hb;have c5:=ii G l 8 4 12 4 rfl rfl (by omega) hb;have c6:=ii G l 12 4 16 4 rfl rfl (by omega) hb;have c7:=ii G l 16 8 24 8 rfl rfl (by omega) hb;have c8:=ii G l 24 8 32 8 rfl rfl (by omega) hb;have c9:=ii G l 32 8 40 8 rfl rfl (by omega) hb;have cA:=ii G l 40 8 48 8 rfl rfl (by omega) hb;rw[Rh (by omega)] at c0 c1 c2 c3;have q4:=(jV 4 (aE l 4 4) (d6 (by omega)) (by decide)).1;have q5:=(jV 4 (aE l 8 4) (d6 (by omega)) (by decide)).1;have q6:=(jV 4 (aE l 12 4) (d6 (by omega)) (by decide)).1;have b0:=(l.getD 0 0).toNat_lt;have b1:=(l.getD 1 0).toNat_lt;have s2:=Ew (l.getD 2 0);have s3:=Ew (l.getD 3 0);have i2:=Es (l.getD 2 0);have i3:=Es (l.getD 3 0);unfold bN dj;dsimp only;rw[VI] at c0;generalize l.drop 1=L1 at *
  generalize l.drop 2=L2 at *
  generalize l.drop 3=L3 at *
  generalize l.drop 4=L4 at *
  generalize l.drop 8=L5 at *
  generalize l.drop 12=L6 at *
  generalize l.drop 16=L7 at *
  generalize l.drop 24=L8 at *
  generalize l.drop 32=L9 at *
  generalize l.drop 40=LA at *
  generalize l.drop 48=LB at *
  generalize iZ (l.getD 2 0)=S2 at *
  generalize iZ (l.getD 3 0)=S3 at *
  generalize (l.getD 0 0).toNat=N0 at *
  generalize (l.getD 1 0).toNat=N1 at *
  generalize (l.getD 2 0).toNat=N2 at *
  generalize (l.getD 3 0).toNat=N3 at *
  generalize aU (aE l 4 4)=N4 at *
  generalize aU (aE l 8 4)=N5 at *
  generalize aU (aE l 12 4)=N6 at *
  generalize aU (aE l 16 8)=N7 at *
  generalize aU (aE l 24 8)=N8 at *
  generalize aU (aE l 32 8)=N9 at *
  generalize aU (aE l 40 8)=NA at *
  have a1:=GT (m:=N0 / 8) (by omega);have a2:=GT b0;have d1:(N0:Int) / 64=((N0 / 64:Nat):Int):=(Int.natCast_ediv N0 64).symm;have d2:(N0:Int) / 8=((N0 / 8:Nat):Int):=(Int.natCast_ediv N0 8).symm;simp only[GU,ah,dW,dF,ae,aa,seval,iteOmega,toNatUp];refine ig (id:=24) (pre:=[.p 24 1 0 0]) (post:=[]) (ws:=[.c (.d (.int .i64 1))]) c0 ip rfl rfl (by simp only[ae,aa,seval,iteOmega,toNatUp,UE,UT]) rfl ?_;simp only[dW,dF,ae,aa,seval,iteOmega,toNatUp,IntKind.bits,s2,s3,d1,d2,a1,a2];refine ig (id:=24) (pre:=[.p 24 1 0 0]) (post:=[]) (ws:=[.c (.d (.int .i64 1))]) c1 ip rfl rfl (by simp only[ae,aa,seval,iteOmega,toNatUp,UE,UT]) rfl ?_;simp only[dW,dF,ae,aa,seval,iteOmega,toNatUp,IntKind.bits,s2,s3,d1,d2,a1,a2];refine ig (id:=24) (pre:=[.p 24 1 0 0]) (post:=[]) (ws:=[.c (.d (.int .i64 1))]) c2 ip rfl rfl (by simp only[ae,aa,seval,iteOmega,toNatUp,UE,UT]) rfl ?_;simp only[dW,dF,ae,aa,seval,iteOmega,toNatUp,IntKind.bits,s2,s3,d1,d2,a1,a2];refine ig (id:=24) (pre:=[.p 24 1 0 0]) (post:=[]) (ws:=[.c (.d (.int .i64 1))]) c3 ip rfl rfl (by simp only[ae,aa,seval,iteOmega,toNatUp,UE,UT]) rfl ?_;simp only[dW,dF,ae,aa,seval,iteOmega,toNatUp,IntKind.bits,s2,s3,d1,d2,a1,a2];refine ig (id:=24) (pre:=[.p 24 1 0 0]) (post:=[]) (ws:=[.c (.d (.int .i64 4))]) c4 ip rfl rfl (by simp only[ae,aa,seval,iteOmega,toNatUp,UE,UT]) rfl ?_;simp only[dW,dF,ae,aa,seval,iteOmega,toNatUp,IntKind.bits,s2,s3,d1,d2,a1,a2];refine ig (id:=24) (pre:=[.p 24 1 0 0]) (post:=[]) (ws:=[.c (.d (.int .i64 4))]) c5 ip rfl rfl (by simp only[ae,aa,seval,iteOmega,toNatUp,UE,UT]) rfl ?_;simp only[dW,dF,ae,aa,seval,iteOmega,toNatUp,IntKind.bits,s2,s3,d1,d2,a1,a2];refine ig (id:=24) (pre:=[.p 24 1 0 0]) (post:=[]) (ws:=[.c (.d (.int .i64 4))]) c6 ip rfl rfl (by simp only[ae,aa,seval,iteOmega,toNatUp,UE,UT]) rfl ?_;simp only[dW,dF,ae,aa,seval,iteOmega,toNatUp,IntKind.bits,s2,s3,d1,d2,a1,a2];refine ig (id:=24) (pre:=[.p 24 1 0 0]) (post:=[]) (ws:=[.c (.d (.int .i64 8))]) c7 ip rfl rfl (by simp only[ae,aa,seval,iteOmega,toNatUp,UE,UT]) rfl ?_;simp only[dW,dF,ae,aa,seval,iteOmega,toNatUp,IntKind.bits,s2,s3,d1,d2,a1,a2];refine ig (id:=24) (pre:=[.p 24 1 0 0]) (post:=[]) (ws:=[.c (.d (.int .i64 8))]) c8 ip rfl rfl (by simp only[ae,aa,seval,iteOmega,toNatUp,UE,UT]) rfl ?_;simp only[dW,dF,ae,aa,seval,iteOmega,toNatUp,IntKind.bits,s2,s3,d1,d2,a1,a2];refine ig (id:=24) (pre:=[.p 24 1 0 0]) (post:=[]) (ws:=[.c (.d (.int .i64 8))]) c9 ip rfl rfl (by simp only[ae,aa,seval,iteOmega,toNatUp,UE,UT]) rfl ?_;simp only[dW,dF,ae,aa,seval,iteOmega,toNatUp,IntKind.bits,s2,s3,d1,d2,a1,a2];refine ig (id:=24) (pre:=[.p 24 1 0 0]) (post:=[]) (ws:=[.c (.d (.int .i64 8))]) cA ip rfl rfl (by simp only[ae,aa,seval,iteOmega,toNatUp,UE,UT]) rfl ?_;simp only[dW,dF,ae,aa,seval,iteOmega,toNatUp,IntKind.bits,s2,s3,d1,d2,a1,a2];exact aP
def Ex:aB:=⟨1,5,.seq (.reg [oO 2 (.alloc [(.d (.int .i64 0)),(.d (.int .i64 0)),(.d (.int .i64 0)),(.d (.int .i64 0)),(.d (.int .i64 0)),(.d (.int .i64 0)),(.d (.int .u32 0)),(.d (.int .u32 0)),(.d (.int .u32 0)),(.d (.int .u64 0)),(.d (.int .u64 0)),(.d (.int .u64 0)),(.d (.int .u64 0))])]) (.seq (.reg [oM 3 0,oO 4 (.build [(.d (.int .i64 0)),(.d (.int .i64 0)),(.d (.int .i64 0)),(.d (.int .i64 0)),(.d (.int .i64 0)),(.d (.int .i64 0)),(.d (.int .u32 0)),(.d (.int .u32 0)),(.d (.int .u32 0)),(.d (.int .u64 0)),(.d (.int .u64 0)),(.d (.int .u64 0)),(.d (.int .u64 0))] [(1,1,(kI 4)),(2,1,(kI 3)),(4,1,(kI 6)),(12,1,(.t 3))]),oN (.store (.ag 13) (.t 2) (.t 4))]) (.ret)),[(2,(some (.ag 13)))]⟩
theorem OY:aA Try.prog { own:=[],comp:=[],frz:=[],nils:=[] } Try.f35=some Ex:=by kernel_rfl
theorem Rk (G:aj) (t:Nat):ar Try.prog G 35 [.int .u64 (t:Int)] (.w (.c (.d (dj (cT t))))):=by
  refine aF Try.func35 OY rfl rfl ?_;unfold dj cT;simp only[Ex,ah,ae,aa,seval,iteOmega,toNatUp];exact aP
def nE:aB:=⟨1,26,.seq (.reg [oO 2 (.alloc [(.d (.int .i64 0)),(.d (.int .i64 0)),(.d (.int .i64 0)),(.d (.int .i64 0)),(.d (.int .i64 0)),(.d (.int .i64 0)),(.d (.int .u32 0)),(.d (.int .u32 0)),(.d (.int .u32 0)),(.d (.int .u64 0)),(.d (.int .u64 0)),(.d (.int .u64 0)),(.d (.int .u64 0))]),oO 3 (.mv (.k (.c .nil))),oO 4 (.mv (kI 0))]) (.seq (.seq (.reg [oM 5 0,oO 6 (.len (.t 5)),oO 7 (.bin .lss (.t 6) (kI 48))]) (.cond (.t 7) (.seq (.reg [oO 8 (.build [(.d (.int .i64 0)),(.d (.int .i64 0)),(.d (.int .i64 0)),(.d (.int .i64 0)),(.d (.int .i64 0)),(.d (.int .i64 0)),(.d (.int .u32 0)),(.d (.int .u32 0)),(.d (.int .u32 0)),(.d (.int .u64 0)),(.d (.int .u64 0)),(.d (.int .u64 0)),(.d (.int .u64 0))] []),oN (.store (.ag 13) (.t 2) (.t 8)),oO 3 (.mv (.k (.c .nil))),oO 4 (.mv (kI 1))]) (.ret))
 (.skip))) (.seq (.seq (.reg [oM 9 0,oO 10 (.len (.t 9)),oO 11 (.bin .gtr (.t 10) (kI 1280))]) (.cond (.t 11) (.seq (.reg [oO 12 (.build [(.d (.int .i64 0)),(.d (.int .i64 0)),(.d (.int .i64 0)),(.d (.int .i64 0)),(.d (.int .i64 0)),(.d (.int .i64 0)),(.d (.int .u32 0)),(.d (.int .u32 0)),(.d (.int .u32 0)),(.d (.int .u64 0)),(.d (.int .u64 0)),(.d (.int .u64 0)),(.d (.int .u64 0))] []),oN (.store (.ag 13) (.t 2) (.t 12)),oO 3 (.mv (.k (.c .nil))),oO 4 (.mv (kI 2))]) (.ret)) (.skip))) (.seq (.reg [oM 13 0,oO 14 (.slice 1 (.t 13) none (some (kI 48)) none),oO 15 (.call 72 [(.t 14)] none),oN (.store (.ag 13) (.t 2) (.t 15))]) (.seq (.seq (.reg [oO 16 (.fieldAddr 1 (.t 2)),oO 17 (.load .sc (.t 16)),oO 18 (.call 73 [(.t 17)] none),oO 19 (.un .not (.t 18))]) (.cond (.t 19) (.seq (.reg [oO 20 (.build [(.d (.int .i64 0)),(.d (.int .i64 0)),(.d (.int .i64 0)),(.d (.int .i64 0)),(.d (.int .i64 0)),(.d (.int .i64 0)),(.d (.int .u32 0)),(.d (.int .u32 0)),(.d (.int .u32 0)),(.d (.int .u64 0)),(.d (.int .u64 0)),(.d (.int .u64 0)),(.d (.int .u64 0))] []),
 oN (.store (.ag 13) (.t 2) (.t 20)),oO 3 (.mv (.k (.c .nil))),oO 4 (.mv (kI 3))]) (.ret)) (.skip))) (.seq (.reg [oO 21 (.load (.ag 13) (.t 2)),oM 22 0,oO 23 (.slice 1 (.t 22) (some (kI 48)) none none),oO 24 (.bldSl false 1 1 (.sl []) [(0,(.t 23))]),oO 25 (.call 30 [(.t 24)] (some (0,1))),oN (.store (.ag 13) (.t 2) (.t 21)),oM 3 25,oO 4 (.mv (kI 0))]) (.ret)))))),[(2,(some (.ag 13))),(3,none),(4,none)]⟩
theorem OZ:aA Try.prog { own:=[25],comp:=[],frz:=[],nils:=[] } Try.f54=some nE:=by kernel_rfl
theorem Rl (G:aj) (l:List UInt8) (hl:l.length≤9223372036854775807):ar Try.prog G 54 [.sl (l.map bD)] (.tup [.c (.d (dj (sH l))),.c (.d (.sl ((sI l).map bD))),.c (.d (.int .i64 (dE l)))]):=by
  refine aF Try.func54 OZ rfl rfl ?_;unfold sH sI;by_cases h1:l.length<48
  ·rw[show dE l=1 from if_pos h1,if_neg (by decide),if_neg (by decide)];unfold dj Hd.z;simp only[nE,ah,ae,aa,seval,iteOmega,toNatUp];exact gL (by simp only[ae,aa,seval,iteOmega,toNatUp]) (by simp only[ae,aa,seval,iteOmega,toNatUp] <;> rfl) (by simp only[ae,aa,seval,iteOmega,toNatUp])
  ·by_cases h2:1280<l.length
   ·rw[show dE l=2 from (if_neg h1).trans (if_pos h2),if_neg (by decide),if_neg (by decide)];unfold dj Hd.z;simp only[nE,ah,ae,aa,seval,iteOmega,toNatUp];exact gL (by simp only[ae,aa,seval,iteOmega,toNatUp]) (by simp only[ae,aa,seval,iteOmega,toNatUp] <;> rfl) (by simp only[ae,aa,seval,iteOmega,toNatUp])
   ·have c1:=Tl G (l.take 48) (by simp; omega);have e48:bN (l.take 48)=bN l:=by
      exact MO l (by omega)
    rw[e48] at c1;have c2:=GQ G (bN l).vr;have cj:=dw G [l.drop 48] (by simp) (by simp; omega);simp only[UE,UT,Vw,Vv,UX] at cj;have et:(l.drop 48).take (l.length-48)=l.drop 48:=UG (by simp);have hv:decide (3≤(bN l).vr∧(bN l).vr≤4)=decide ((bN l).vr=3∨(bN l).vr=4):=by
      congr 1
      exact propext (by omega)
    rw[hv] at c2;have he:dE l=if decide ((bN l).vr=3∨(bN l).vr=4)=true then 0 else 3:=by
      unfold dE;rw[if_neg h1,if_neg h2];simp only[decide_eq_true_eq]
    rw[he];generalize decide ((bN l).vr=3∨(bN l).vr=4)=b at *
    generalize bN l=q at *
    generalize hR:l.drop 48=R at *
    cases b
    ·rw[if_neg (by decide:¬ false=true),if_neg (by decide),if_neg (by decide)];unfold dj Hd.z at *
     simp only[nE,ah,ae,aa,seval,iteOmega,toNatUp];refine sD (c1) ?_;refine sD (c2) ?_;exact gL (by simp only[ae,aa,seval,iteOmega,toNatUp]) (by simp only[ae,aa,seval,iteOmega,toNatUp] <;> rfl) (by simp only[ae,aa,seval,iteOmega,toNatUp])
    ·rw[if_pos rfl,if_pos rfl,if_pos rfl];unfold dj at *
     simp only[nE,ah,ae,aa,seval,iteOmega,toNatUp];refine sD (c1) ?_;refine sC (c2) ?_;simp only[hR,et,ae,aa,seval,iteOmega,toNatUp];refine sD (cj) ?_;exact gX
theorem Rm (z:Int):IntKind.u64.wrap z=(((z%18446744073709551616).toNat:Nat):Int):=by
  rw[IntKind.wrap_u64,Int.toNat_of_nonneg (Int.emod_nonneg _ (by decide))]
theorem Rn (z:Int):al (z%18446744073709551616).toNat 1=[bW z]:=by
  have h:=Int.emod_nonneg z (show (18446744073709551616:Int)≠0 by decide);have e:(z%18446744073709551616)%256=z%256:=Int.emod_emod_of_dvd z (by decide);unfold al bW;rw[show List.range 1=[0] from rfl,UE,UT,Nat.pow_zero,Nat.div_one]
  congr 1
  rw[← UInt8.toNat_inj,UInt8.toNat_ofNat',UInt8.toNat_ofNat'];omega
theorem rj (G:aj) (z:Int):ar Try.prog G 71 [.int .u64 (IntKind.u64.wrap z),.int .i64 1] (.w (.c (.fr 1 (([bW z]:List UInt8).map bD)))):=by
  have c:=HX G (z%18446744073709551616).toNat 1;rw[show sw (z%18446744073709551616).toNat 1=[bW z] from Rn z,← Rm] at c;exact c
def vH:aB:=⟨1,62,.seq (.reg [oO 1 (.box .roBox (.t 0)),oO 2 (.mv (.k (.c .nil))),oO 3 (.mv (kI 0))]) (.seq (.seq (.reg [oO 6 (.load (.ag 13) (.t 1)),oO 7 (.call 80 [(.t 6)] none),oM 4 7]) (.seq (.reg [oM 8 4,oO 9 (.bin .neq (.t 8) (kI 0))]) (.cond (.t 9) (.seq (.reg [oM 10 4,oO 2 (.mv (.k (.c .nil))),oM 3 10]) (.ret)) (.skip)))) (.seq (.reg [oO 11 (.fieldAddr 0 (.t 1)),oO 12 (.load .sc (.t 11)),oO 13 (.bin .shl (.t 12) (.k (.c (.d (.int .u64 6))))),oO 14 (.fieldAddr 1 (.t 1)),oO 15 (.load .sc (.t 14)),oO 16 (.bin .shl (.t 15) (.k (.c (.d (.int .u64 3))))),oO 17 (.bin .or (.t 13) (.t 16)),oO 18 (.fieldAddr 2 (.t 1)),oO 19 (.load .sc (.t 18)),oO 20 (.bin .or (.t 17) (.t 19)),oM 5 20]) (.seq (.reg [oM 21 5,oO 22 (.conv .u64 (.t 21)),oO 23 (.call 71 [(.t 22),(kI 1)] none),oO 24 (.fieldAddr 3 (.t 1)),
 oO 25 (.load .sc (.t 24)),oO 26 (.conv .u64 (.t 25)),oO 27 (.call 71 [(.t 26),(kI 1)] none),oO 28 (.fieldAddr 4 (.t 1)),oO 29 (.load .sc (.t 28)),oO 30 (.conv .u64 (.t 29)),oO 31 (.call 71 [(.t 30),(kI 1)] none),oO 32 (.fieldAddr 5 (.t 1)),oO 33 (.load .sc (.t 32)),oO 34 (.conv .u64 (.t 33)),oO 35 (.call 71 [(.t 34),(kI 1)] none),oO 36 (.fieldAddr 6 (.t 1)),oO 37 (.load .sc (.t 36)),oO 38 (.conv .u64 (.t 37)),oO 39 (.call 71 [(.t 38),(kI 4)] none),oO 40 (.fieldAddr 7 (.t 1)),oO 41 (.load .sc (.t 40)),oO 42 (.conv .u64 (.t 41)),oO 43 (.call 71 [(.t 42),(kI 4)] none),oO 44 (.fieldAddr 8 (.t 1)),oO 45 (.load .sc (.t 44)),oO 46 (.conv .u64 (.t 45)),oO 47 (.call 71 [(.t 46),(kI 4)] none),oO 48 (.fieldAddr 9 (.t 1)),oO 49 (.load .sc (.t 48)),oO 50 (.call 71 [(.t 49),(kI 8)] none),oO 51 (.fieldAddr 10 (.t 1)),
 oO 52 (.load .sc (.t 51)),oO 53 (.call 71 [(.t 52),(kI 8)] none),oO 54 (.fieldAddr 11 (.t 1)),oO 55 (.load .sc (.t 54)),oO 56 (.call 71 [(.t 55),(kI 8)] none),oO 57 (.fieldAddr 12 (.t 1)),oO 58 (.load .sc (.t 57)),oO 59 (.call 71 [(.t 58),(kI 8)] none),oO 60 (.bldSl false 11 1 (.sl []) [(0,(.t 23)),(1,(.t 27)),(2,(.t 31)),(3,(.t 35)),(4,(.t 39)),(5,(.t 43)),(6,(.t 47)),(7,(.t 50)),(8,(.t 53)),(9,(.t 56)),(10,(.t 59))]),oO 61 (.call 30 [(.t 60)] (some (0,1))),oM 2 61,oO 3 (.mv (kI 0))]) (.ret)))),[(2,none),(3,none)]⟩
theorem O0:aA Try.prog { own:=[61],comp:=[],frz:=[],nils:=[] } Try.f67=some vH:=by kernel_rfl
theorem Ro (G:aj) (h:Hd) (hf:mX h):ar Try.prog G 67 [dj h] (.tup [.c (.d (.sl ((sG h).map bD))),.c (.d (.int .i64 (fg h)))]):=by
  refine aF Try.func67 O0 rfl rfl ?_;have c1:=Rc G h;unfold sG fg at *
  by_cases hv:jH h=true
  ·have hr:lD h:=of_decide_eq_true hv;rw[if_pos hv] at c1 ⊢;rw[if_pos hv];obtain⟨o1,o2,o3,o4,o5,o6,o7,o8,o9,o10,o11⟩:=hr;obtain⟨f1,f2,f3,f4,f5,f6,f7⟩:=hf;have p1:=rj G (h.lp*64+h.vr*8+h.md);have p2:=rj G h.st;have p3:=rj G h.pl;have p4:=rj G h.pr;rw[u64_in _ (by omega) (by omega)] at p1 p2;rw[vZ] at p3 p4;have p5:=gP G h.rd 4 (by decide);have p6:=gP G h.rp 4 (by decide);have p7:=gP G h.ri 4 (by decide);have p8:=gP G h.rf 8 (by decide);have p9:=gP G h.og 8 (by decide);have pA:=gP G h.rc 8 (by decide);have pB:=gP G h.tr 8 (by decide);rw[show (4:Int).toNat=4 from rfl] at p5 p6 p7;rw[show (8:Int).toNat=8 from rfl] at p8 p9 pA pB;have cj:=dw G [[bW (h.lp*64+h.vr*8+h.md)],[bW h.st],[bW h.pl],[bW h.pr],al h.rd 4,al h.rp 4,al h.ri 4,al h.rf 8,al h.og 8,al h.rc 8,al h.tr 8] (by simp) (by simp[bp]);have ef:([[bW (h.lp*64+h.vr*8+h.md)],[bW h.st],[bW h.pl],[bW h.pr],al h.rd 4,al h.rp 4,al h.ri 4,al h.rf 8,al h.og 8,al h.rc 8,al h.tr 8]:List (List UInt8)).flatten=cp h:=by
     unfold cp oS;simp only[Vw,Vv,UX,Vt,Vq]
   rw[ef] at cj;have ho:=Rf o1 o2 (v:=h.vr) (by omega) (by omega) o4 o5;unfold dj at *
   generalize cp h=B at *
   generalize al h.rd 4=B5 at *
   generalize al h.rp 4=B6 at *
   generalize al h.ri 4=B7 at *
   generalize al h.rf 8=B8 at *
   generalize al h.og 8=B9 at *
   generalize al h.rc 8=BA at *
   generalize al h.tr 8=BB at *
   generalize [bW h.st]=B2 at *
   generalize [bW h.pl]=B3 at *
   generalize [bW h.pr]=B4 at *
   generalize hF:h.lp*64+h.vr*8+h.md=F at *
   generalize [bW F]=B1 at *
   simp only[UE,UT] at cj;simp only[vH,ah,ae,aa,seval,iteOmega,toNatUp];refine sC (c1) ?_;simp only[ho,IntKind.bits,ae,aa,seval,iteOmega,toNatUp];refine sD (p1) ?_;refine sD (p2) ?_;refine sD (p3) ?_;refine sD (p4) ?_;refine sD (p5) ?_;refine sD (p6) ?_;refine sD (p7) ?_;refine sD (p8) ?_;refine sD (p9) ?_;refine sD (pA) ?_;refine sD (pB) ?_;refine sD (cj) ?_;exact eS
  ·have hv:jH h=false:=by simpa using hv
   rw[hv] at c1 ⊢;rw[if_neg (by decide:¬ false=true)] at c1;rw[if_neg (by decide:¬ false=true),if_neg (by decide:¬ false=true)];unfold dj at *
   simp only[vH,ah,ae,aa,seval,iteOmega,toNatUp];refine sD (c1) ?_;exact dv (by simp only[ae,aa,seval,iteOmega,toNatUp] <;> rfl) (by simp only[ae,aa,seval,iteOmega,toNatUp])
theorem sL {l:List Fd} {i:Nat} (h:i<l.length):l[i]?=some (l.getD i default):=by
  rw[UD,UB h]; rfl
theorem qm {l:List Fd} {i:Nat} (h:i<l.length):l.getD i default∈l:=by
  rw[UD,UB h];exact U3 h
theorem To (n:Nat):Int.tdiv ((n:Int)+4-1) 4=(((n+3) / 4:Nat):Int):=by
  rw[Int.tdiv_eq_ediv_of_nonneg (by omega)]; omega
theorem Ry {f:Fd} (h:16<(4+f.da.length+3) / 4*4):aW f=(4+f.da.length+3) / 4*4:=by unfold aW; omega
theorem Rz {f:Fd} (h:(4+f.da.length+3) / 4*4≤16):aW f=16:=by unfold aW; omega
theorem G8 {f:Fd} (h:f.ty<0∨65535<f.ty):bA f=4∧iA f=0:=by
  have e:bA f=4:=if_pos h;exact⟨e,by unfold iA; rw[e]; rfl⟩
theorem rl {f:Fd} (h1:0≤f.ty) (h2:f.ty≤65535) (h:aW f≤1232):bA f=0∧iA f=aW f:=by
  have e:bA f=0:=G6 h1 h2 h;exact⟨e,by unfold iA; rw[if_pos e]⟩
theorem O8 {f:Fd} (h1:0≤f.ty) (h2:f.ty≤65535) (h:1232<aW f):bA f=2∧iA f=0:=by
  have e:bA f=2:=by unfold bA; rw[if_neg (by omega),if_pos h]
  exact⟨e,by unfold iA; rw[e]; rfl⟩
def EI:aB:=⟨1,8,.seq (.reg [oO 2 (.mv (kI 0))]) (.seq (.reg [oM 3 0,oO 4 (.bin .add (.t 3) (kI 4)),oO 5 (.bin .sub (.t 4) (kI 1)),oO 6 (.bin .quo (.t 5) (kI 4)),oO 7 (.bin .mul (.t 6) (kI 4)),oM 2 7]) (.ret)),[(2,none)]⟩
theorem O9:aA Try.prog { own:=[],comp:=[],frz:=[],nils:=[] } Try.f81=some EI:=by kernel_rfl
theorem RA (G:aj) (n:Nat) (hn:n≤9000000000000000000):ar Try.prog G 81 [.int .i64 (n:Int)] (.w (.c (.d (.int .i64 (((n+3) / 4*4:Nat):Int))))):=by
  refine aF Try.func81 O9 rfl rfl ?_;have e:=To n;have hq:(n+3) / 4*4≤n+3:=by omega
  generalize (n+3) / 4=q at *
  simp only[EI,ah,ae,aa,seval,iteOmega,toNatUp,e];exact aP
def l8:aB:=⟨1,22,.seq (.reg [oO 1 (.box .roBox (.t 0)),oO 2 (.mv (kI 0)),oO 3 (.mv (kI 0))]) (.seq (.seq (.reg [oO 5 (.fieldAddr 0 (.t 1)),oO 6 (.load .sc (.t 5)),oO 7 (.bin .lss (.t 6) (kI 0)),oM 8 7,oG 9 (.fieldAddr 0 (.t 1)) 8 false,oG 10 (.load .sc (.t 9)) 8 false,oG 11 (.bin .gtr (.t 10) (kI 65535)) 8 false,oO 12 (.pick (.t 8) (.k (.c (.d (.bool true)))) (.t 11))]) (.cond (.t 12) (.seq (.reg [oO 2 (.mv (kI 0)),oO 3 (.mv (kI 4))]) (.ret)) (.skip))) (.seq (.reg [oO 13 (.fieldAddr 1 (.t 1)),oO 14 (.load .sc (.t 13)),oO 15 (.len (.t 14)),oO 16 (.bin .add (kI 4) (.t 15)),oO 17 (.call 81 [(.t 16)] none),oO 18 (.max [(kI 16),(.t 17)]),oM 4 18]) (.seq (.seq (.reg [oM 19 4,oO 20 (.bin .gtr (.t 19) (kI 1232))]) (.cond (.t 20) (.seq (.reg [oO 2 (.mv (kI 0)),oO 3 (.mv (kI 2))]) (.ret)) (.skip)))
 (.seq (.reg [oM 21 4,oM 2 21,oO 3 (.mv (kI 0))]) (.ret))))),[(2,none),(3,none)]⟩
theorem Pb:aA Try.prog { own:=[],comp:=[],frz:=[],nils:=[] } Try.f68=some l8:=by kernel_rfl
theorem G9 (G:aj) (f:Fd) (hd:f.da.length≤8000000000000000000):ar Try.prog G 68 [aR f] (.tup [.c (.d (.int .i64 (iA f:Int))),.c (.d (.int .i64 (bA f)))]):=by
  refine aF Try.func68 Pb rfl rfl ?_;unfold aR;rcases Int.lt_or_le f.ty 0 with h1 | h1
  ·obtain⟨e1,e2⟩:=G8 (f:=f) (.inl h1);rw[e1,e2];simp only[l8,ah,ae,aa,seval,iteOmega,toNatUp];exact eS
  ·rcases Int.lt_or_le 65535 f.ty with h2 | h2
   ·obtain⟨e1,e2⟩:=G8 (f:=f) (.inr h2);rw[e1,e2];have g:(f.ty>65535)=True:=eq_true h2;simp only[l8,ah,ae,aa,seval,iteOmega,toNatUp,g];exact eS
   ·have c:=RA G (4+f.da.length) (by omega);rw[show ((4+f.da.length:Nat):Int)=4+(f.da.length:Int) by omega] at c;have g:(f.ty>65535)=False:=eq_false (by omega);rcases U5 16 ((4+f.da.length+3) / 4*4) with h3 | h3
    ·have hT:=Ry h3;have hb:(4+f.da.length+3) / 4*4≤4+f.da.length+3:=by omega
     rcases U5 1232 (aW f) with h4 | h4
     ·obtain⟨e1,e2⟩:=O8 h1 h2 h4;rw[e1,e2];rw[hT] at h4;generalize (4+f.da.length+3) / 4*4=Y at *
      have g3:((Y:Int)>16)=True:=eq_true (by omega);have g4:((Y:Int)>1232)=True:=eq_true (by omega);simp only[l8,ah,ae,aa,seval,iteOmega,toNatUp,g];refine sC (c) ?_;simp only[g3,g4,VD,Wl,ae,aa,seval,iteOmega,toNatUp];exact eS
     ·obtain⟨e1,e2⟩:=rl h1 h2 h4;rw[e1,e2,hT];rw[hT] at h4;generalize (4+f.da.length+3) / 4*4=Y at *
      have g3:((Y:Int)>16)=True:=eq_true (by omega);have g4:((Y:Int)>1232)=False:=eq_false (by omega);simp only[l8,ah,ae,aa,seval,iteOmega,toNatUp,g];refine sC (c) ?_;simp only[g3,g4,VD,Wl,ae,aa,seval,iteOmega,toNatUp];exact eS
    ·have hT:=Rz h3;obtain⟨e1,e2⟩:=rl h1 h2 (by omega);rw[e1,e2,hT];generalize (4+f.da.length+3) / 4*4=Y at *
     have g3:((Y:Int)>16)=False:=eq_false (by omega);simp only[l8,ah,ae,aa,seval,iteOmega,toNatUp,g];refine sC (c) ?_;simp only[g3,VD,Wl,ae,aa,seval,iteOmega,toNatUp];exact eS
theorem Pf (n:Nat):al 0 n=List.replicate n 0:=by
  unfold al;refine List.ext_getElem (by simp) fun i i1 i2=>?_
  simp
def EJ:aB:=⟨1,30,.seq (.reg [oO 1 (.box .roBox (.t 0)),oO 2 (.mv (.k (.c .nil)))]) (.seq (.reg [oO 7 (.load (.ag 2) (.t 1)),oO 8 (.call 68 [(.t 7)] none),oM 6 8,oO 9 (.extract (.t 6) 0),oO 10 (.extract (.t 6) 1),oM 3 9,oM 4 10]) (.seq (.reg [oM 11 3,oO 12 (.bin .sub (.t 11) (kI 4)),oO 13 (.fieldAddr 1 (.t 1)),oO 14 (.load .sc (.t 13)),oO 15 (.len (.t 14)),oO 16 (.bin .sub (.t 12) (.t 15)),oO 17 (.call 71 [(.k (.c (.d (.int .u64 0)))),(.t 16)] none),oM 5 17]) (.seq (.reg [oO 18 (.fieldAddr 0 (.t 1)),oO 19 (.load .sc (.t 18)),oO 20 (.conv .u64 (.t 19)),oO 21 (.call 71 [(.t 20),(kI 2)] none),oM 22 3,oO 23 (.conv .u64 (.t 22)),oO 24 (.call 71 [(.t 23),(kI 2)] none),oO 25 (.fieldAddr 1 (.t 1)),oO 26 (.load .sc (.t 25)),oM 27 5,oO 28 (.bldSl false 4 1 (.sl []) [(0,(.t 21)),(1,(.t 24)),(2,(.t 26)),(3,(.t 27))]),
 oO 29 (.call 30 [(.t 28)] (some (0,1))),oM 2 29]) (.ret)))),[(2,none)]⟩
theorem Pg:aA Try.prog { own:=[29],comp:=[],frz:=[],nils:=[] } Try.f69=some EJ:=by kernel_rfl
theorem RB (G:aj) (f:Fd) (h:bA f=0):ar Try.prog G 69 [aR f] (.w (.c (.fr 1 ((ej f).map bD)))):=by
  refine aF Try.func69 Pg rfl rfl ?_;obtain⟨h1,h2,h3⟩:=mD h;have hl:=vI f;have hp:=O2 f;have c1:=G9 G f (by omega);have eN:iA f=aW f:=(rl h1 h2 h3).2;rw[h,eN] at c1;have c2:=gP G 0 ((aW f:Int)-4-(f.da.length:Int)) (by omega);rw[show ((aW f:Int)-4-(f.da.length:Int)).toNat=aW f-4-f.da.length by omega,Pf] at c2;have c3:=gP G f.ty.toNat 2 (by decide);rw[show (2:Int).toNat=2 from rfl,show (f.ty.toNat:Int)=f.ty by omega] at c3;have c4:=gP G (aW f) 2 (by decide);rw[show (2:Int).toNat=2 from rfl] at c4;have cj:=dw G [al f.ty.toNat 2,al (aW f) 2,f.da,List.replicate (aW f-4-f.da.length) 0] (by simp) (by simp[bp]; omega);have ef:([al f.ty.toNat 2,al (aW f) 2,f.da,List.replicate (aW f-4-f.da.length) 0]:List (List UInt8)).flatten=ej f:=by
    unfold ej;simp only[Vw,Vv,UX]
  rw[ef] at cj;have n0:iA f≤1232:=by omega
  unfold aR at *
  generalize ej f=B at *
  generalize al f.ty.toNat 2=B1 at *
  generalize al (aW f) 2=B2 at *
  generalize List.replicate (aW f-4-f.da.length) (0:UInt8)=B3 at *
  generalize f.da=da at *
  generalize f.ty=ty at *
  generalize aW f=T at *
  simp only[UE,UT] at cj;simp only[EJ,ah,ae,aa,seval,iteOmega,toNatUp];refine sD (c1) ?_;refine sD (c2) ?_;refine sD (c3) ?_;refine sD (c4) ?_;refine sD (cj) ?_;exact gz
theorem Ph {l:List Fd} (h0:dq l=0) (h:24<l.length):bu l=8∧fG l=[]:=by
  have e:bu l=8:=by unfold bu; rw[if_pos h0,if_pos h]
  exact⟨e,by unfold fG; rw[e]; rfl⟩
theorem MX {l:List Fd} (h0:dq l=0) (h:l.length≤24) (h2:1232<bn l):bu l=2∧fG l=[]:=by
  have e:bu l=2:=by unfold bu; rw[if_pos h0,if_neg (by omega),if_pos h2]
  exact⟨e,by unfold fG; rw[e]; rfl⟩
theorem EK {l:List Fd} (h0:dq l=0) (h:l.length≤24) (h2:bn l≤1232):bu l=0∧fG l=aM l:=by
  have e:bu l=0:=by unfold bu; rw[if_pos h0,if_neg (by omega),if_neg (by omega)]
  exact⟨e,by unfold fG; rw[if_pos e]⟩
theorem Pi {l:List Fd} {e:Int} (h0:dq l=e) (h:e≠0):bu l=e∧fG l=[]:=by
  have e:bu l=e:=by unfold bu; rw[h0,if_neg h]
  exact⟨e,by unfold fG; rw[e,if_neg h]⟩
theorem Pj {l:List Fd} (h:dq l=0) {i:Nat} (hi:i<l.length):bA (l.getD i default)=0:=oq.1 h _ (qm hi)
def mE (l:List Fd) (i:Nat):St:=⟨bc [(0,.w (.c (.d (.sl (l.map aR))))),(4,.w (.c (.d (.int .i64 (bn (l.take i):Int))))),(12,.w (.c (.d (.sl (l.map aR))))),(13,.w (.c (.d (.int .i64 (l.length:Int))))),(14,.w (.c (.d (.int .i64 (i:Int)))))],hL [],uL []⟩
def xf (l:List Fd) (i:Nat):St:=⟨bc [(9,.w (.c (.own 1 1 0 (aM (l.take i)).length))),(37,.w (.c (.d (.sl (l.map aR))))),(38,.w (.c (.d (.int .i64 (l.length:Int))))),(39,.w (.c (.d (.int .i64 (i:Int)))))],hL [(1,.row 1 ((aM (l.take i)).map bD))],uL [1]⟩
def lQ:aL := .seq (.reg [oO 15 (.bin .lss (.t 14) (.t 13))]) (.seq (.cond (.t 15) (.skip) (.exit 0)) (.seq (.block 1 (.seq (.reg [oO 16 (.idxSl 2 (.t 12) (.t 14)),oO 17 (.load (.ag 2) (.t 16)),oO 6 (.alloc [(.d (.int .i64 0)),.nil]),oN (.store (.ag 2) (.t 6) (.t 17))]) (.seq (.reg [oO 19 (.load (.ag 2) (.t 6)),oO 20 (.call 68 [(.t 19)] none),oM 18 20,oO 21 (.extract (.t 18) 0),oO 22 (.extract (.t 18) 1),oM 7 21,oM 8 22]) (.seq (.seq (.reg [oM 23 8,oO 24 (.bin .neq (.t 23) (kI 0))]) (.cond (.t 24) (.seq (.reg [oM 25 8,oO 2 (.mv (.k (.c .nil))),oM 3 25]) (.ret)) (.skip))) (.reg [oM 26 4,oM 27 7,oO 28 (.bin .add (.t 26) (.t 27)),oM 4 28]))))) (.reg [oO 29 (.bin .add (.t 14) (kI 1)),oM 14 29])))
def t8:aL := .seq (.reg [oO 40 (.bin .lss (.t 39) (.t 38))]) (.seq (.cond (.t 40) (.skip) (.exit 2)) (.seq (.block 3 (.seq (.reg [oO 41 (.idxSl 2 (.t 37) (.t 39)),oO 42 (.load (.ag 2) (.t 41)),oO 11 (.alloc [(.d (.int .i64 0)),.nil]),oN (.store (.ag 2) (.t 11) (.t 42))]) (.reg [oM 43 9,oO 44 (.load (.ag 2) (.t 11)),oO 45 (.call 69 [(.t 44)] none),oO 46 (.app false 1 1 (.t 43) (.t 45)),oM 9 46]))) (.reg [oO 47 (.bin .add (.t 39) (kI 1)),oM 39 47])))
def EL:aB:=⟨1,49,.seq (.reg [oO 2 (.mv (.k (.c .nil))),oO 3 (.mv (kI 0))]) (.seq (.reg [oO 4 (.mv (kI 0))]) (.seq (.seq (.reg [oM 12 0,oO 13 (.len (.t 12)),oO 14 (.mv (kI 0))]) (.block 0 (.loop lQ))) (.seq (.seq (.reg [oM 30 0,oO 31 (.len (.t 30)),oO 32 (.bin .gtr (.t 31) (kI 24))]) (.cond (.t 32) (.seq (.reg [oO 2 (.mv (.k (.c .nil))),oO 3 (.mv (kI 8))]) (.ret)) (.skip))) (.seq (.seq (.reg [oM 33 4,oO 34 (.bin .gtr (.t 33) (kI 1232))]) (.cond (.t 34) (.seq (.reg [oO 2 (.mv (.k (.c .nil))),oO 3 (.mv (kI 2))]) (.ret)) (.skip))) (.seq (.reg [oM 35 4,oO 36 (.make true 1 1 (.int .u8 0) (kI 0) (.t 35)),oM 9 36]) (.seq (.seq (.reg [oM 37 0,oO 38 (.len (.t 37)),oO 39 (.mv (kI 0))]) (.block 2 (.loop t8))) (.seq (.reg [oM 48 9,oM 2 48,oO 3 (.mv (kI 0))]) (.ret)))))))),[(2,none),(3,none)]⟩
theorem Pk:aA Try.prog { own:=[],comp:=[],frz:=[],nils:=[] } Try.f51=some EL:=by kernel_rfl
theorem RD (G:aj) (l:List Fd) (hl:l.length≤1000000) (hd:∀ f∈l,f.da.length≤8000000000000000000):ar Try.prog G 51 [.sl (l.map aR)] (.tup [.c (.fr 1 ((fG l).map bD)),.c (.d (.int .i64 (bu l)))]):=by
  refine aF Try.func51 Pk rfl rfl ?_;simp only[EL,ah,ae,aa,seval,iteOmega,toNatUp];refine bH (mE l) (fun i=>l.length-i) (fun i=>i≤l.length∧dq (l.take i)=0) 0 ⟨UR _,rfl⟩ ?_ ?_
  ·refine aG (fun i=>i) ?_ ?_ rfl rfl <;> simp only[wx,aw,aH,aa,seval,iteOmega,toNatUp,MR]
  ·rintro i ⟨hi,hok⟩;have hb:=O4 (l.take i) (oq.1 hok);rw[UI,VP hi] at hb;by_cases hlt:i<l.length
   ·have g:=sL hlt;have c:=G9 G (l.getD i default) (hd _ (qm hlt));have ht:=pN hlt;have hf:=CE hlt hok;by_cases he:bA (l.getD i default)=0
    ·obtain⟨q1,q2,q3⟩:=mD he;have eN:iA (l.getD i default)=aW (l.getD i default):=(rl q1 q2 q3).2;rw[he,eN] at c;rw[he] at hf;unfold aR at c;generalize l.getD i default=x at *
     generalize aW x=T at *
     simp only[lQ,mE,ae,aa,seval,iteOmega,toNatUp,aV,g,aR];refine sD (c) ?_;refine br (i+1) (by omega) ⟨by omega,hf⟩ (aG (fun i=>i) ?_ ?_ rfl rfl) <;> simp only[wx,aw,aH,aa,seval,iteOmega,toNatUp,ht]
    ·obtain⟨e1,e2⟩:=Pi (MU hlt hok he) he;have hne:(bA (l.getD i default)=0)=False:=eq_false he;rw[e1,e2];unfold aR at c;generalize bA (l.getD i default)=e at *
     generalize iA (l.getD i default)=n at *
     generalize l.getD i default=x at *
     simp only[lQ,mE,ae,aa,seval,iteOmega,toNatUp,aV,g,aR];refine sC (c) ?_;simp only[hne,ae,aa,seval,iteOmega,toNatUp];exact cv
   ·have hil:l.take i=l:=UG (by omega);rw[hil] at hok;rcases U5 24 l.length with h24 | h24
    ·obtain⟨e1,e2⟩:=Ph hok h24;rw[e1,e2];have g1:((l.length:Int)>24)=True:=eq_true (by omega);simp only[lQ,mE,ae,aa,seval,iteOmega,toNatUp,g1];exact cv
    ·have g1:((l.length:Int)>24)=False:=eq_false (by omega);rcases U5 1232 (bn l) with h12 | h12
     ·obtain⟨e1,e2⟩:=MX hok h24 h12;rw[e1,e2];have g2:((bn l:Int)>1232)=True:=eq_true (by omega);simp only[lQ,mE,ae,aa,seval,iteOmega,toNatUp,g1,hil,g2];exact cv
     ·obtain⟨e1,e2⟩:=EK hok h24 h12;rw[e1,e2];have g2:((bn l:Int)>1232)=False:=eq_false (by omega);simp only[lQ,mE,ae,aa,seval,iteOmega,toNatUp,g1,hil,g2];refine bH (xf l) (fun i=>l.length-i) (fun i=>i≤l.length) 0 (UR _) ?_ ?_
      ·refine aG (fun _=>288) ?_ ?_ rfl rfl <;> simp only[wx,aw,aH,aa,seval,iteOmega,toNatUp,MS]
      ·intro i hi;by_cases hlt:i<l.length
       ·have g:=sL hlt;have c:=j5 (RB G (l.getD i default) (Pj hok hlt));have ha:=t7 hlt;have h1:=fq (l.take (i+1));have h2:=EF l (i+1);rw[ha,UF] at h1;unfold aR at c;generalize l.getD i default=x at *
        generalize ej x=B at *
        simp only[t8,xf,ae,aa,seval,iteOmega,toNatUp,aV,g,aR];refine sC (c) ?_;simp only[ct,ae,aa,seval,iteOmega,toNatUp];refine br (i+1) (by omega) (by omega) (aG (fun _=>368) ?_ ?_ rfl rfl) <;> simp only[wx,aw,aH,aa,seval,iteOmega,toNatUp,ha]
       ·have hil:l.take i=l:=UG (by omega);simp only[t8,xf,ae,aa,seval,iteOmega,toNatUp,hil];exact cv
theorem wF (G:aj) (l:List Fd) (hl:l.length≤1000000) (hd:∀ f∈l,f.da.length≤8000000000000000000):ar Try.prog G 51 [.sl (l.map aR)] (.tup [.c (.d (.sl ((fG l).map bD))),.c (.d (.int .i64 (bu l)))]):=qC (RD G l hl hd)
def cK (l:List Fd) (k:Int):Nat→List Int
  | 0=>[]
  | n+1=>cK l k n++(if (l.getD n default).ty=k then [(n:Int)] else [])
def bo (l:List Fd) (k:Int):List Int:=cK l k l.length
theorem EM (l:List Fd) (k:Int):∀ n,(cK l k n).length≤n
  | 0=>UJ _
  | n+1=>by
    have:=EM l k n;rw[cK,UF];split <;> simp <;> omega
theorem Ii {l:List Fd} {k:Int} {n:Nat} (h:(l.getD n default).ty=k):cK l k (n+1)=cK l k n++[(n:Int)]:=by rw[cK,if_pos h]
theorem Ij {l:List Fd} {k:Int} {n:Nat} (h:(l.getD n default).ty≠k):cK l k (n+1)=cK l k n:=by rw[cK,if_neg h,UX]
def rR (l:List Fd) (k:Int) (i:Nat):St:=⟨bc [(1,.w (.c (.d (.int .i64 k)))),(5,.w (.c (.own 1 1 0 (cK l k i).length))),(8,.w (.c (.d (.sl (l.map aR))))),(9,.w (.c (.d (.int .i64 (l.length:Int))))),(10,.w (.c (.d (.int .i64 (i:Int)))))],hL [(1,.row 1 ((cK l k i).map zD))],uL [1]⟩
def pO:aL := .seq (.reg [oO 11 (.bin .lss (.t 10) (.t 9))]) (.seq (.cond (.t 11) (.skip) (.exit 0)) (.seq (.block 1 (.seq (.reg [oM 12 10,oO 13 (.idxSl 2 (.t 8) (.t 10)),oO 14 (.load (.ag 2) (.t 13)),oO 7 (.alloc [(.d (.int .i64 0)),.nil]),oM 6 12,oN (.store (.ag 2) (.t 7) (.t 14))]) (.seq (.reg [oO 15 (.fieldAddr 0 (.t 7)),oO 16 (.load .sc (.t 15)),oM 17 1,oO 18 (.bin .eql (.t 16) (.t 17))]) (.cond (.t 18) (.reg [oM 19 5,oM 20 6,oO 21 (.bldSl false 1 1 (.int .i64 0) [(0,(.t 20))]),oO 22 (.app false 1 8 (.t 19) (.t 21)),oM 5 22]) (.skip))))) (.reg [oO 23 (.bin .add (.t 10) (kI 1)),oM 10 23])))
def EO:aB:=⟨2,25,.seq (.reg [oO 4 (.mv (.k (.c .nil)))]) (.seq (.reg [oO 5 (.nilOwn 1)]) (.seq (.seq (.reg [oM 8 0,oO 9 (.len (.t 8)),oO 10 (.mv (kI 0))]) (.block 0 (.loop pO))) (.seq (.reg [oM 24 5,oM 4 24]) (.ret)))),[(4,none)]⟩
theorem Pl:aA Try.prog { own:=[5],comp:=[],frz:=[],nils:=[] } Try.f37=some EO:=by kernel_rfl
set_option maxHeartbeats 1600000 in
theorem Ha (G:aj) (l:List Fd) (k:Int) (hl:l.length≤1000000):ar Try.prog G 37 [.sl (l.map aR),.int .i64 k] (.w (.c (.d (.sl ((bo l k).map zD))))):=by
  refine aF Try.func37 Pl rfl rfl ?_;have e0:cK l k 0=[]:=rfl;simp only[EO,ah,ae,aa,seval,iteOmega,toNatUp];refine bH (rR l k) (fun i=>l.length-i) (fun i=>i≤l.length) 0 (UR _) ?_ ?_
  ·refine aG (fun i=>40) ?_ ?_ rfl rfl <;> simp only[wx,aw,aH,aa,seval,iteOmega,toNatUp,e0]
  ·intro i hi;have hb:=EM l k i;have az:=MM (cK l k i);by_cases hlt:i<l.length
   ·have g:=sL hlt;by_cases hk:(l.getD i default).ty=k
    ·have hs:=Ii hk;have hk':((l.getD i default).ty=k)=True:=eq_true hk;generalize l.getD i default=x at *
     simp only[pO,rR,ae,aa,seval,iteOmega,toNatUp,aV,g,aR,hk',ct];refine br (i+1) (by omega) (by omega) (aG (fun _=>176) ?_ ?_ rfl rfl) <;> simp only[hs,U6,zD,wx,aw,aH,aa,seval,iteOmega,toNatUp]
    ·have hs:=Ij hk;have hk':((l.getD i default).ty=k)=False:=eq_false hk;generalize l.getD i default=x at *
     simp only[pO,rR,ae,aa,seval,iteOmega,toNatUp,aV,g,aR,hk',ct];refine br (i+1) (by omega) (by omega) (aG (fun i=>i) ?_ ?_ rfl rfl) <;> simp only[hs,wx,aw,aH,aa,seval,iteOmega,toNatUp]
   ·have hil:i=l.length:=by omega
    have e1:cK l k i=bo l k:=by rw[hil]; rfl
    simp only[pO,rR,ae,aa,seval,iteOmega,toNatUp,e1];exact aP
theorem Tp (z:Nat):Int.tmod (z:Int) 4=((z%4:Nat):Int):=by
  rfl
theorem MY (l:List UInt8) (p:Nat):bK (l.drop p) 0=bK l p:=by
  unfold bK aE;rw[Wk,VG]
def gB (rest z:Nat):Nat:=if ew rest z=0 then z else 0
def l9:aB:=⟨1,24,.seq (.reg [oO 2 (.mv (kI 0)),oO 3 (.mv (kI 0))]) (.seq (.seq (.reg [oM 5 0,oO 6 (.len (.t 5)),oO 7 (.bin .lss (.t 6) (kI 4))]) (.cond (.t 7) (.seq (.reg [oO 2 (.mv (kI 0)),oO 3 (.mv (kI 1))]) (.ret)) (.skip))) (.seq (.reg [oM 8 0,oO 9 (.slice 1 (.t 8) (some (kI 2)) (some (kI 4)) none),oO 10 (.call 56 [(.t 9)] none),oO 11 (.conv .i64 (.t 10)),oM 4 11]) (.seq (.seq (.reg [oM 12 4,oO 13 (.bin .rem (.t 12) (kI 4)),oO 14 (.bin .neq (.t 13) (kI 0)),oM 15 14,oG 16 (.mv (.t 4)) 15 false,oG 17 (.bin .lss (.t 16) (kI 16)) 15 false,oO 18 (.pick (.t 15) (.k (.c (.d (.bool true)))) (.t 17))]) (.cond (.t 18) (.seq (.reg [oO 2 (.mv (kI 0)),oO 3 (.mv (kI 3))]) (.ret)) (.skip))) (.seq (.seq (.reg [oM 19 0,oO 20 (.len (.t 19)),oM 21 4,oO 22 (.bin .lss (.t 20) (.t 21))]) (.cond (.t 22) (.seq (.reg [oO 2 (.mv (kI 0)),
 oO 3 (.mv (kI 1))]) (.ret)) (.skip))) (.seq (.reg [oM 23 4,oM 2 23,oO 3 (.mv (kI 0))]) (.ret)))))),[(2,none),(3,none)]⟩
theorem Pm:aA Try.prog { own:=[],comp:=[],frz:=[],nils:=[] } Try.f74=some l9:=by kernel_rfl
theorem RE (G:aj) (l:List UInt8) (hl:l.length≤9000000000000000000):ar Try.prog G 74 [.sl (l.map bD)] (.tup [.c (.d (.int .i64 (gB l.length (bK l 0):Int))),.c (.d (.int .i64 (ew l.length (bK l 0))))]):=by
  refine aF Try.func74 Pm rfl rfl ?_;rcases U5 l.length 4 with h1 | h1
  ·have e:ew l.length (bK l 0)=1:=if_pos h1;have e2:gB l.length (bK l 0)=0:=by unfold gB; rw[e]; rfl
   rw[e,e2];simp only[l9,ah,ae,aa,seval,iteOmega,toNatUp];exact eS
  ·have c:=mz G (aE l 2 2) (by rw[d6 (by omega)]; decide);have e0:bK l 0=aU (aE l 2 2):=rfl;have hz:=Rs l 0 (by omega);rw[← e0] at c;have ed:(l.drop 2).take (4-2)=aE l 2 2:=rfl;have hm:=Tp (bK l 0);generalize bK l 0=z at *
   have ef:ew l.length z=if z%4≠0∨z<16 then 3 else if l.length<z then 1 else 0:=if_neg (by omega)
   by_cases h2:z%4=0
   ·have g2:(((z%4:Nat):Int)=0)=True:=eq_true (by omega);rcases U5 z 16 with h3 | h3
    ·have e:ew l.length z=3:=by rw[ef,if_pos (.inr h3)]
     have e2:gB l.length z=0:=by unfold gB; rw[e]; rfl
     rw[e,e2];simp only[l9,ah,ae,aa,seval,iteOmega,toNatUp];refine bE c rfl (.inl rfl) ?_;simp only[ae,aa,seval,iteOmega,toNatUp,hm,g2];exact eS
    ·rcases U5 l.length z with h4 | h4
     ·have e:ew l.length z=1:=by rw[ef,if_neg (by omega),if_pos h4]
      have e2:gB l.length z=0:=by unfold gB; rw[e]; rfl
      rw[e,e2];simp only[l9,ah,ae,aa,seval,iteOmega,toNatUp];refine bE c rfl (.inl rfl) ?_;simp only[ae,aa,seval,iteOmega,toNatUp,hm,g2];exact eS
     ·have e:ew l.length z=0:=by rw[ef,if_neg (by omega),if_neg (by omega)]
      have e2:gB l.length z=z:=if_pos e;rw[e,e2];simp only[l9,ah,ae,aa,seval,iteOmega,toNatUp];refine bE c rfl (.inl rfl) ?_;simp only[ae,aa,seval,iteOmega,toNatUp,hm,g2];exact eS
   ·have e:ew l.length z=3:=by rw[ef,if_pos (.inl h2)]
    have e2:gB l.length z=0:=by unfold gB; rw[e]; rfl
    have g2:(((z%4:Nat):Int)=0)=False:=eq_false (by omega);rw[e,e2];simp only[l9,ah,ae,aa,seval,iteOmega,toNatUp];refine bE c rfl (.inl rfl) ?_;simp only[ae,aa,seval,iteOmega,toNatUp,hm,g2];exact eS
def lE (sz:Nat):Nat→List D→List (Nat×Ob)
  | 0,_=>[(1,.box [.nil])]
  | _+1,es=>[(1,.box [.own 3 sz 0 es.length]),(3,.row sz es)]
theorem Pn (sz n:Nat) (es:List D):((lE sz n es).all fun p=>p.2.ids.all fun j=>((lE sz n es).map (·.1)).contains j)=true:=by
  cases n <;> rfl
def mQ (sz:Nat) (E:Nat→List D):Nat→ak
  | 0=>hL [(1,.box [.nil])]
  | k+1=>hL [(1,.box [.own 2 sz 0 (E (k+1)).length]),(2,.row sz (E (k+1)))]
def xN:Nat→Nat→Bool
  | 0=>uL [1]
  | _+1=>uL [1,2]
def mF (l:List UInt8) (F:Nat) (cs:List D) (sz:Nat) (E:Nat→List D) (k:Nat):St :=
  ⟨bc [(0,.w (.c (.d (.sl (l.map bD))))),(1,.w (.c (.cf F [] (cs.map Cp.d++[.p 1 1 0 0])))),(5,.w (.c (.d (.int .i64 (aJ l k:Int))))),(6,.w (.c (.d (.int .i64 (k:Int)))))],mQ sz E k,xN k⟩
theorem EP (F:Nat) (cs:List D) (m1:List (Nat×Ob)):xM [1] [(1,.box [.nil])] m1 [(1,.c (.cf F [] (cs.map Cp.d++[.p 1 1 0 0])))] :=
  ⟨by simp,fun id h _=>⟨_,UO.2 rfl,by simp at h; subst h; simp[W.lnk,Cp.ids,l6]⟩⟩
theorem qL {σ:St} {x0:W} {x:Int} {F:Nat} {cs:List D} {sz:Nat} {E:Nat→List D} (k:Nat) (h1:σ.f 1=.w (.c (.cf F [] (cs.map Cp.d++[.p 1 1 0 0])))) (h4:σ.f 4=.w (.c (.d (.int .i64 x)))) (hh:σ.h=mQ sz E k) :
    mB σ [(4,none)] [1] [x0,.c (.cf F [] (cs.map Cp.d++[.p 1 1 0 0]))] [(1,.box [.nil])] (.w (.c (.d (.int .i64 x)))) (lE sz k (E k)):=by
  cases k with
  | zero =>
    refine mC [] [(1,.c (.cf F [] (cs.map Cp.d++[.p 1 1 0 0])))] (ws:=[.c (.d (.int .i64 x))]) ?_ rfl ?_ rfl ?_ (EP F cs _)
    ·simp only[aD,bJ,h4,fD]
    ·rw[hh]; simp only[mQ,gW,lE,wx,aw,aH,aa,seval,iteOmega,toNatUp,bG]
    ·simp only[jT,h1,wx,aw,aH,aa,seval,iteOmega,toNatUp,bG,U6]
  | succ k =>
    refine mC [(3,2)] [(1,.c (.cf F [] (cs.map Cp.d++[.p 1 1 0 0])))] (ws:=[.c (.d (.int .i64 x))]) ?_ rfl ?_ rfl ?_ (EP F cs _)
    ·simp only[aD,bJ,h4,fD]
    ·rw[hh]; simp only[mQ,gW,lE,wx,aw,aH,aa,seval,iteOmega,toNatUp,bG]
    ·simp only[jT,h1,wx,aw,aH,aa,seval,iteOmega,toNatUp,bG,U6]
def gZ (p z:Nat) (cs:List D):List W:=.c (.d (.int .i64 (p:Int)))::.c (.d (.int .i64 (z:Int)))::(cs.map (fun x=>W.c (.d x))++[.c (.ptr 1 1 0 0)])
def lR:aL := .seq (.seq (.reg [oM 12 5,oM 13 0,oO 14 (.len (.t 13)),oO 15 (.bin .lss (.t 12) (.t 14))]) (.cond (.t 15) (.skip) (.exit 0))) (.seq (.block 1 (.seq (.reg [oM 19 0,oM 20 5,oO 21 (.slice 1 (.t 19) (some (.t 20)) none none),oO 22 (.call 74 [(.t 21)] none),oM 18 22,oO 23 (.extract (.t 18) 0),oO 24 (.extract (.t 18) 1),oM 7 23,oM 8 24]) (.seq (.seq (.reg [oM 25 8,oO 26 (.bin .neq (.t 25) (kI 0))]) (.cond (.t 26) (.seq (.reg [oM 27 8,oM 4 27]) (.ret)) (.skip))) (.seq (.seq (.reg [oM 28 6,oO 29 (.bin .eql (.t 28) (kI 24))]) (.cond (.t 29) (.seq (.reg [oO 4 (.mv (kI 8))]) (.ret)) (.skip))) (.seq (.reg [oM 30 1,oM 31 5,oM 32 7,oO 33 (.callM 1000000007 [(.t 30),(.t 31),(.t 32)])]) (.reg [oM 34 5,oM 35 7,oO 36 (.bin .add (.t 34) (.t 35)),oM 5 36])))))) (.reg [oM 16 6,oO 17 (.bin .add (.t 16) (kI 1)),
 oM 6 17]))
def vK:aB:=⟨2,37,.seq (.reg [oO 4 (.mv (kI 0))]) (.seq (.seq (.reg [oM 9 0,oO 10 (.len (.t 9)),oO 11 (.bin .gtr (.t 10) (kI 1232))]) (.cond (.t 11) (.seq (.reg [oO 4 (.mv (kI 2))]) (.ret)) (.skip))) (.seq (.reg [oO 5 (.mv (kI 0))]) (.seq (.seq (.reg [oO 6 (.mv (kI 0))]) (.block 0 (.loop lR))) (.seq (.reg [oO 4 (.mv (kI 0))]) (.ret))))),[(4,none)]⟩
theorem Po:aA Try.prog { own:=[],comp:=[],frz:=[],nils:=[],mt:=[33],mv:=true } Try.f58=some vK:=by kernel_rfl
theorem Hb (G:aj) (l:List UInt8) (hl:l.length≤9000000000000000000) (F:FuncId) (cs:List D) (sz:Nat) (E:Nat→List D) (he:∀ (args:Array Value) (w:World),(callFunc F args).run Try.prog w=.ok (.enter F args) w)
    (h0:0<ek l→fC Try.prog G F (gZ (aJ l 0) (bK l (aJ l 0)) cs) [(1,.box [.nil])] (.tup []) [(1,.box [.own 3 sz 0 (E 1).length]),(3,.row sz (E 1))])
    (hs:∀ k,k+1<ek l→fC Try.prog G F (gZ (aJ l (k+1)) (bK l (aJ l (k+1))) cs) [(1,.box [.own 2 sz 0 (E (k+1)).length]),(2,.row sz (E (k+1)))] (.tup []) [(1,.box [.own 3 sz 0 (E (k+2)).length]),(3,.row sz (E (k+2)))]) :
    fC Try.prog G 58 [.c (.d (.sl (l.map bD))),.c (.cf F [] (cs.map Cp.d++[.p 1 1 0 0]))] [(1,.box [.nil])] (.w (.c (.d (.int .i64 (cx l))))) (lE sz (ek l) (E (ek l))):=by
  refine nm Try.func58 Po [1] rfl rfl rfl (by simp[W.ids,C.ids,Cp.ids,l6]) (Pn _ _ _) rfl rfl ?_;have hlnk:∀ m1,xM [1] [(1,.box [.nil])] m1 [(1,.c (.cf F [] (cs.map Cp.d++[.p 1 1 0 0])))]:=fun m1=>⟨by simp,fun id h _=>⟨_,UO.2 rfl,by simp at h; subst h; simp[W.lnk,Cp.ids,l6]⟩⟩
  rcases U5 1232 l.length with h1 | h1
  ·have e1:cx l=2:=if_pos h1;have e2:ek l=0:=if_pos h1;rw[e1,e2];have g1:((l.length:Int)>1232)=True:=eq_true (by omega);simp only[vK,ep,lE,je,ae,aa,seval,iteOmega,toNatUp,g1];exact qL (E:=E) (sz:=sz) 0 (by simp only[ae,aa,seval,iteOmega,toNatUp]) (by simp only[ae,aa,seval,iteOmega,toNatUp]) rfl
  ·have eN:ek l=cU l:=if_neg (by omega);have eE:cx l=(cJ l (cU l)).getD 0:=if_neg (by omega);obtain⟨c1,c2,c3⟩:=l7 l;rw[eN] at h0 hs ⊢;have g1:((l.length:Int)>1232)=False:=eq_false (by omega);simp only[vK,ep,je,ae,aa,seval,iteOmega,toNatUp,g1];refine bH (mF l F cs sz E) (fun k=>cU l-k) (fun k=>k≤cU l) 0 (UR _) ?_ ?_
   ·refine aG (fun i=>i) ?_ ?_ rfl (by simp[V.ids,W.ids,C.ids,Ob.ids,Cp.ids,l6]) <;> simp only[aJ,wx,aw,aH,aa,seval,iteOmega,toNatUp,bG,U6]
   ·intro k hk;have hp:=wE l k hk;have cf:=RE G (l.drop (aJ l k)) (by simp; omega);rw[MY,UK] at cf;have et:(l.drop (aJ l k)).take (l.length-aJ l k)=l.drop (aJ l k):=UG (by simp);have hend:∀ x,cJ l k=some x→cU l=k∧cx l=x:=fun x hx=>by
      have e:cU l=k:=by
        rcases U5 k (cU l) with h | h
        ·rw[c3 k h] at hx; cases hx
        ·omega
      exact⟨e,by rw[eE,e,hx]; rfl⟩
    cases hst:cJ l k with
    | some x =>
      obtain⟨e1,e2⟩:=hend x hst;rw[e1,e2];clear hend e1 e2 hs h0 c3 c2 eE eN;unfold cJ at hst;split at hst
      ·rename_i q1;obtain rfl:=Option.some.inj hst;simp only[lR,mF,je,ae,aa,seval,iteOmega,toNatUp];exact qL k (by simp only[ae,aa,seval,iteOmega,toNatUp]) (by simp only[ae,aa,seval,iteOmega,toNatUp]) rfl
      ·rename_i q1;have q1':(aJ l k:Int)<(l.length:Int):=by omega
       split at hst
       ·rename_i q2;obtain rfl:=Option.some.inj hst;have q3:(ew (l.length-aJ l k) (bK l (aJ l k))=0)=False:=eq_false q2;generalize ew (l.length-aJ l k) (bK l (aJ l k))=e at *
        generalize gB (l.length-aJ l k) (bK l (aJ l k))=z at *
        simp only[lR,mF,je,ae,aa,seval,iteOmega,toNatUp,et];refine sC (cf) ?_;simp only[q3,je,ae,aa,seval,iteOmega,toNatUp];exact qL k (by simp only[ae,aa,seval,iteOmega,toNatUp]) (by simp only[ae,aa,seval,iteOmega,toNatUp]) rfl
       ·rename_i q2;have q2:ew (l.length-aJ l k) (bK l (aJ l k))=0:=by simpa using q2
        rw[q2] at cf;split at hst
        ·rename_i q3;obtain rfl:=Option.some.inj hst;have q4:((k:Int)=24)=True:=eq_true (by omega);generalize gB (l.length-aJ l k) (bK l (aJ l k))=z at *
         simp only[lR,mF,je,ae,aa,seval,iteOmega,toNatUp,et];refine sC (cf) ?_;simp only[q4,je,ae,aa,seval,iteOmega,toNatUp];exact qL k (by simp only[ae,aa,seval,iteOmega,toNatUp]) (by simp only[ae,aa,seval,iteOmega,toNatUp]) rfl
        ·cases hst
    | none =>
      obtain⟨q1,q2,q3⟩:=CF hst;obtain⟨q4,q5,q6,_⟩:=wC hst;have hkc:k<cU l:=by
        rcases U5 k (cU l) with h | h
        ·exact h
        ·have:cU l=k:=by omega
         rw[this,hst] at c2; cases c2
      have ez:gB (l.length-aJ l k) (bK l (aJ l k))=bK l (aJ l k):=if_pos q2;rw[q2,ez] at cf;have q1':(aJ l k:Int)<(l.length:Int):=by omega
      have hpl:aJ l (k+1)=aJ l k+bK l (aJ l k):=rfl;have q7:((k:Int)=24)=False:=eq_false (by omega);rcases k with _ | k
      ·have hc:=h0 (by omega);clear hend hs h0 c3 c2 eE eN hst;generalize bK l (aJ l 0)=z at *
       simp only[lR,mF,mQ,xN,je,ae,aa,seval,iteOmega,toNatUp,et];refine sC (cf) ?_;simp only[q7,ae,aa,seval,iteOmega,toNatUp];refine Ih (pre:=[]) (post:=cs.map Cp.d++[.p 1 1 0 0]) [.c (.d (.int .i64 (aJ l 0:Int))),.c (.d (.int .i64 (z:Int)))] [(3,1000)] hc he ?_ ?_ ?_ rfl rfl ?_
       ·simp only[ae,aa,seval,iteOmega,toNatUp]
       ·simp only[gZ,ae,aa,seval,iteOmega,toNatUp,bG,U6]
       ·simp only[wx,aw,aH,aa,seval,iteOmega,toNatUp,bG]
       ·simp only[ae,aa,seval,iteOmega,toNatUp,bG];refine br 1 (by omega) (by omega) (aG (fun i=>if i=2 then 1000 else i) ?_ ?_ rfl (by simp[V.ids,W.ids,C.ids,Ob.ids,Cp.ids,l6])) <;> simp only[hpl,wx,aw,aH,aa,seval,iteOmega,toNatUp,bG,U6]
      ·have hc:=hs k (by omega);clear hend hs h0 c3 c2 eE eN hst;have q8:((k:Int)+1=24)=False:=eq_false (by omega);generalize bK l (aJ l (k+1))=z at *
       simp only[lR,mF,mQ,xN,je,ae,aa,seval,iteOmega,toNatUp,et];refine sC (cf) ?_;simp only[q8,ae,aa,seval,iteOmega,toNatUp];refine Ih (pre:=[]) (post:=cs.map Cp.d++[.p 1 1 0 0]) [.c (.d (.int .i64 (aJ l (k+1):Int))),.c (.d (.int .i64 (z:Int)))] [(3,1000)] hc he ?_ ?_ ?_ rfl rfl ?_
       ·simp only[ae,aa,seval,iteOmega,toNatUp]
       ·simp only[gZ,ae,aa,seval,iteOmega,toNatUp,bG,U6]
       ·simp only[wx,aw,aH,aa,seval,iteOmega,toNatUp,bG]
       ·simp only[ae,aa,seval,iteOmega,toNatUp,bG];refine br (k+1+1) (by omega) (by omega) (aG (fun i=>if i=2 then 1000 else i) ?_ ?_ rfl (by simp[V.ids,W.ids,C.ids,Ob.ids,Cp.ids,l6])) <;> simp only[hpl,wx,aw,aH,aa,seval,iteOmega,toNatUp,bG,U6]
def kB (l:List UInt8) (p z:Nat):Fd:=⟨(aU (aE l p 2):Int),aE l (p+4) (z-4)⟩
theorem Hc {l:List UInt8} {p z:Nat} (h4:4≤z) (hz:p+z≤l.length):((l.drop p).take (p+z-p)).length=z∧((l.drop p).take (p+z-p)).take 2=aE l p 2∧(((l.drop p).take (p+z-p)).drop 4).take (z-4)=aE l (p+4) (z-4):=by
  rw[Nat.add_sub_cancel_left];refine⟨by simp; omega,?_,?_⟩
  ·rw[List.take_take,VP (by omega)]; rfl
  ·rw[List.drop_take,List.take_take,Nat.min_self,Wk]; rfl
def vL:aB:=⟨4,25,.seq (.reg [oO 7 (.load .sc (.t 2)),oM 8 0,oM 9 0,oM 10 1,oO 11 (.bin .add (.t 9) (.t 10)),oO 12 (.slice 1 (.t 7) (some (.t 8)) (some (.t 11)) none),oM 6 12]) (.reg [oO 13 (.load .sc (.t 3)),oM 14 6,oO 15 (.slice 1 (.t 14) none (some (kI 2)) none),oO 16 (.call 56 [(.t 15)] none),oO 17 (.conv .i64 (.t 16)),oM 18 6,oO 19 (.slice 1 (.t 18) (some (kI 4)) none none),oO 20 (.bldSl false 1 1 (.sl []) [(0,(.t 19))]),oO 21 (.call 30 [(.t 20)] none),oO 22 (.build [(.d (.int .i64 0)),.nil] [(0,1,(.t 17)),(1,1,(.t 21))]),oO 23 (.bldSl false 1 2 (.agg [(.int .i64 0),(.sl [])]) [(0,(.t 22))]),oO 24 (.app false 2 32 (.t 13) (.t 23)),oN (.store .sc (.t 3) (.t 24))]),[]⟩
theorem EQ:aA Try.prog { own:=[],comp:=[],frz:=[],nils:=[] } Try.f63=some vL:=by kernel_rfl
theorem RF (G:aj) (l:List UInt8) (p z:Nat) (h4:4≤z) (hz:p+z≤l.length) (hl:l.length≤1232):fC Try.prog G 63 (gZ p z [.ref [.sl (l.map bD)]]) [(1,.box [.nil])] (.tup []) [(1,.box [.own 3 2 0 1]),(3,.row 2 [aR (kB l p z)])]:=by
  unfold gZ;refine nm Try.func63 EQ [3] rfl rfl rfl rfl rfl rfl rfl ?_;have c1:=mz G (aE l p 2) (by rw[d6 (by omega)]; decide);have hty:=(jV 2 (aE l p 2) (d6 (by omega)) (by decide)).1;have cj:=dw G [aE l (p+4) (z-4)] (by simp) (by simp[d6 (show p+4+(z-4)≤l.length by omega)]; omega);simp only[UE,UT,Vw,Vv,UX] at cj;obtain⟨q0,q1,q2⟩:=Hc h4 hz;unfold kB aR;generalize aU (aE l p 2)=ty at *
  generalize aE l p 2=B1 at *
  generalize aE l (p+4) (z-4)=B2 at *
  simp only[vL,ep,lX,ae,aa,seval,iteOmega,toNatUp,q0,q1,q2];refine sC (c1) ?_;simp only[q0,q1,q2,ae,aa,seval,iteOmega,toNatUp];refine sC (cj) ?_;simp only[ct,lX,ae,aa,seval,iteOmega,toNatUp];refine mC [(3,192)] [(3,.c (.ptr 1 1 0 0))] (ws:=[]) rfl rfl ?_ rfl ?_ ⟨by simp,fun id h _=>⟨_,UO.2 rfl,by simp at h; subst h; simp[W.lnk]⟩⟩ <;> simp only[jT,wx,aw,aH,aa,seval,iteOmega,toNatUp,bG]
theorem RG (G:aj) (l:List UInt8) (p z:Nat) (h4:4≤z) (hz:p+z≤l.length) (hl:l.length≤1232) (es:List Fd) (he:es.length≤24):fC Try.prog G 63 (gZ p z [.ref [.sl (l.map bD)]]) [(1,.box [.own 2 2 0 (es.map aR).length]),(2,.row 2 (es.map aR))] (.tup []) [(1,.box [.own 3 2 0 ((es++[kB l p z]).map aR).length]),(3,.row 2 ((es++[kB l p z]).map aR))]:=by
  unfold gZ;refine nm Try.func63 EQ [3] rfl rfl rfl rfl rfl rfl rfl ?_;have c1:=mz G (aE l p 2) (by rw[d6 (by omega)]; decide);have hty:=(jV 2 (aE l p 2) (d6 (by omega)) (by decide)).1;have cj:=dw G [aE l (p+4) (z-4)] (by simp) (by simp[d6 (show p+4+(z-4)≤l.length by omega)]; omega);simp only[UE,UT,Vw,Vv,UX] at cj;obtain⟨q0,q1,q2⟩:=Hc h4 hz;rw[show (es++[kB l p z]).map aR=es.map aR++[aR (kB l p z)] by simp];unfold kB;rw[show aR ⟨(aU (aE l p 2):Int),aE l (p+4) (z-4)⟩=.agg [.int .i64 (aU (aE l p 2):Int),.sl ((aE l (p+4) (z-4)).map bD)] from rfl];generalize aU (aE l p 2)=ty at *
  generalize aE l p 2=B1 at *
  generalize aE l (p+4) (z-4)=B2 at *
  have hel:(es.map aR).length≤24:=by simpa using he
  generalize es.map aR=E at *
  simp only[vL,ep,lX,ae,aa,seval,iteOmega,toNatUp,q0,q1,q2];refine sC (c1) ?_;simp only[q0,q1,q2,ae,aa,seval,iteOmega,toNatUp];refine sC (cj) ?_;simp only[ct,lX,ae,aa,seval,iteOmega,toNatUp];refine mC [(3,192)] [(3,.c (.ptr 1 1 0 0))] (ws:=[]) rfl rfl ?_ rfl ?_ ⟨by simp,fun id h _=>⟨_,UO.2 rfl,by simp at h; rcases h with rfl | rfl <;> simp[W.lnk] at *⟩⟩ <;> simp only[jT,wx,aw,aH,aa,seval,iteOmega,toNatUp,bG]
theorem RH:∀ (args:Array Value) (w:World),(callFunc 63 args).run Try.prog w=.ok (.enter 63 args) w:=enters_of Try.func63 (by kernel_rfl) rfl
def vM:aB:=⟨3,9,.reg [oO 5 (.load .sc (.t 2)),oM 6 0,oO 7 (.bldSl false 1 1 (.int .i64 0) [(0,(.t 6))]),oO 8 (.app false 1 8 (.t 5) (.t 7)),oN (.store .sc (.t 2) (.t 8))],[]⟩
theorem ER:aA Try.prog { own:=[],comp:=[],frz:=[],nils:=[] } Try.f59=some vM:=by kernel_rfl
theorem RI (G:aj) (p z:Nat):fC Try.prog G 59 (gZ p z []) [(1,.box [.nil])] (.tup []) [(1,.box [.own 3 1 0 1]),(3,.row 1 [.int .i64 (p:Int)])]:=by
  unfold gZ;refine nm Try.func59 ER [2] rfl rfl rfl rfl rfl rfl rfl ?_;simp only[vM,ep,lX,ct,ae,aa,seval,iteOmega,toNatUp];refine mC [(3,64)] [(2,.c (.ptr 1 1 0 0))] (ws:=[]) rfl rfl ?_ rfl ?_ ⟨by simp,fun id h _=>⟨_,UO.2 rfl,by simp at h; subst h; simp[W.lnk]⟩⟩ <;> simp only[jT,wx,aw,aH,aa,seval,iteOmega,toNatUp,bG]
theorem RJ (G:aj) (p z:Nat) (es:List Int) (he:es.length≤24):fC Try.prog G 59 (gZ p z []) [(1,.box [.own 2 1 0 (es.map zD).length]),(2,.row 1 (es.map zD))] (.tup []) [(1,.box [.own 3 1 0 ((es++[(p:Int)]).map zD).length]),(3,.row 1 ((es++[(p:Int)]).map zD))]:=by
  unfold gZ;refine nm Try.func59 ER [2] rfl rfl rfl rfl rfl rfl rfl ?_;rw[show (es++[(p:Int)]).map zD=es.map zD++[zD (p:Int)] by simp];have hel:(es.map zD).length≤24:=by simpa using he
  generalize es.map zD=E at *
  unfold zD;simp only[vM,ep,lX,ct,ae,aa,seval,iteOmega,toNatUp];refine mC [(3,64)] [(2,.c (.ptr 1 1 0 0))] (ws:=[]) rfl rfl ?_ rfl ?_ ⟨by simp,fun id h _=>⟨_,UO.2 rfl,by simp at h; rcases h with rfl | rfl <;> simp[W.lnk] at *⟩⟩ <;> simp only[jT,wx,aw,aH,aa,seval,iteOmega,toNatUp,bG]
theorem RL:∀ (args:Array Value) (w:World),(callFunc 59 args).run Try.prog w=.ok (.enter 59 args) w:=enters_of Try.func59 (by kernel_rfl) rfl
theorem rm (l:List UInt8):ek l≤24∧∀ k,k<ek l→l.length≤1232∧k<cU l:=by
  have h:=(l7 l).1;unfold ek;split
  ·exact⟨by omega,fun k hk=>by omega⟩
  ·exact⟨h,fun k hk=>⟨by omega,hk⟩⟩
theorem He {l:List UInt8} {k:Nat} (hk:k<ek l):l.length≤1232∧4≤bK l (aJ l k)∧aJ l k+bK l (aJ l k)≤l.length:=by
  obtain⟨h1,h2⟩:=(rm l).2 k hk;have:=wC ((l7 l).2.2 k h2);omega
def nG:aB:=⟨1,13,.seq (.reg [oO 1 (.box .roBox (.t 0)),oO 2 (.mv (.k (.c .nil))),oO 3 (.mv (kI 0))]) (.seq (.reg [oO 4 (.alloc [.nil])]) (.seq (.reg [oO 6 (.load .sc (.t 1)),oO 7 (.closM 63 [] [(.t 1),(.t 4)]),oO 8 (.callM 58 [(.t 6),(.t 7)]),oM 5 8]) (.seq (.seq (.reg [oM 9 5,oO 10 (.bin .neq (.t 9) (kI 0))]) (.cond (.t 10) (.seq (.reg [oM 11 5,oO 2 (.mv (.k (.c .nil))),oM 3 11]) (.ret)) (.skip))) (.seq (.reg [oO 12 (.load .sc (.t 4)),oM 2 12,oO 3 (.mv (kI 0))]) (.ret))))),[(2,none),(3,none)]⟩
theorem Pp:aA Try.prog { own:=[],comp:=[],frz:=[],nils:=[],mt:=[7,8] } Try.f41=some nG:=by kernel_rfl
theorem Hf (G:aj) (l:List UInt8) (hl:l.length≤9000000000000000000):ar Try.prog G 41 [.sl (l.map bD)] (.tup [.c (.d (.sl ((aY l).map aR))),.c (.d (.int .i64 (cx l)))]):=by
  refine aF Try.func41 Pp rfl rfl ?_;have c:=Hb G l hl _ [.ref [.sl (l.map bD)]] 2 (fun k=>(fh l k).map aR) RH (fun h=>by
    obtain⟨h1,h2,h3⟩:=He h;exact RF G l (aJ l 0) (bK l (aJ l 0)) h2 h3 h1) (fun k h=>by
    obtain⟨h1,h2,h3⟩:=He h;have h4:=(rm l).1;have:=RG G l (aJ l (k+1)) (bK l (aJ l (k+1))) h2 h3 h1 (fh l (k+1)) (by rw[vJ]; omega);rw[show fh l (k+1)++[kB l (aJ l (k+1)) (bK l (aJ l (k+1)))]=fh l (k+2) from (MV l (k+1)).symm] at this;exact this)
  have hx:aY l=if cx l=0 then fh l (ek l) else []:=rfl
  rw[hx];generalize cx l=e at *
  cases hn:ek l with
  | zero =>
    rw[hn] at c;have c:fC Try.prog G _ [.c (.d (.sl (l.map bD))),.c (.cf 63 [] [.d (.ref [.sl (l.map bD)]),.p 1 1 0 0])] [(1,.box [.nil])] (.w (.c (.d (.int .i64 e)))) [(1,.box [.nil])]:=c;have hr:fh l 0=[]:=rfl;rw[hr,show (if e=0 then ([]:List Fd) else [])=[] by split <;> rfl];by_cases he:e=0
    ·have he':(e=0)=True:=eq_true he;simp only[nG,ah,dW,dF,ae,aa,seval,iteOmega,toNatUp];refine kh [.c (.d (.sl (l.map bD))),.c (.cf 63 [] [.d (.ref [.sl (l.map bD)]),.p 32 1 0 0])] [(1,32)] c ?_ ?_ ?_ rfl rfl ?_
     ·simp only[ae,aa,seval,iteOmega,toNatUp]
     ·simp only[ae,aa,seval,iteOmega,toNatUp,bG]
     ·simp only[wx,aw,aH,aa,seval,iteOmega,toNatUp,bG]
     ·simp only[bG,ae,aa,seval,iteOmega,toNatUp,he'];rw[he];exact dv (by simp only[ae,aa,seval,iteOmega,toNatUp]; try rfl) (by simp only[ae,aa,seval,iteOmega,toNatUp])
    ·have he':(e=0)=False:=eq_false he;simp only[nG,ah,dW,dF,ae,aa,seval,iteOmega,toNatUp];refine kh [.c (.d (.sl (l.map bD))),.c (.cf 63 [] [.d (.ref [.sl (l.map bD)]),.p 32 1 0 0])] [(1,32)] c ?_ ?_ ?_ rfl rfl ?_
     ·simp only[ae,aa,seval,iteOmega,toNatUp]
     ·simp only[ae,aa,seval,iteOmega,toNatUp,bG]
     ·simp only[wx,aw,aH,aa,seval,iteOmega,toNatUp,bG]
     ·simp only[bG,ae,aa,seval,iteOmega,toNatUp,he'];exact dv (by simp only[ae,aa,seval,iteOmega,toNatUp]; try rfl) (by simp only[ae,aa,seval,iteOmega,toNatUp])
  | succ n =>
    rw[hn] at c;have c:fC Try.prog G _ [.c (.d (.sl (l.map bD))),.c (.cf 63 [] [.d (.ref [.sl (l.map bD)]),.p 1 1 0 0])] [(1,.box [.nil])] (.w (.c (.d (.int .i64 e)))) [(1,.box [.own 3 2 0 ((fh l (n+1)).map aR).length]),(3,.row 2 ((fh l (n+1)).map aR))]:=c;by_cases he:e=0
    ·rw[if_pos he];have he':(e=0)=True:=eq_true he;simp only[nG,ah,dW,dF,ae,aa,seval,iteOmega,toNatUp];refine kh [.c (.d (.sl (l.map bD))),.c (.cf 63 [] [.d (.ref [.sl (l.map bD)]),.p 32 1 0 0])] [(1,32),(3,1000)] c ?_ ?_ ?_ rfl rfl ?_
     ·simp only[ae,aa,seval,iteOmega,toNatUp]
     ·simp only[ae,aa,seval,iteOmega,toNatUp,bG]
     ·simp only[wx,aw,aH,aa,seval,iteOmega,toNatUp,bG]
     ·simp only[bG,ae,aa,seval,iteOmega,toNatUp,he'];rw[he];exact dv (by simp only[ae,aa,seval,iteOmega,toNatUp]; try rfl) (by simp only[ae,aa,seval,iteOmega,toNatUp])
    ·rw[if_neg he];have he':(e=0)=False:=eq_false he;simp only[nG,ah,dW,dF,ae,aa,seval,iteOmega,toNatUp];refine kh [.c (.d (.sl (l.map bD))),.c (.cf 63 [] [.d (.ref [.sl (l.map bD)]),.p 32 1 0 0])] [(1,32),(3,1000)] c ?_ ?_ ?_ rfl rfl ?_
     ·simp only[ae,aa,seval,iteOmega,toNatUp]
     ·simp only[ae,aa,seval,iteOmega,toNatUp,bG]
     ·simp only[wx,aw,aH,aa,seval,iteOmega,toNatUp,bG]
     ·simp only[bG,ae,aa,seval,iteOmega,toNatUp,he'];exact dv (by simp only[ae,aa,seval,iteOmega,toNatUp]; try rfl) (by simp only[ae,aa,seval,iteOmega,toNatUp])
def nH:aB:=⟨1,13,.seq (.reg [oO 2 (.mv (.k (.c .nil))),oO 3 (.mv (kI 0))]) (.seq (.reg [oO 4 (.alloc [.nil])]) (.seq (.reg [oM 6 0,oO 7 (.closM 59 [] [(.t 4)]),oO 8 (.callM 58 [(.t 6),(.t 7)]),oM 5 8]) (.seq (.seq (.reg [oM 9 5,oO 10 (.bin .neq (.t 9) (kI 0))]) (.cond (.t 10) (.seq (.reg [oM 11 5,oO 2 (.mv (.k (.c .nil))),oM 3 11]) (.ret)) (.skip))) (.seq (.reg [oO 12 (.load .sc (.t 4)),oM 2 12,oO 3 (.mv (kI 0))]) (.ret))))),[(2,none),(3,none)]⟩
theorem Pq:aA Try.prog { own:=[],comp:=[],frz:=[],nils:=[],mt:=[7,8] } Try.f39=some nH:=by kernel_rfl
theorem RN (G:aj) (l:List UInt8) (hl:l.length≤9000000000000000000):ar Try.prog G 39 [.sl (l.map bD)] (.tup [.c (.d (.sl ((iB l).map zD))),.c (.d (.int .i64 (cx l)))]):=by
  refine aF Try.func39 Pq rfl rfl ?_;have c:=Hb G l hl _ [] 1 (fun k=>(eU l k).map zD) RL (fun h=>RI G (aJ l 0) (bK l (aJ l 0))) (fun k h=>by
    have h4:=(rm l).1;have:=RJ G (aJ l (k+1)) (bK l (aJ l (k+1))) (eU l (k+1)) (by rw[O5]; omega);rw[show eU l (k+1)++[(aJ l (k+1):Int)]=eU l (k+2) from (MW l (k+1)).symm] at this;exact this)
  have hx:iB l=if cx l=0 then eU l (ek l) else []:=rfl
  rw[hx];generalize cx l=e at *
  cases hn:ek l with
  | zero =>
    rw[hn] at c;have c:fC Try.prog G _ [.c (.d (.sl (l.map bD))),.c (.cf 59 [] [.p 1 1 0 0])] [(1,.box [.nil])] (.w (.c (.d (.int .i64 e)))) [(1,.box [.nil])]:=c;have hr:eU l 0=[]:=rfl;rw[hr,show (if e=0 then ([]:List Int) else [])=[] by split <;> rfl];by_cases he:e=0
    ·have he':(e=0)=True:=eq_true he;simp only[nH,ah,dW,dF,ae,aa,seval,iteOmega,toNatUp];refine kh [.c (.d (.sl (l.map bD))),.c (.cf 59 [] [.p 32 1 0 0])] [(1,32)] c ?_ ?_ ?_ rfl rfl ?_
     ·simp only[ae,aa,seval,iteOmega,toNatUp]
     ·simp only[ae,aa,seval,iteOmega,toNatUp,bG]
     ·simp only[wx,aw,aH,aa,seval,iteOmega,toNatUp,bG]
     ·simp only[bG,ae,aa,seval,iteOmega,toNatUp,he'];rw[he];exact dv (by simp only[ae,aa,seval,iteOmega,toNatUp]; try rfl) (by simp only[ae,aa,seval,iteOmega,toNatUp])
    ·have he':(e=0)=False:=eq_false he;simp only[nH,ah,dW,dF,ae,aa,seval,iteOmega,toNatUp];refine kh [.c (.d (.sl (l.map bD))),.c (.cf 59 [] [.p 32 1 0 0])] [(1,32)] c ?_ ?_ ?_ rfl rfl ?_
     ·simp only[ae,aa,seval,iteOmega,toNatUp]
     ·simp only[ae,aa,seval,iteOmega,toNatUp,bG]
     ·simp only[wx,aw,aH,aa,seval,iteOmega,toNatUp,bG]
     ·simp only[bG,ae,aa,seval,iteOmega,toNatUp,he'];exact dv (by simp only[ae,aa,seval,iteOmega,toNatUp]; try rfl) (by simp only[ae,aa,seval,iteOmega,toNatUp])
  | succ n =>
    rw[hn] at c;have c:fC Try.prog G _ [.c (.d (.sl (l.map bD))),.c (.cf 59 [] [.p 1 1 0 0])] [(1,.box [.nil])] (.w (.c (.d (.int .i64 e)))) [(1,.box [.own 3 1 0 ((eU l (n+1)).map zD).length]),(3,.row 1 ((eU l (n+1)).map zD))]:=c;by_cases he:e=0
    ·rw[if_pos he];have he':(e=0)=True:=eq_true he;simp only[nH,ah,dW,dF,ae,aa,seval,iteOmega,toNatUp];refine kh [.c (.d (.sl (l.map bD))),.c (.cf 59 [] [.p 32 1 0 0])] [(1,32),(3,1000)] c ?_ ?_ ?_ rfl rfl ?_
     ·simp only[ae,aa,seval,iteOmega,toNatUp]
     ·simp only[ae,aa,seval,iteOmega,toNatUp,bG]
     ·simp only[wx,aw,aH,aa,seval,iteOmega,toNatUp,bG]
     ·simp only[bG,ae,aa,seval,iteOmega,toNatUp,he'];rw[he];exact dv (by simp only[ae,aa,seval,iteOmega,toNatUp]; try rfl) (by simp only[ae,aa,seval,iteOmega,toNatUp])
    ·rw[if_neg he];have he':(e=0)=False:=eq_false he;simp only[nH,ah,dW,dF,ae,aa,seval,iteOmega,toNatUp];refine kh [.c (.d (.sl (l.map bD))),.c (.cf 59 [] [.p 32 1 0 0])] [(1,32),(3,1000)] c ?_ ?_ ?_ rfl rfl ?_
     ·simp only[ae,aa,seval,iteOmega,toNatUp]
     ·simp only[ae,aa,seval,iteOmega,toNatUp,bG]
     ·simp only[wx,aw,aH,aa,seval,iteOmega,toNatUp,bG]
     ·simp only[bG,ae,aa,seval,iteOmega,toNatUp,he'];exact dv (by simp only[ae,aa,seval,iteOmega,toNatUp]; try rfl) (by simp only[ae,aa,seval,iteOmega,toNatUp])
def EV:aB:=⟨1,5,.seq (.reg [oO 2 (.alloc [(.d (.int .i64 0)),(.d (.int .i64 0)),(.d (.int .i64 0)),(.d (.int .i64 0)),(.d (.int .i64 0)),(.d (.int .i64 0)),(.d (.int .u32 0)),(.d (.int .u32 0)),(.d (.int .u32 0)),(.d (.int .u64 0)),(.d (.int .u64 0)),(.d (.int .u64 0)),(.d (.int .u64 0))])]) (.seq (.reg [oM 3 0,oO 4 (.build [(.d (.int .i64 0)),(.d (.int .i64 0)),(.d (.int .i64 0)),(.d (.int .i64 0)),(.d (.int .i64 0)),(.d (.int .i64 0)),(.d (.int .u32 0)),(.d (.int .u32 0)),(.d (.int .u32 0)),(.d (.int .u64 0)),(.d (.int .u64 0)),(.d (.int .u64 0)),(.d (.int .u64 0))] [(1,1,(kI 4)),(2,1,(kI 3)),(4,1,(kI 6)),(12,1,(.t 3))]),oN (.store (.ag 13) (.t 2) (.t 4))]) (.ret)),[(2,(some (.ag 13)))]⟩
theorem PI:aA Try.prog { own:=[],comp:=[],frz:=[],nils:=[] } Try.f22=some EV:=by kernel_rfl
theorem Sd (G:aj) (t:Nat):ar Try.prog G 22 [.int .u64 (t:Int)] (.w (.c (.d (dj (cT t))))):=by
  refine aF Try.func22 PI rfl rfl ?_;unfold dj cT;simp only[EV,ah,ae,aa,seval,iteOmega,toNatUp];exact aP


end Go.Proofs.Ytofonnokanoflaa
