/- Texts of one's own, merged: from: Layer 16: packet,as functions of numbers and bytes. Pure. Own work. -/
import Derived.Test.YtcikhnjfkfigjaaGreatMg110
import Derived.Test.YtcikhnjfkfigjaaGreatMg17
import Derived.Test.YtcikhnjfkfigjaaGreatProg
set_option linter.unusedVariables false
set_option linter.unusedSimpArgs false
namespace Go.Proofs.YtcikhnjfkfigjaaGreat
open Go.RowKit
theorem putL_snoc (v k:Nat):putL v (k+1)=putL (v / 256) k++[UInt8.ofNat v]:=by
  unfold putL
  rw[List.range_succ,List.map_append]
  congr 1
  ·apply List.map_congr_left
   intro i hi
   have hi':i<k:=List.mem_range.1 hi
   rw[show k+1-1-i=(k-1-i)+1 by omega,Nat.pow_succ,Nat.mul_comm,← Nat.div_div_eq_div_mul]
  ·simp
theorem getN_one (a:List UInt8) (x:UInt8):getN (a++[x])=(getN a*256+x.toNat)%18446744073709551616:=by simp[getN]
theorem pow_le8 {k:Nat} (h:k≤8):256^k≤18446744073709551616:=Nat.le_trans (Nat.pow_le_pow_right (by decide) h) (by decide)
theorem get_put (k:Nat) (h:k≤8):∀ v,getN (putL v k)=v%256^k:=by
  induction k with
  | zero=>intro v; rw[Nat.pow_zero,Nat.mod_one]; rfl
  | succ k ih =>
    intro v
    have hp:=pow_le8 h
    have hv:v%256^(k+1)<256^(k+1):=Nat.mod_lt _ (Nat.pow_pos (by decide))
    have e:v%256^(k+1)=v%256+256*(v / 256%256^k):=by rw[Nat.pow_succ',Nat.mod_mul]
    rw[putL_snoc,getN_one,ih (by omega),UInt8.toNat_ofNat',Nat.mod_eq_of_lt (by omega)]
    omega
theorem getN_lt_pow:∀ (k:Nat) (l:List UInt8),l.length=k→k≤8→getN l<256^k∧putL (getN l) k=l:=by
  intro k
  induction k with
  | zero=>intro l h _; rw[List.eq_nil_of_length_eq_zero h]; exact⟨by decide,rfl⟩
  | succ k ih =>
    intro l h h8
    rcases List.eq_nil_or_concat l with rfl | ⟨a,x,rfl⟩
    ·simp at h
    ·rw[List.concat_eq_append] at *
     obtain⟨a1,a2⟩:=ih a (by simpa using h) (by omega)
     have hx:x.toNat<256:=x.toNat_lt
     have hp:=pow_le8 h8
     have e:getN (a++[x])=getN a*256+x.toNat:=by
       rw[getN_one,Nat.mod_eq_of_lt]
       rw[Nat.pow_succ] at hp; omega
     refine⟨by rw[e,Nat.pow_succ]; omega,?_⟩
     rw[e,putL_snoc,show (getN a*256+x.toNat) / 256=getN a by omega,a2]
     congr 2
     rw[← UInt8.toNat_inj,UInt8.toNat_ofNat']
     omega
structure Hd where
  lp:Int
  vr:Int
  md:Int
  st:Int
  pl:Int
  pr:Int
  rd:Nat
  rp:Nat
  ri:Nat
  rf:Nat
  og:Nat
  rc:Nat
  tr:Nat
def Hd.z:Hd:=⟨0,0,0,0,0,0,0,0,0,0,0,0,0⟩
def hdR (h:Hd):Prop:=0≤h.lp∧h.lp≤3∧(h.vr=3∨h.vr=4)∧0≤h.md∧h.md≤7∧0≤h.st∧h.st≤255∧-128≤h.pl∧h.pl≤127∧-128≤h.pr∧h.pr≤127
instance (h:Hd):Decidable (hdR h):=by unfold hdR; infer_instance
def hdOk (h:Hd):Bool:=decide (hdR h)
def hdF (h:Hd):Prop:=h.rd<4294967296∧h.rp<4294967296∧h.ri<4294967296∧h.rf<18446744073709551616∧h.og<18446744073709551616∧h.rc<18446744073709551616∧h.tr<18446744073709551616
def byZ (v:Int):UInt8:=UInt8.ofNat (v%256).toNat
def sgB8 (b:UInt8):Int:=if b.toNat>127 then (b.toNat:Int)-256 else (b.toNat:Int)
def hdT (h:Hd):List UInt8:=putL h.rd 4++(putL h.rp 4++(putL h.ri 4++(putL h.rf 8++(putL h.og 8++(putL h.rc 8++putL h.tr 8)))))
def hdB (h:Hd):List UInt8:=[byZ (h.lp*64+h.vr*8+h.md),byZ h.st,byZ h.pl,byZ h.pr]++hdT h
theorem hdT_len (h:Hd):(hdT h).length=44:=by simp[hdT,putL_length]
theorem hdB_len (h:Hd):(hdB h).length=48:=by unfold hdB; rw[List.length_append,hdT_len]; rfl
def cutN (l:List UInt8) (a n:Nat):List UInt8:=(l.drop a).take n
def hdG (l:List UInt8):Hd:=⟨((l.getD 0 0).toNat / 64:Nat),((l.getD 0 0).toNat / 8%8:Nat),((l.getD 0 0).toNat%8:Nat),((l.getD 1 0).toNat:Nat),sgB8 (l.getD 2 0),sgB8 (l.getD 3 0),
  getN (cutN l 4 4),getN (cutN l 8 4),getN (cutN l 12 4),getN (cutN l 16 8),getN (cutN l 24 8),getN (cutN l 32 8),getN (cutN l 40 8)⟩
theorem cutN_len {l:List UInt8} {a n:Nat} (h:a+n≤l.length):(cutN l a n).length=n:=by
  unfold cutN; rw[List.length_take,List.length_drop]; omega
theorem cutN_hit (p q r:List UInt8):cutN (p++(q++r)) p.length q.length=q:=by
  unfold cutN; rw[List.drop_left,List.take_left]
theorem byZ_nat (v:Int):((byZ v).toNat:Int)=v%256:=by
  unfold byZ
  rw[UInt8.toNat_ofNat']; omega
theorem sgB8_by {v:Int} (h1:-128≤v) (h2:v≤127):sgB8 (byZ v)=v:=by
  have:=byZ_nat v
  unfold sgB8
  split <;> omega
theorem sgB8_in (b:UInt8):-128≤sgB8 b∧sgB8 b≤127:=by
  have:=b.toNat_lt
  unfold sgB8
  split <;> omega
theorem hd_part (h:Hd) (r:List UInt8):hdB h++r=([byZ (h.lp*64+h.vr*8+h.md),byZ h.st,byZ h.pl,byZ h.pr]:List UInt8)++(putL h.rd 4++(putL h.rp 4++(putL h.ri 4++(putL h.rf 8++(putL h.og 8++(putL h.rc 8++(putL h.tr 8++r))))))):=by
  unfold hdB hdT
  simp only[List.append_assoc]
theorem hd_cuts (h:Hd) (r:List UInt8):cutN (hdB h++r) 4 4=putL h.rd 4∧cutN (hdB h++r) 8 4=putL h.rp 4∧cutN (hdB h++r) 12 4=putL h.ri 4∧cutN (hdB h++r) 16 8=putL h.rf 8∧cutN (hdB h++r) 24 8=putL h.og 8∧cutN (hdB h++r) 32 8=putL h.rc 8∧cutN (hdB h++r) 40 8=putL h.tr 8:=by
  have key:∀ (p q s:List UInt8) (a n:Nat),hdB h++r=p++(q++s)→p.length=a→q.length=n→cutN (hdB h++r) a n=q:=by
    intro p q s a n e ha hn
    rw[e,← ha,← hn]; exact cutN_hit p q s
  have e:=hd_part h r
  generalize ([byZ (h.lp*64+h.vr*8+h.md),byZ h.st,byZ h.pl,byZ h.pr]:List UInt8)=F at *
  have hF:F.length=4:=by
    have:=hdB_len h
    have e':=congrArg List.length e
    simp only[List.length_append,putL_length,this] at e'
    omega
  refine⟨key F _ _ _ _ e hF (putL_length _ _),key (F++putL h.rd 4) _ _ _ _ (by rw[e]; simp only[List.append_assoc] <;> rfl) ?_ (putL_length _ _),key (F++putL h.rd 4++putL h.rp 4) _ _ _ _ (by rw[e]; simp only[List.append_assoc] <;> rfl) ?_ (putL_length _ _),
    key (F++putL h.rd 4++putL h.rp 4++putL h.ri 4) _ _ _ _ (by rw[e]; simp only[List.append_assoc] <;> rfl) ?_ (putL_length _ _),key (F++putL h.rd 4++putL h.rp 4++putL h.ri 4++putL h.rf 8) _ _ _ _ (by rw[e]; simp only[List.append_assoc] <;> rfl) ?_ (putL_length _ _),
    key (F++putL h.rd 4++putL h.rp 4++putL h.ri 4++putL h.rf 8++putL h.og 8) _ _ _ _ (by rw[e]; simp only[List.append_assoc] <;> rfl) ?_ (putL_length _ _),key (F++putL h.rd 4++putL h.rp 4++putL h.ri 4++putL h.rf 8++putL h.og 8++putL h.rc 8) _ r _ _ (by rw[e]; simp only[List.append_assoc] <;> rfl) ?_ (putL_length _ _)⟩ <;>
    simp only[List.length_append,putL_length,hF]
theorem hd_back {h:Hd} (ok:hdR h) (fit:hdF h) (r:List UInt8):hdG (hdB h++r)=h:=by
  obtain⟨c1,c2,c3,c4,c5,c6,c7⟩:=hd_cuts h r
  obtain⟨f1,f2,f3,f4,f5,f6,f7⟩:=fit
  obtain⟨o1,o2,o3,o4,o5,o6,o7,o8,o9,o10,o11⟩:=ok
  have g0:(hdB h++r).getD 0 0=byZ (h.lp*64+h.vr*8+h.md):=rfl
  have g1:(hdB h++r).getD 1 0=byZ h.st:=rfl
  have g2:(hdB h++r).getD 2 0=byZ h.pl:=rfl
  have g3:(hdB h++r).getD 3 0=byZ h.pr:=rfl
  unfold hdG
  rw[c1,c2,c3,c4,c5,c6,c7,g0,g1,g2,g3,get_put 4 (by decide),get_put 4 (by decide),get_put 4 (by decide),get_put 8 (by decide),get_put 8 (by decide),get_put 8 (by decide),get_put 8 (by decide),sgB8_by o8 o9,sgB8_by o10 o11]
  have n0:=byZ_nat (h.lp*64+h.vr*8+h.md)
  have n1:=byZ_nat h.st
  obtain⟨lp,vr,md,st,pl,pr,rd,rp,ri,rf,og,rc,tr⟩:=h
  simp only at *
  congr 1 <;> omega
end Go.Proofs.YtcikhnjfkfigjaaGreat
namespace Go.Proofs.YtcikhnjfkfigjaaGreat
open Go.RowKit
theorem putk_c (G:Glob) (v:Nat) (k:Int) (hk:0≤k∧k≤64):Den Tryz.prog G 62 [.int .u64 (v:Int),.int .i64 k] (.w (.c (.fr 1 ((putL v k.toNat).map bD)))):=by
  have c:=put_c G v k
  rw[show putN v k=putL v k.toNat from if_pos hk] at c
  exact c
theorem rputk_c (G:Glob) (v:Nat) (k:Int) (hk:0≤k∧k≤64):Den Tryz.prog G 51 [.int .u64 (v:Int),.int .i64 k] (.w (.c (.fr 1 ((putL v k.toNat).map bD)))):=by
  have c:=rput_c G v k
  rw[show putN v k=putL v k.toNat from if_pos hk] at c
  exact c
end Go.Proofs.YtcikhnjfkfigjaaGreat
namespace Go.Proofs.YtcikhnjfkfigjaaGreat
open Go.RowKit IntWalk
def sf_cut:SFn:=⟨2,25,
 .seq (.reg [⟨some 4,.mv (.k (.c .nil)),none⟩,
 ⟨some 5,.mv (.k (.c .nil)),none⟩,
 ⟨some 6,.mv (.k (.c (.d (.bool false)))),none⟩])
 (.seq (.seq (.reg [⟨some 7,.mv (.t 1),none⟩,
 ⟨some 8,.bin .lss (.t 7) (.k (.c (.d (.int .i64 0)))),none⟩,
 ⟨some 9,.mv (.t 8),none⟩,
 ⟨some 10,.mv (.t 1),some (9,false)⟩,
 ⟨some 11,.mv (.t 0),some (9,false)⟩,
 ⟨some 12,.len (.t 11),some (9,false)⟩,
 ⟨some 13,.bin .gtr (.t 10) (.t 12),some (9,false)⟩,
 ⟨some 14,.pick (.t 9) (.k (.c (.d (.bool true)))) (.t 13),none⟩])
 (.cond (.t 14) (.seq (.reg [⟨some 4,.mv (.k (.c .nil)),none⟩,
 ⟨some 5,.mv (.k (.c .nil)),none⟩,
 ⟨some 6,.mv (.k (.c (.d (.bool false)))),none⟩])
 (.ret))
 (.skip)))
 (.seq (.reg [⟨some 15,.mv (.t 0),none⟩,
 ⟨some 16,.mv (.t 1),none⟩,
 ⟨some 17,.slice 1 (.t 15) none (some (.t 16)) none,none⟩,
 ⟨some 18,.bldSl false 1 1 (.sl []) [(0,(.t 17))],none⟩,
 ⟨some 19,.call 34 [(.t 18)] none,none⟩,
 ⟨some 20,.mv (.t 0),none⟩,
 ⟨some 21,.mv (.t 1),none⟩,
 ⟨some 22,.slice 1 (.t 20) (some (.t 21)) none none,none⟩,
 ⟨some 23,.bldSl false 1 1 (.sl []) [(0,(.t 22))],none⟩,
 ⟨some 24,.call 34 [(.t 23)] none,none⟩,
 ⟨some 4,.mv (.t 19),none⟩,
 ⟨some 5,.mv (.t 24),none⟩,
 ⟨some 6,.mv (.k (.c (.d (.bool true)))),none⟩])
 (.ret))),
 [(4,none),(5,none),(6,none)]⟩
theorem cf_cut:compFn Tryz.prog { own:=[],comp:=[],frz:=[],nils:=[] } Tryz.f76=some sf_cut:=by kernel_rfl
set_option maxHeartbeats 800000 in
theorem cut_in (G:Glob) (b:List UInt8) (n:Nat) (h:n≤b.length) (hb:b.length≤1099511627776):Den Tryz.prog G 76 [.sl (b.map bD),.int .i64 (n:Int)] (.tup [.c (.d (.sl ((b.take n).map bD))),.c (.d (.sl ((b.drop n).map bD))),.c (.d (.bool true))]):=by
  refine den_walk Tryz.func76 cf_cut rfl rfl ?_
  have c1:=join_c G [b.take n] (by simp) (by simp; omega)
  have c2:=join_c G [b.drop n] (by simp) (by simp; omega)
  simp only[List.map_cons,List.map_nil,List.flatten_cons,List.flatten_nil,List.append_nil] at c1 c2
  have et:(b.drop n).take (b.length-n)=b.drop n:=List.take_of_length_le (by simp)
  have g:((n:Int)>(b.length:Int))=False:=eq_false (by omega)
  simp only[sf_cut,putAll,wx,wy,wz,stV,seval,iteOmega,toNatUp,reduceCtorEq,g]
  refine st_call (c1) rfl (.inl rfl) ?_
  simp only[et,wx,wy,wz,stV,seval,iteOmega,toNatUp,reduceCtorEq]
  refine st_call (c2) rfl (.inl rfl) ?_
  simp only[et,wx,wy,wz,stV,seval,iteOmega,toNatUp,reduceCtorEq]
  exact ret_d3 (by simp only[wx,wy,wz,stV,seval,iteOmega,toNatUp,reduceCtorEq]) (by simp only[wx,wy,wz,stV,seval,iteOmega,toNatUp,reduceCtorEq]) (by simp only[wx,wy,wz,stV,seval,iteOmega,toNatUp,reduceCtorEq])
theorem cut_no (G:Glob) (b:List UInt8) (n:Int) (h:n<0∨(b.length:Int)<n):Den Tryz.prog G 76 [.sl (b.map bD),.int .i64 n] (.tup [.c (.d (.sl [])),.c (.d (.sl [])),.c (.d (.bool false))]):=by
  refine den_walk Tryz.func76 cf_cut rfl rfl ?_
  rcases Int.lt_or_le n 0 with h1 | h1
  ·simp only[sf_cut,putAll,wx,wy,wz,stV,seval,iteOmega,toNatUp,reduceCtorEq]
   exact ret_d3 (by simp only[wx,wy,wz,stV,seval,iteOmega,toNatUp,reduceCtorEq] <;> rfl) (by simp only[wx,wy,wz,stV,seval,iteOmega,toNatUp,reduceCtorEq] <;> rfl) (by simp only[wx,wy,wz,stV,seval,iteOmega,toNatUp,reduceCtorEq])
  ·have g:(n>(b.length:Int))=True:=eq_true (by omega)
   simp only[sf_cut,putAll,wx,wy,wz,stV,seval,iteOmega,toNatUp,reduceCtorEq,g]
   exact ret_d3 (by simp only[wx,wy,wz,stV,seval,iteOmega,toNatUp,reduceCtorEq] <;> rfl) (by simp only[wx,wy,wz,stV,seval,iteOmega,toNatUp,reduceCtorEq] <;> rfl) (by simp only[wx,wy,wz,stV,seval,iteOmega,toNatUp,reduceCtorEq])
end Go.Proofs.YtcikhnjfkfigjaaGreat
namespace Go.Proofs.YtcikhnjfkfigjaaGreat
open Go.RowKit IntWalk
def rgetSt (l:List UInt8) (i:Nat):St:=⟨ofL [(0,.w (.c (.d (.sl (l.map bD))))),(3,.w (.c (.d (.int .u64 (getN (l.take i)))))),(4,.w (.c (.d (.int .i64 (i:Int)))))],hL [],uL []⟩
def lp_rget_0:SCode :=
 .seq (.seq (.reg [⟨some 5,.mv (.t 4),none⟩,
 ⟨some 6,.mv (.t 0),none⟩,
 ⟨some 7,.len (.t 6),none⟩,
 ⟨some 8,.bin .lss (.t 5) (.t 7),none⟩])
 (.cond (.t 8) (.skip)
 (.exit 0)))
 (.seq (.block 1 (.reg [⟨some 11,.mv (.t 3),none⟩,
 ⟨some 12,.bin .shl (.t 11) (.k (.c (.d (.int .u64 8)))),none⟩,
 ⟨some 13,.mv (.t 0),none⟩,
 ⟨some 14,.mv (.t 4),none⟩,
 ⟨some 15,.idxSl 1 (.t 13) (.t 14),none⟩,
 ⟨some 16,.load .sc (.t 15),none⟩,
 ⟨some 17,.conv .u64 (.t 16),none⟩,
 ⟨some 18,.bin .or (.t 12) (.t 17),none⟩,
 ⟨some 3,.mv (.t 18),none⟩]))
 (.reg [⟨some 9,.mv (.t 4),none⟩,
 ⟨some 10,.bin .add (.t 9) (.k (.c (.d (.int .i64 1)))),none⟩,
 ⟨some 4,.mv (.t 10),none⟩]))
def sf_rget:SFn:=⟨1,20,
 .seq (.reg [⟨some 2,.mv (.k (.c (.d (.int .u64 0)))),none⟩])
 (.seq (.reg [⟨some 3,.mv (.k (.c (.d (.int .u64 0)))),none⟩])
 (.seq (.seq (.reg [⟨some 4,.mv (.k (.c (.d (.int .i64 0)))),none⟩])
 (.block 0 (.loop lp_rget_0)))
 (.seq (.reg [⟨some 19,.mv (.t 3),none⟩,
 ⟨some 2,.mv (.t 19),none⟩])
 (.ret)))),
 [(2,none)]⟩
theorem cf_rget:compFn Tryz.prog { own:=[],comp:=[],frz:=[],nils:=[] } Tryz.f74=some sf_rget:=by kernel_rfl
set_option maxHeartbeats 400000 in
theorem rget_c (G:Glob) (l:List UInt8) (hl:l.length≤9223372036854775807):Den Tryz.prog G 74 [.sl (l.map bD)] (.w (.c (.d (.int .u64 (getN l))))):=by
  refine den_walk Tryz.func74 cf_rget rfl rfl ?_
  simp only[sf_rget,putAll,wx,wy,wz,stV,seval,iteOmega,toNatUp,reduceCtorEq]
  refine loop_st (rgetSt l) (fun i=>l.length-i) (fun i=>i≤l.length) 0 (Nat.zero_le _) ?_ ?_
  ·refine ent_l (fun i=>i) ?_ ?_ rfl rfl <;> simp only[wx,wex,wez,stV,seval,iteOmega,toNatUp,reduceCtorEq] <;> rfl
  ·intro i hi
   by_cases hlt:i<l.length
   ·have hb:=l[i].toNat_lt
    have e2:l[i]?=some l[i]:=List.getElem?_eq_getElem hlt
    have e3:IntKind.u64.wrap (l[i].toNat:Int)=(l[i].toNat:Int):=u64_in _ (by omega) (by omega)
    have e4:IntKind.i64.wrap ((i:Int)+1)=((i+1:Nat):Int):=by rw[IntWalk.i64_in _ (by omega)]; rfl
    have e5:=getN_take l i hlt
    simp only[lp_rget_0,rgetSt,wx,stV,seval,iteOmega,toNatUp,reduceCtorEq,get_map,e2,IntKind.bits,e3,e4]
    refine lop_next (i+1) (by omega) (by omega) (ent_l id ?_ ?_ rfl rfl) <;> simp only[wx,wex,stV,seval,iteOmega,toNatUp,reduceCtorEq,← e5]
   ·have:l.take i=l:=List.take_of_length_le (by omega)
    simp only[lp_rget_0,rgetSt,wx,stV,seval,iteOmega,toNatUp,reduceCtorEq,this]
    exact ret_d (by simp only[wx,stV,seval,iteOmega,toNatUp,reduceCtorEq])
end Go.Proofs.YtcikhnjfkfigjaaGreat
namespace Go.Proofs.YtcikhnjfkfigjaaGreat
open Go.RowKit IntWalk
def withinN (v m:Int):Int:=if m<1 then 0 else v%m
theorem withinN_range (v m:Int) (h:1≤m):0≤withinN v m∧withinN v m<m:=by
  unfold withinN
  rw[if_neg (by omega)]
  exact⟨Int.emod_nonneg _ (by omega),Int.emod_lt_of_pos _ (by omega)⟩
theorem tmod_neg {v m:Int} (hm:0<m) (h:v.tmod m<0):v.tmod m+m=v%m:=by
  have h1:=Int.emod_add_mul_ediv v m
  have h2:=Int.tmod_add_mul_tdiv v m
  have h3:=Int.emod_nonneg v (show m≠0 by omega)
  have h4:=Int.emod_lt_of_pos v hm
  have h5:=Int.lt_tmod_of_pos v hm
  have e:m*(v.tdiv m-v / m)=v%m-v.tmod m:=by rw[Int.mul_sub]; omega
  have k1:v.tdiv m-v / m=1:=by
    rcases Int.lt_trichotomy (v.tdiv m-v / m) 1 with hlt | heq | hgt
    ·exfalso
     have:v.tdiv m-v / m≤0:=by omega
     have:=Int.mul_le_mul_of_nonneg_left this (show 0≤m by omega)
     omega
    ·exact heq
    ·exfalso
     have:2≤v.tdiv m-v / m:=by omega
     have:=Int.mul_le_mul_of_nonneg_left this (show 0≤m by omega)
     omega
  rw[k1] at e
  omega
theorem tmod_pos {v m:Int} (hm:0<m) (h:0≤v.tmod m):v.tmod m=v%m:=by
  have h1:=Int.emod_add_mul_ediv v m
  have h2:=Int.tmod_add_mul_tdiv v m
  have h3:=Int.emod_nonneg v (show m≠0 by omega)
  have h4:=Int.emod_lt_of_pos v hm
  have h5:=Int.tmod_lt_of_pos v hm
  have e:m*(v.tdiv m-v / m)=v%m-v.tmod m:=by rw[Int.mul_sub]; omega
  have k1:v.tdiv m-v / m=0:=by
    rcases Int.lt_trichotomy (v.tdiv m-v / m) 0 with hlt | heq | hgt
    ·exfalso
     have:v.tdiv m-v / m ≤ -1:=by omega
     have:=Int.mul_le_mul_of_nonneg_left this (show 0≤m by omega)
     omega
    ·exact heq
    ·exfalso
     have:1≤v.tdiv m-v / m:=by omega
     have:=Int.mul_le_mul_of_nonneg_left this (show 0≤m by omega)
     omega
  rw[k1] at e
  omega
def sf_within:SFn:=⟨2,16,
 .seq (.reg [⟨some 4,.mv (.k (.c (.d (.int .i64 0)))),none⟩])
 (.seq (.seq (.reg [⟨some 5,.mv (.t 1),none⟩,
 ⟨some 6,.bin .lss (.t 5) (.k (.c (.d (.int .i64 1)))),none⟩])
 (.cond (.t 6) (.seq (.reg [⟨some 4,.mv (.k (.c (.d (.int .i64 0)))),none⟩])
 (.ret))
 (.skip)))
 (.seq (.reg [⟨some 7,.mv (.t 0),none⟩,
 ⟨some 8,.mv (.t 1),none⟩,
 ⟨some 9,.bin .rem (.t 7) (.t 8),none⟩,
 ⟨some 0,.mv (.t 9),none⟩])
 (.seq (.seq (.reg [⟨some 10,.mv (.t 0),none⟩,
 ⟨some 11,.bin .lss (.t 10) (.k (.c (.d (.int .i64 0)))),none⟩])
 (.cond (.t 11) (.reg [⟨some 12,.mv (.t 0),none⟩,
 ⟨some 13,.mv (.t 1),none⟩,
 ⟨some 14,.bin .add (.t 12) (.t 13),none⟩,
 ⟨some 0,.mv (.t 14),none⟩])
 (.skip)))
 (.seq (.reg [⟨some 15,.mv (.t 0),none⟩,
 ⟨some 4,.mv (.t 15),none⟩])
 (.ret))))),
 [(4,none)]⟩
theorem cf_within:compFn Tryz.prog { own:=[],comp:=[],frz:=[],nils:=[] } Tryz.f17=some sf_within:=by kernel_rfl
theorem within_c (G:Glob) (v m:Int) (hm:m≤9223372036854775807):Den Tryz.prog G 17 [.int .i64 v,.int .i64 m] (.w (.c (.d (.int .i64 (withinN v m))))):=by
  refine den_walk Tryz.func17 cf_within rfl rfl ?_
  unfold withinN
  by_cases h:m<1
  ·rw[if_pos h]
   simp only[sf_within,putAll,wx,wy,wz,stV,seval,iteOmega,toNatUp,reduceCtorEq]
   exact ret_d1 (by simp only[wx,wy,wz,stV,seval,iteOmega,toNatUp,reduceCtorEq])
  ·rw[if_neg h]
   have hne:¬ m=0:=by omega
   have h4:=Int.tmod_lt_of_pos v (show 0<m by omega)
   by_cases hn:v.tmod m<0
   ·have e:=tmod_neg (by omega) hn
    have h3:=Int.emod_lt_of_pos v (show 0<m by omega)
    have h5:=Int.emod_nonneg v (show m≠0 by omega)
    simp only[sf_within,putAll,wx,wy,wz,stV,seval,iteOmega,toNatUp,reduceCtorEq,hne]
    exact ret_d1 (by simp only[wx,wy,wz,stV,seval,iteOmega,toNatUp,reduceCtorEq,e])
   ·have e:=tmod_pos (v:=v) (show 0<m by omega) (by omega)
    simp only[sf_within,putAll,wx,wy,wz,stV,seval,iteOmega,toNatUp,reduceCtorEq,hne]
    exact ret_d1 (by simp only[wx,wy,wz,stV,seval,iteOmega,toNatUp,reduceCtorEq,e])
end Go.Proofs.YtcikhnjfkfigjaaGreat
namespace Go.Proofs.YtcikhnjfkfigjaaGreat
open Go.RowKit
def firstK:List UInt32:=[0x6a09e667,0xbb67ae85,0x3c6ef372,0xa54ff53a,0x510e527f,0x9b05688c,0x1f83d9ab,0x5be0cd19]
def constK:List UInt32:=[
  0x428a2f98,0x71374491,0xb5c0fbcf,0xe9b5dba5,0x3956c25b,0x59f111f1,0x923f82a4,0xab1c5ed5,
  0xd807aa98,0x12835b01,0x243185be,0x550c7dc3,0x72be5d74,0x80deb1fe,0x9bdc06a7,0xc19bf174,
  0xe49b69c1,0xefbe4786,0x0fc19dc6,0x240ca1cc,0x2de92c6f,0x4a7484aa,0x5cb0a9dc,0x76f988da,
  0x983e5152,0xa831c66d,0xb00327c8,0xbf597fc7,0xc6e00bf3,0xd5a79147,0x06ca6351,0x14292967,
  0x27b70a85,0x2e1b2138,0x4d2c6dfc,0x53380d13,0x650a7354,0x766a0abb,0x81c2c92e,0x92722c85,
  0xa2bfe8a1,0xa81a664b,0xc24b8b70,0xc76c51a3,0xd192e819,0xd6990624,0xf40e3585,0x106aa070,
  0x19a4c116,0x1e376c08,0x2748774c,0x34b0bcb5,0x391c0cb3,0x4ed8aa4a,0x5b9cca4f,0x682e6ff3,
  0x748f82ee,0x78a5636f,0x84c87814,0x8cc70208,0x90befffa,0xa4506ceb,0xbef9a3f7,0xc67178f2]
theorem firstK_len:firstK.length=8:=rfl
theorem constK_len:constK.length=64:=rfl
def wordAt (b:List UInt8) (t:Nat):UInt32 :=
  orW (orW (orW (shlW (byteW (b.getD (4*t) 0)) 24) (shlW (byteW (b.getD (4*t+1) 0)) 16)) (shlW (byteW (b.getD (4*t+2) 0)) 8)) (byteW (b.getD (4*t+3) 0))
def smallA (x:UInt32):UInt32:=xorW (xorW (rotW x 7) (rotW x 18)) (shrW x 3)
def smallB (y:UInt32):UInt32:=xorW (xorW (rotW y 17) (rotW y 19)) (shrW y 10)
def nextW (s:List UInt32) (t:Nat):UInt32 :=
  addW (addW (addW (smallB (s.getD (t-2) 0)) (s.getD (t-7) 0)) (smallA (s.getD (t-15) 0))) (s.getD (t-16) 0)
def sched16 (b:List UInt8) (n:Nat):List UInt32:=(List.range n).map (wordAt b)
def schedN (b:List UInt8):Nat→List UInt32
  | 0=>sched16 b 16
  | n+1=>schedN b n++[nextW (schedN b n) (16+n)]
def sched (b:List UInt8):List UInt32:=schedN b 48
theorem sched_at (b:List UInt8) (m:Nat) (h:m=48):sched b=schedN b m:=by rw[h]; rfl
def bigE (e:UInt32):UInt32:=xorW (xorW (rotW e 6) (rotW e 11)) (rotW e 25)
def bigA (a:UInt32):UInt32:=xorW (xorW (rotW a 2) (rotW a 13)) (rotW a 22)
def chW (e f g:UInt32):UInt32:=xorW (andW e f) (andW (notW e) g)
def majW (a b c:UInt32):UInt32:=xorW (xorW (andW a b) (andW a c)) (andW b c)
structure Eight where
  (a b c d e f g h:UInt32)
def Eight.step (s:Eight) (k w:UInt32):Eight :=
  let t1:=addW (addW (addW (addW s.h (bigE s.e)) (chW s.e s.f s.g)) k) w
  let t2:=addW (bigA s.a) (majW s.a s.b s.c)
  ⟨addW t1 t2,s.a,s.b,s.c,addW s.d t1,s.e,s.f,s.g⟩
def Eight.of (h:List UInt32):Eight:=⟨h.getD 0 0,h.getD 1 0,h.getD 2 0,h.getD 3 0,h.getD 4 0,h.getD 5 0,h.getD 6 0,h.getD 7 0⟩
def Eight.rounds (s:Eight) (k w:List UInt32):Nat→Eight
  | 0=>s
  | n+1=>(s.rounds k w n).step (k.getD n 0) (w.getD n 0)
def Eight.sum (s:Eight) (h:List UInt32):List UInt32 :=
  [addW (h.getD 0 0) s.a,addW (h.getD 1 0) s.b,addW (h.getD 2 0) s.c,addW (h.getD 3 0) s.d,addW (h.getD 4 0) s.e,addW (h.getD 5 0) s.f,addW (h.getD 6 0) s.g,addW (h.getD 7 0) s.h]
def blockK (h:List UInt32) (b:List UInt8):List UInt32:=((Eight.of h).rounds constK (sched b) 64).sum h
theorem blockK_len (h:List UInt32) (b:List UInt8):(blockK h b).length=8:=rfl
end Go.Proofs.YtcikhnjfkfigjaaGreat
namespace Go.Proofs.YtcikhnjfkfigjaaGreat
open Go.RowKit IntWalk
def sf_rturn:SFn:=⟨2,15,
 .seq (.reg [⟨some 4,.mv (.k (.c (.d (.int .u32 0)))),none⟩])
 (.seq (.reg [⟨some 5,.mv (.t 0),none⟩,
 ⟨some 6,.mv (.t 1),none⟩,
 ⟨some 7,.conv .u64 (.t 6),none⟩,
 ⟨some 8,.bin .shr (.t 5) (.t 7),none⟩,
 ⟨some 9,.mv (.t 0),none⟩,
 ⟨some 10,.mv (.t 1),none⟩,
 ⟨some 11,.bin .sub (.k (.c (.d (.int .i64 32)))) (.t 10),none⟩,
 ⟨some 12,.conv .u64 (.t 11),none⟩,
 ⟨some 13,.bin .shl (.t 9) (.t 12),none⟩,
 ⟨some 14,.bin .or (.t 8) (.t 13),none⟩,
 ⟨some 4,.mv (.t 14),none⟩])
 (.ret)),
 [(4,none)]⟩
theorem cf_rturn:compFn Tryz.prog { own:=[],comp:=[],frz:=[],nils:=[] } Tryz.f104=some sf_rturn:=by kernel_rfl
theorem rturn_c (G:Glob) (x:UInt32) (n:Nat) (h0:0<n) (hn:n<32):Den Tryz.prog G 104 [wD x,.int .i64 n] (.w (.c (.d (wD (rotW x n))))):=by
  refine den_walk Tryz.func104 cf_rturn rfl rfl ?_
  have e1:IntKind.u64.wrap (n:Int)=(n:Int):=IntWalk.u64_in _ (by omega)
  have e2:IntKind.i64.wrap (32-(n:Int))=((32-n:Nat):Int):=by rw[IntWalk.i64_in _ (by omega)]; omega
  have e3:IntKind.u64.wrap ((32-n:Nat):Int)=((32-n:Nat):Int):=IntWalk.u64_in _ (by omega)
  simp only[sf_rturn,putAll,wx,stV,seval,iteOmega,toNatUp,reduceCtorEq,e1,e2,e3]
  exact ret_d (by simp only[wx,stV,seval,iteOmega,toNatUp,reduceCtorEq] <;> rfl)
def sf_rfst:SFn:=⟨0,2,
 .seq (.reg [⟨some 0,.mv (.k (.c .nil)),none⟩])
 (.seq (.reg [⟨some 1,.bldSl true 8 1 (.int .u32 0) [(0,(.k (.c (.d (.int .u32 1779033703))))),(1,(.k (.c (.d (.int .u32 3144134277))))),(2,(.k (.c (.d (.int .u32 1013904242))))),(3,(.k (.c (.d (.int .u32 2773480762))))),(4,(.k (.c (.d (.int .u32 1359893119))))),(5,(.k (.c (.d (.int .u32 2600822924))))),(6,(.k (.c (.d (.int .u32 528734635))))),(7,(.k (.c (.d (.int .u32 1541459225)))))],none⟩,
 ⟨some 0,.mv (.t 1),none⟩])
 (.ret)),
 [(0,none)]⟩
theorem cf_rfst:compFn Tryz.prog { own:=[1],comp:=[],frz:=[],nils:=[] } Tryz.f83=some sf_rfst:=by kernel_rfl
theorem rfst_c (G:Glob):Den Tryz.prog G 83 [] (.w (.c (.fr 1 (firstK.map wD)))):=by
  refine den_walk Tryz.func83 cf_rfst rfl rfl ?_
  simp only[sf_rfst,putAll,sx]
  refine optK_mk (.w (.c (.own 8 1 0 8)),upd hN 8 (some (.row 1 (firstK.map wD))),upd uN 8 true) (by kernel_rfl) ?_
  simp only[wx,stV,seval,iteOmega,toNatUp,reduceCtorEq]
  exact ret_own (id:=8) (n:=8) (s:=1) (by simp only[wx,stV,seval,iteOmega,toNatUp,reduceCtorEq]) (by simp only[wx,stV,seval,iteOmega,toNatUp,reduceCtorEq]) rfl
def sf_rcon:SFn:=⟨0,2,
 .seq (.reg [⟨some 0,.mv (.k (.c .nil)),none⟩])
 (.seq (.reg [⟨some 1,.bldSl true 64 1 (.int .u32 0) [(0,(.k (.c (.d (.int .u32 1116352408))))),(1,(.k (.c (.d (.int .u32 1899447441))))),(2,(.k (.c (.d (.int .u32 3049323471))))),(3,(.k (.c (.d (.int .u32 3921009573))))),(4,(.k (.c (.d (.int .u32 961987163))))),(5,(.k (.c (.d (.int .u32 1508970993))))),(6,(.k (.c (.d (.int .u32 2453635748))))),(7,(.k (.c (.d (.int .u32 2870763221))))),(8,(.k (.c (.d (.int .u32 3624381080))))),(9,(.k (.c (.d (.int .u32 310598401))))),(10,(.k (.c (.d (.int .u32 607225278))))),(11,(.k (.c (.d (.int .u32 1426881987))))),(12,(.k (.c (.d (.int .u32 1925078388))))),(13,(.k (.c (.d (.int .u32 2162078206))))),(14,(.k (.c (.d (.int .u32 2614888103))))),(15,(.k (.c (.d (.int .u32 3248222580))))),(16,(.k (.c (.d (.int .u32 3835390401))))),(17,(.k (.c (.d (.int .u32 4022224774))))),(18,(.k (.c (.d (.int .u32 264347078))))),(19,(.k (.c (.d (.int .u32 604807628))))),(20,(.k (.c (.d (.int .u32 770255983))))),(21,(.k (.c (.d (.int .u32 1249150122))))),(22,(.k (.c (.d (.int .u32 1555081692))))),(23,(.k (.c (.d (.int .u32 1996064986))))),(24,(.k (.c (.d (.int .u32 2554220882))))),(25,(.k (.c (.d (.int .u32 2821834349))))),(26,(.k (.c (.d (.int .u32 2952996808))))),(27,(.k (.c (.d (.int .u32 3210313671))))),(28,(.k (.c (.d (.int .u32 3336571891))))),(29,(.k (.c (.d (.int .u32 3584528711))))),(30,(.k (.c (.d (.int .u32 113926993))))),(31,(.k (.c (.d (.int .u32 338241895))))),(32,(.k (.c (.d (.int .u32 666307205))))),(33,(.k (.c (.d (.int .u32 773529912))))),(34,(.k (.c (.d (.int .u32 1294757372))))),(35,(.k (.c (.d (.int .u32 1396182291))))),(36,(.k (.c (.d (.int .u32 1695183700))))),(37,(.k (.c (.d (.int .u32 1986661051))))),(38,(.k (.c (.d (.int .u32 2177026350))))),(39,(.k (.c (.d (.int .u32 2456956037))))),(40,(.k (.c (.d (.int .u32 2730485921))))),(41,(.k (.c (.d (.int .u32 2820302411))))),(42,(.k (.c (.d (.int .u32 3259730800))))),(43,(.k (.c (.d (.int .u32 3345764771))))),(44,(.k (.c (.d (.int .u32 3516065817))))),(45,(.k (.c (.d (.int .u32 3600352804))))),(46,(.k (.c (.d (.int .u32 4094571909))))),(47,(.k (.c (.d (.int .u32 275423344))))),(48,(.k (.c (.d (.int .u32 430227734))))),(49,(.k (.c (.d (.int .u32 506948616))))),(50,(.k (.c (.d (.int .u32 659060556))))),(51,(.k (.c (.d (.int .u32 883997877))))),(52,(.k (.c (.d (.int .u32 958139571))))),(53,(.k (.c (.d (.int .u32 1322822218))))),(54,(.k (.c (.d (.int .u32 1537002063))))),(55,(.k (.c (.d (.int .u32 1747873779))))),(56,(.k (.c (.d (.int .u32 1955562222))))),(57,(.k (.c (.d (.int .u32 2024104815))))),(58,(.k (.c (.d (.int .u32 2227730452))))),(59,(.k (.c (.d (.int .u32 2361852424))))),(60,(.k (.c (.d (.int .u32 2428436474))))),(61,(.k (.c (.d (.int .u32 2756734187))))),(62,(.k (.c (.d (.int .u32 3204031479))))),(63,(.k (.c (.d (.int .u32 3329325298)))))],none⟩,
 ⟨some 0,.mv (.t 1),none⟩])
 (.ret)),
 [(0,none)]⟩
theorem cf_rcon:compFn Tryz.prog { own:=[1],comp:=[],frz:=[],nils:=[] } Tryz.f84=some sf_rcon:=by kernel_rfl
theorem rcon_c (G:Glob):Den Tryz.prog G 84 [] (.w (.c (.fr 1 (constK.map wD)))):=by
  refine den_walk Tryz.func84 cf_rcon rfl rfl ?_
  simp only[sf_rcon,putAll,sx]
  refine optK_mk (.w (.c (.own 8 1 0 64)),upd hN 8 (some (.row 1 (constK.map wD))),upd uN 8 true) (by kernel_rfl) ?_
  simp only[wx,stV,seval,iteOmega,toNatUp,reduceCtorEq]
  exact ret_own (id:=8) (n:=64) (s:=1) (by simp only[wx,stV,seval,iteOmega,toNatUp,reduceCtorEq]) (by simp only[wx,stV,seval,iteOmega,toNatUp,reduceCtorEq]) rfl
end Go.Proofs.YtcikhnjfkfigjaaGreat
namespace Go.Proofs.YtcikhnjfkfigjaaGreat
open Go.RowKit
theorem sched16_len (b:List UInt8) (n:Nat):(sched16 b n).length=n:=by simp[sched16]
theorem schedN_len (b:List UInt8):∀ n,(schedN b n).length=16+n
  | 0=>by simp[schedN,sched16_len]
  | n+1=>by rw[schedN,List.length_append,schedN_len b n]; simp; omega
theorem set_next {α:Type} (l:List α) (z x:α) (n:Nat) (h:0<n):(l++List.replicate n z).set l.length x=(l++[x])++List.replicate (n-1) z:=by
  obtain⟨k,rfl⟩:∃ k,n=k+1:=⟨n-1,by omega⟩
  rw[List.set_append_right _ _ (Nat.le_refl _),Nat.sub_self,List.replicate_succ,List.set_cons_zero]
  simp
theorem get_of {l:List UInt32} {r:List UInt32} {i:Nat} (h:i<l.length):(l++r)[i]?=some (l.getD i 0):=by
  rw[List.getElem?_append_left h]
  simp[h]
end Go.Proofs.YtcikhnjfkfigjaaGreat
namespace Go.Proofs.YtcikhnjfkfigjaaGreat
open Go.RowKit IntWalk
theorem getD_some {l:List UInt32} {i:Nat} (h:i<l.length):l[i]?=some (l.getD i 0):=by simp[h]
theorem eight {l:List UInt32} (h:l.length=8):∃ a b c d e f g i,l=[a,b,c,d,e,f,g,i]:=by
  match l,h with
  | [a,b,c,d,e,f,g,i],_=>exact⟨a,b,c,d,e,f,g,i,rfl⟩
def Eight.list (s:Eight):List UInt32:=[s.a,s.b,s.c,s.d,s.e,s.f,s.g,s.h]
theorem step_a (s:Eight) (k w:UInt32):(s.step k w).a=addW (addW (addW (addW (addW s.h (bigE s.e)) (chW s.e s.f s.g)) k) w) (addW (bigA s.a) (majW s.a s.b s.c)):=rfl
theorem step_b (s:Eight) (k w:UInt32):(s.step k w).b=s.a:=rfl
theorem step_c (s:Eight) (k w:UInt32):(s.step k w).c=s.b:=rfl
theorem step_d (s:Eight) (k w:UInt32):(s.step k w).d=s.c:=rfl
theorem step_e (s:Eight) (k w:UInt32):(s.step k w).e=addW s.d (addW (addW (addW (addW s.h (bigE s.e)) (chW s.e s.f s.g)) k) w):=rfl
theorem step_f (s:Eight) (k w:UInt32):(s.step k w).f=s.e:=rfl
theorem step_g (s:Eight) (k w:UInt32):(s.step k w).g=s.f:=rfl
theorem step_h (s:Eight) (k w:UInt32):(s.step k w).h=s.g:=rfl
theorem getD_someB {l:List UInt8} {i:Nat} (h:i<l.length):l[i]?=some (l.getD i 0):=by simp[h]
def rbSt1 (h k:List UInt32) (b:List UInt8) (t:Nat):St:=⟨ofL [(0,.w (.c (.d (.sl (h.map wD))))),(1,.w (.c (.d (.sl (k.map wD))))),(2,.w (.c (.d (.sl (b.map bD))))),(7,.w (.c (.pa 1 1))),(8,.w (.c (.d (.int .i64 (t:Int)))))],
  hL [(1,.row 1 ((sched16 b t++List.replicate (64-t) 0).map wD))],uL [1]⟩
def rbSt2 (h k:List UInt32) (b:List UInt8) (n:Nat):St:=⟨ofL [(0,.w (.c (.d (.sl (h.map wD))))),(1,.w (.c (.d (.sl (k.map wD))))),(7,.w (.c (.pa 1 1))),(9,.w (.c (.d (.int .i64 ((16+n:Nat):Int)))))],
  hL [(1,.row 1 ((schedN b n++List.replicate (48-n) 0).map wD))],uL [1]⟩
def rbSt3 (h:List UInt32) (b:List UInt8) (s:Eight) (n:Nat):St:=⟨ofL [(0,.w (.c (.d (.sl (h.map wD))))),(1,.w (.c (.d (.sl (constK.map wD))))),(7,.w (.c (.pa 1 1))),(12,.w (.c (.d (wD s.a)))),(13,.w (.c (.d (wD s.b)))),(14,.w (.c (.d (wD s.c)))),(15,.w (.c (.d (wD s.d)))),(16,.w (.c (.d (wD s.e)))),(17,.w (.c (.d (wD s.f)))),(18,.w (.c (.d (wD s.g)))),(19,.w (.c (.d (wD s.h)))),(20,.w (.c (.d (.int .i64 (n:Int)))))],
  hL [(1,.row 1 ((sched b).map wD))],uL [1]⟩
def rbR3 (h:List UInt32) (b:List UInt8) (n:Nat):St:=rbSt3 h b ((Eight.of h).rounds constK (sched b) n) n
def lp_rblock_0:SCode :=
 .seq (.seq (.reg [⟨some 23,.mv (.t 8),none⟩,
 ⟨some 24,.bin .lss (.t 23) (.k (.c (.d (.int .i64 16)))),none⟩])
 (.cond (.t 24) (.skip)
 (.exit 0)))
 (.seq (.block 1 (.reg [⟨some 27,.mv (.t 8),none⟩,
 ⟨some 28,.mv (.t 2),none⟩,
 ⟨some 29,.mv (.t 8),none⟩,
 ⟨some 30,.bin .mul (.k (.c (.d (.int .i64 4)))) (.t 29),none⟩,
 ⟨some 31,.idxSl 1 (.t 28) (.t 30),none⟩,
 ⟨some 32,.load .sc (.t 31),none⟩,
 ⟨some 33,.conv .u32 (.t 32),none⟩,
 ⟨some 34,.bin .shl (.t 33) (.k (.c (.d (.int .u64 24)))),none⟩,
 ⟨some 35,.mv (.t 2),none⟩,
 ⟨some 36,.mv (.t 8),none⟩,
 ⟨some 37,.bin .mul (.k (.c (.d (.int .i64 4)))) (.t 36),none⟩,
 ⟨some 38,.bin .add (.t 37) (.k (.c (.d (.int .i64 1)))),none⟩,
 ⟨some 39,.idxSl 1 (.t 35) (.t 38),none⟩,
 ⟨some 40,.load .sc (.t 39),none⟩,
 ⟨some 41,.conv .u32 (.t 40),none⟩,
 ⟨some 42,.bin .shl (.t 41) (.k (.c (.d (.int .u64 16)))),none⟩,
 ⟨some 43,.bin .or (.t 34) (.t 42),none⟩,
 ⟨some 44,.mv (.t 2),none⟩,
 ⟨some 45,.mv (.t 8),none⟩,
 ⟨some 46,.bin .mul (.k (.c (.d (.int .i64 4)))) (.t 45),none⟩,
 ⟨some 47,.bin .add (.t 46) (.k (.c (.d (.int .i64 2)))),none⟩,
 ⟨some 48,.idxSl 1 (.t 44) (.t 47),none⟩,
 ⟨some 49,.load .sc (.t 48),none⟩,
 ⟨some 50,.conv .u32 (.t 49),none⟩,
 ⟨some 51,.bin .shl (.t 50) (.k (.c (.d (.int .u64 8)))),none⟩,
 ⟨some 52,.bin .or (.t 43) (.t 51),none⟩,
 ⟨some 53,.mv (.t 2),none⟩,
 ⟨some 54,.mv (.t 8),none⟩,
 ⟨some 55,.bin .mul (.k (.c (.d (.int .i64 4)))) (.t 54),none⟩,
 ⟨some 56,.bin .add (.t 55) (.k (.c (.d (.int .i64 3)))),none⟩,
 ⟨some 57,.idxSl 1 (.t 53) (.t 56),none⟩,
 ⟨some 58,.load .sc (.t 57),none⟩,
 ⟨some 59,.conv .u32 (.t 58),none⟩,
 ⟨some 60,.bin .or (.t 52) (.t 59),none⟩,
 ⟨some 61,.idxPa 1 64 (.t 7) (.t 27),none⟩,
 ⟨none,.store .sc (.t 61) (.t 60),none⟩]))
 (.reg [⟨some 25,.mv (.t 8),none⟩,
 ⟨some 26,.bin .add (.t 25) (.k (.c (.d (.int .i64 1)))),none⟩,
 ⟨some 8,.mv (.t 26),none⟩]))
def lp_rblock_1:SCode :=
 .seq (.seq (.reg [⟨some 62,.mv (.t 9),none⟩,
 ⟨some 63,.bin .lss (.t 62) (.k (.c (.d (.int .i64 64)))),none⟩])
 (.cond (.t 63) (.skip)
 (.exit 2)))
 (.seq (.block 3 (.seq (.reg [⟨some 66,.mv (.t 9),none⟩,
 ⟨some 67,.bin .sub (.t 66) (.k (.c (.d (.int .i64 15)))),none⟩,
 ⟨some 68,.idxPa 1 64 (.t 7) (.t 67),none⟩,
 ⟨some 69,.load .sc (.t 68),none⟩,
 ⟨some 70,.mv (.t 9),none⟩,
 ⟨some 71,.bin .sub (.t 70) (.k (.c (.d (.int .i64 2)))),none⟩,
 ⟨some 72,.idxPa 1 64 (.t 7) (.t 71),none⟩,
 ⟨some 73,.load .sc (.t 72),none⟩,
 ⟨some 10,.mv (.t 69),none⟩,
 ⟨some 11,.mv (.t 73),none⟩])
 (.reg [⟨some 74,.mv (.t 9),none⟩,
 ⟨some 75,.mv (.t 11),none⟩,
 ⟨some 76,.call 104 [(.t 75),(.k (.c (.d (.int .i64 17))))] none,none⟩,
 ⟨some 77,.mv (.t 11),none⟩,
 ⟨some 78,.call 104 [(.t 77),(.k (.c (.d (.int .i64 19))))] none,none⟩,
 ⟨some 79,.bin .xor (.t 76) (.t 78),none⟩,
 ⟨some 80,.mv (.t 11),none⟩,
 ⟨some 81,.bin .shr (.t 80) (.k (.c (.d (.int .u64 10)))),none⟩,
 ⟨some 82,.bin .xor (.t 79) (.t 81),none⟩,
 ⟨some 83,.mv (.t 9),none⟩,
 ⟨some 84,.bin .sub (.t 83) (.k (.c (.d (.int .i64 7)))),none⟩,
 ⟨some 85,.idxPa 1 64 (.t 7) (.t 84),none⟩,
 ⟨some 86,.load .sc (.t 85),none⟩,
 ⟨some 87,.bin .add (.t 82) (.t 86),none⟩,
 ⟨some 88,.mv (.t 10),none⟩,
 ⟨some 89,.call 104 [(.t 88),(.k (.c (.d (.int .i64 7))))] none,none⟩,
 ⟨some 90,.mv (.t 10),none⟩,
 ⟨some 91,.call 104 [(.t 90),(.k (.c (.d (.int .i64 18))))] none,none⟩,
 ⟨some 92,.bin .xor (.t 89) (.t 91),none⟩,
 ⟨some 93,.mv (.t 10),none⟩,
 ⟨some 94,.bin .shr (.t 93) (.k (.c (.d (.int .u64 3)))),none⟩,
 ⟨some 95,.bin .xor (.t 92) (.t 94),none⟩,
 ⟨some 96,.bin .add (.t 87) (.t 95),none⟩,
 ⟨some 97,.mv (.t 9),none⟩,
 ⟨some 98,.bin .sub (.t 97) (.k (.c (.d (.int .i64 16)))),none⟩,
 ⟨some 99,.idxPa 1 64 (.t 7) (.t 98),none⟩,
 ⟨some 100,.load .sc (.t 99),none⟩,
 ⟨some 101,.bin .add (.t 96) (.t 100),none⟩,
 ⟨some 102,.idxPa 1 64 (.t 7) (.t 74),none⟩,
 ⟨none,.store .sc (.t 102) (.t 101),none⟩])))
 (.reg [⟨some 64,.mv (.t 9),none⟩,
 ⟨some 65,.bin .add (.t 64) (.k (.c (.d (.int .i64 1)))),none⟩,
 ⟨some 9,.mv (.t 65),none⟩]))
def lp_rblock_2:SCode :=
 .seq (.seq (.reg [⟨some 127,.mv (.t 20),none⟩,
 ⟨some 128,.bin .lss (.t 127) (.k (.c (.d (.int .i64 64)))),none⟩])
 (.cond (.t 128) (.skip)
 (.exit 4)))
 (.seq (.block 5 (.seq (.reg [⟨some 131,.mv (.t 19),none⟩,
 ⟨some 132,.mv (.t 16),none⟩,
 ⟨some 133,.call 104 [(.t 132),(.k (.c (.d (.int .i64 6))))] none,none⟩,
 ⟨some 134,.mv (.t 16),none⟩,
 ⟨some 135,.call 104 [(.t 134),(.k (.c (.d (.int .i64 11))))] none,none⟩,
 ⟨some 136,.bin .xor (.t 133) (.t 135),none⟩,
 ⟨some 137,.mv (.t 16),none⟩,
 ⟨some 138,.call 104 [(.t 137),(.k (.c (.d (.int .i64 25))))] none,none⟩,
 ⟨some 139,.bin .xor (.t 136) (.t 138),none⟩,
 ⟨some 140,.bin .add (.t 131) (.t 139),none⟩,
 ⟨some 141,.mv (.t 16),none⟩,
 ⟨some 142,.mv (.t 17),none⟩,
 ⟨some 143,.bin .and (.t 141) (.t 142),none⟩,
 ⟨some 144,.mv (.t 16),none⟩,
 ⟨some 145,.un .xor (.t 144),none⟩,
 ⟨some 146,.mv (.t 18),none⟩,
 ⟨some 147,.bin .and (.t 145) (.t 146),none⟩,
 ⟨some 148,.bin .xor (.t 143) (.t 147),none⟩,
 ⟨some 149,.bin .add (.t 140) (.t 148),none⟩,
 ⟨some 150,.mv (.t 1),none⟩,
 ⟨some 151,.mv (.t 20),none⟩,
 ⟨some 152,.idxSl 1 (.t 150) (.t 151),none⟩,
 ⟨some 153,.load .sc (.t 152),none⟩,
 ⟨some 154,.bin .add (.t 149) (.t 153),none⟩,
 ⟨some 155,.mv (.t 20),none⟩,
 ⟨some 156,.idxPa 1 64 (.t 7) (.t 155),none⟩,
 ⟨some 157,.load .sc (.t 156),none⟩,
 ⟨some 158,.bin .add (.t 154) (.t 157),none⟩,
 ⟨some 21,.mv (.t 158),none⟩])
 (.seq (.reg [⟨some 159,.mv (.t 12),none⟩,
 ⟨some 160,.call 104 [(.t 159),(.k (.c (.d (.int .i64 2))))] none,none⟩,
 ⟨some 161,.mv (.t 12),none⟩,
 ⟨some 162,.call 104 [(.t 161),(.k (.c (.d (.int .i64 13))))] none,none⟩,
 ⟨some 163,.bin .xor (.t 160) (.t 162),none⟩,
 ⟨some 164,.mv (.t 12),none⟩,
 ⟨some 165,.call 104 [(.t 164),(.k (.c (.d (.int .i64 22))))] none,none⟩,
 ⟨some 166,.bin .xor (.t 163) (.t 165),none⟩,
 ⟨some 167,.mv (.t 12),none⟩,
 ⟨some 168,.mv (.t 13),none⟩,
 ⟨some 169,.bin .and (.t 167) (.t 168),none⟩,
 ⟨some 170,.mv (.t 12),none⟩,
 ⟨some 171,.mv (.t 14),none⟩,
 ⟨some 172,.bin .and (.t 170) (.t 171),none⟩,
 ⟨some 173,.bin .xor (.t 169) (.t 172),none⟩,
 ⟨some 174,.mv (.t 13),none⟩,
 ⟨some 175,.mv (.t 14),none⟩,
 ⟨some 176,.bin .and (.t 174) (.t 175),none⟩,
 ⟨some 177,.bin .xor (.t 173) (.t 176),none⟩,
 ⟨some 178,.bin .add (.t 166) (.t 177),none⟩,
 ⟨some 22,.mv (.t 178),none⟩])
 (.reg [⟨some 179,.mv (.t 21),none⟩,
 ⟨some 180,.mv (.t 22),none⟩,
 ⟨some 181,.bin .add (.t 179) (.t 180),none⟩,
 ⟨some 182,.mv (.t 12),none⟩,
 ⟨some 183,.mv (.t 13),none⟩,
 ⟨some 184,.mv (.t 14),none⟩,
 ⟨some 185,.mv (.t 15),none⟩,
 ⟨some 186,.mv (.t 21),none⟩,
 ⟨some 187,.bin .add (.t 185) (.t 186),none⟩,
 ⟨some 188,.mv (.t 16),none⟩,
 ⟨some 189,.mv (.t 17),none⟩,
 ⟨some 190,.mv (.t 18),none⟩,
 ⟨some 12,.mv (.t 181),none⟩,
 ⟨some 13,.mv (.t 182),none⟩,
 ⟨some 14,.mv (.t 183),none⟩,
 ⟨some 15,.mv (.t 184),none⟩,
 ⟨some 16,.mv (.t 187),none⟩,
 ⟨some 17,.mv (.t 188),none⟩,
 ⟨some 18,.mv (.t 189),none⟩,
 ⟨some 19,.mv (.t 190),none⟩]))))
 (.reg [⟨some 129,.mv (.t 20),none⟩,
 ⟨some 130,.bin .add (.t 129) (.k (.c (.d (.int .i64 1)))),none⟩,
 ⟨some 20,.mv (.t 130),none⟩]))
def sf_rblock:SFn:=⟨3,232,
 .seq (.reg [⟨some 6,.mv (.k (.c .nil)),none⟩])
 (.seq (.reg [⟨some 7,.allocArr [(.int .u32 0),(.int .u32 0),(.int .u32 0),(.int .u32 0),(.int .u32 0),(.int .u32 0),(.int .u32 0),(.int .u32 0),(.int .u32 0),(.int .u32 0),(.int .u32 0),(.int .u32 0),(.int .u32 0),(.int .u32 0),(.int .u32 0),(.int .u32 0),(.int .u32 0),(.int .u32 0),(.int .u32 0),(.int .u32 0),(.int .u32 0),(.int .u32 0),(.int .u32 0),(.int .u32 0),(.int .u32 0),(.int .u32 0),(.int .u32 0),(.int .u32 0),(.int .u32 0),(.int .u32 0),(.int .u32 0),(.int .u32 0),(.int .u32 0),(.int .u32 0),(.int .u32 0),(.int .u32 0),(.int .u32 0),(.int .u32 0),(.int .u32 0),(.int .u32 0),(.int .u32 0),(.int .u32 0),(.int .u32 0),(.int .u32 0),(.int .u32 0),(.int .u32 0),(.int .u32 0),(.int .u32 0),(.int .u32 0),(.int .u32 0),(.int .u32 0),(.int .u32 0),(.int .u32 0),(.int .u32 0),(.int .u32 0),(.int .u32 0),(.int .u32 0),(.int .u32 0),(.int .u32 0),(.int .u32 0),(.int .u32 0),(.int .u32 0),(.int .u32 0),(.int .u32 0)],none⟩])
 (.seq (.seq (.reg [⟨some 8,.mv (.k (.c (.d (.int .i64 0)))),none⟩])
 (.block 0 (.loop lp_rblock_0)))
 (.seq (.seq (.reg [⟨some 9,.mv (.k (.c (.d (.int .i64 16)))),none⟩])
 (.block 2 (.loop lp_rblock_1)))
 (.seq (.reg [⟨some 103,.mv (.t 0),none⟩,
 ⟨some 104,.idxSl 1 (.t 103) (.k (.c (.d (.int .i64 0)))),none⟩,
 ⟨some 105,.load .sc (.t 104),none⟩,
 ⟨some 106,.mv (.t 0),none⟩,
 ⟨some 107,.idxSl 1 (.t 106) (.k (.c (.d (.int .i64 1)))),none⟩,
 ⟨some 108,.load .sc (.t 107),none⟩,
 ⟨some 109,.mv (.t 0),none⟩,
 ⟨some 110,.idxSl 1 (.t 109) (.k (.c (.d (.int .i64 2)))),none⟩,
 ⟨some 111,.load .sc (.t 110),none⟩,
 ⟨some 112,.mv (.t 0),none⟩,
 ⟨some 113,.idxSl 1 (.t 112) (.k (.c (.d (.int .i64 3)))),none⟩,
 ⟨some 114,.load .sc (.t 113),none⟩,
 ⟨some 115,.mv (.t 0),none⟩,
 ⟨some 116,.idxSl 1 (.t 115) (.k (.c (.d (.int .i64 4)))),none⟩,
 ⟨some 117,.load .sc (.t 116),none⟩,
 ⟨some 118,.mv (.t 0),none⟩,
 ⟨some 119,.idxSl 1 (.t 118) (.k (.c (.d (.int .i64 5)))),none⟩,
 ⟨some 120,.load .sc (.t 119),none⟩,
 ⟨some 121,.mv (.t 0),none⟩,
 ⟨some 122,.idxSl 1 (.t 121) (.k (.c (.d (.int .i64 6)))),none⟩,
 ⟨some 123,.load .sc (.t 122),none⟩,
 ⟨some 124,.mv (.t 0),none⟩,
 ⟨some 125,.idxSl 1 (.t 124) (.k (.c (.d (.int .i64 7)))),none⟩,
 ⟨some 126,.load .sc (.t 125),none⟩,
 ⟨some 12,.mv (.t 105),none⟩,
 ⟨some 13,.mv (.t 108),none⟩,
 ⟨some 14,.mv (.t 111),none⟩,
 ⟨some 15,.mv (.t 114),none⟩,
 ⟨some 16,.mv (.t 117),none⟩,
 ⟨some 17,.mv (.t 120),none⟩,
 ⟨some 18,.mv (.t 123),none⟩,
 ⟨some 19,.mv (.t 126),none⟩])
 (.seq (.seq (.reg [⟨some 20,.mv (.k (.c (.d (.int .i64 0)))),none⟩])
 (.block 4 (.loop lp_rblock_2)))
 (.seq (.reg [⟨some 191,.mv (.t 0),none⟩,
 ⟨some 192,.idxSl 1 (.t 191) (.k (.c (.d (.int .i64 0)))),none⟩,
 ⟨some 193,.load .sc (.t 192),none⟩,
 ⟨some 194,.mv (.t 12),none⟩,
 ⟨some 195,.bin .add (.t 193) (.t 194),none⟩,
 ⟨some 196,.mv (.t 0),none⟩,
 ⟨some 197,.idxSl 1 (.t 196) (.k (.c (.d (.int .i64 1)))),none⟩,
 ⟨some 198,.load .sc (.t 197),none⟩,
 ⟨some 199,.mv (.t 13),none⟩,
 ⟨some 200,.bin .add (.t 198) (.t 199),none⟩,
 ⟨some 201,.mv (.t 0),none⟩,
 ⟨some 202,.idxSl 1 (.t 201) (.k (.c (.d (.int .i64 2)))),none⟩,
 ⟨some 203,.load .sc (.t 202),none⟩,
 ⟨some 204,.mv (.t 14),none⟩,
 ⟨some 205,.bin .add (.t 203) (.t 204),none⟩,
 ⟨some 206,.mv (.t 0),none⟩,
 ⟨some 207,.idxSl 1 (.t 206) (.k (.c (.d (.int .i64 3)))),none⟩,
 ⟨some 208,.load .sc (.t 207),none⟩,
 ⟨some 209,.mv (.t 15),none⟩,
 ⟨some 210,.bin .add (.t 208) (.t 209),none⟩,
 ⟨some 211,.mv (.t 0),none⟩,
 ⟨some 212,.idxSl 1 (.t 211) (.k (.c (.d (.int .i64 4)))),none⟩,
 ⟨some 213,.load .sc (.t 212),none⟩,
 ⟨some 214,.mv (.t 16),none⟩,
 ⟨some 215,.bin .add (.t 213) (.t 214),none⟩,
 ⟨some 216,.mv (.t 0),none⟩,
 ⟨some 217,.idxSl 1 (.t 216) (.k (.c (.d (.int .i64 5)))),none⟩,
 ⟨some 218,.load .sc (.t 217),none⟩,
 ⟨some 219,.mv (.t 17),none⟩,
 ⟨some 220,.bin .add (.t 218) (.t 219),none⟩,
 ⟨some 221,.mv (.t 0),none⟩,
 ⟨some 222,.idxSl 1 (.t 221) (.k (.c (.d (.int .i64 6)))),none⟩,
 ⟨some 223,.load .sc (.t 222),none⟩,
 ⟨some 224,.mv (.t 18),none⟩,
 ⟨some 225,.bin .add (.t 223) (.t 224),none⟩,
 ⟨some 226,.mv (.t 0),none⟩,
 ⟨some 227,.idxSl 1 (.t 226) (.k (.c (.d (.int .i64 7)))),none⟩,
 ⟨some 228,.load .sc (.t 227),none⟩,
 ⟨some 229,.mv (.t 19),none⟩,
 ⟨some 230,.bin .add (.t 228) (.t 229),none⟩,
 ⟨some 231,.bldSl true 8 1 (.int .u32 0) [(0,(.t 195)),(1,(.t 200)),(2,(.t 205)),(3,(.t 210)),(4,(.t 215)),(5,(.t 220)),(6,(.t 225)),(7,(.t 230))],none⟩,
 ⟨some 6,.mv (.t 231),none⟩])
 (.ret))))))),
 [(6,none)]⟩
theorem cf_rblock:compFn Tryz.prog { own:=[231],comp:=[],frz:=[],nils:=[] } Tryz.f85=some sf_rblock:=by kernel_rfl
set_option maxHeartbeats 1600000 in
theorem rblock_c (G:Glob) (h:List UInt32) (b:List UInt8) (hh:h.length=8) (hb:b.length=64):Den Tryz.prog G 85 [.sl (h.map wD),.sl (constK.map wD),.sl (b.map bD)] (.w (.c (.fr 1 ((blockK h b).map wD)))):=by
  refine den_walk Tryz.func85 cf_rblock rfl rfl ?_
  have hsl:(sched b).length=64:=schedN_len b 48
  have hcl:constK.length=64:=constK_len
  simp only[sf_rblock,putAll,wx,stV,seval,iteOmega,toNatUp,reduceCtorEq]
  refine loop_st (rbSt1 h constK b) (fun t=>16-t) (fun t=>t≤16) 0 (Nat.zero_le _) ?_ ?_
  ·refine ent_l (fun _=>56) ?_ ?_ rfl rfl <;> simp only[wx,wex,stV,seval,iteOmega,toNatUp,reduceCtorEq]
   rfl
  ·intro t ht
   by_cases hlt:t<16
   ·have e0:IntKind.i64.wrap (4*(t:Int))=((4*t:Nat):Int):=by rw[IntWalk.i64_in _ (by omega)]; omega
    have e1:IntKind.i64.wrap (((4*t:Nat):Int)+1)=((4*t+1:Nat):Int):=by rw[IntWalk.i64_in _ (by omega)]; omega
    have e2:IntKind.i64.wrap (((4*t:Nat):Int)+2)=((4*t+2:Nat):Int):=by rw[IntWalk.i64_in _ (by omega)]; omega
    have e3:IntKind.i64.wrap (((4*t:Nat):Int)+3)=((4*t+3:Nat):Int):=by rw[IntWalk.i64_in _ (by omega)]; omega
    have e4:IntKind.i64.wrap ((t:Int)+1)=((t+1:Nat):Int):=by rw[IntWalk.i64_in _ (by omega)]; omega
    have g:∀ k,k<64→(b.map bD)[k]?=some (bD (b.getD k 0)):=fun k hk=>by rw[get_map,getD_someB (by omega)]; rfl
    have g0:=g (4*t) (by omega)
    have g1:=g (4*t+1) (by omega)
    have g2:=g (4*t+2) (by omega)
    have g3:=g (4*t+3) (by omega)
    have h1:t<(sched16 b t++List.replicate (64-t) 0).length:=by rw[List.length_append,sched16_len,List.length_replicate]; omega
    have h2:=set_next (sched16 b t) 0 (wordAt b t) (64-t) (by omega)
    rw[sched16_len] at h2
    have h3:sched16 b t++[wordAt b t]=sched16 b (t+1):=by simp[sched16,List.range_succ]
    have h4:64-t-1=64-(t+1):=by omega
    rw[h3,h4] at h2
    simp only[wordAt] at h2
    have m24:min (24:Int).toNat 32=24:=by decide
    have m16:min (16:Int).toNat 32=16:=by decide
    have m8:min (8:Int).toNat 32=8:=by decide
    simp only[lp_rblock_0,rbSt1,wx,stV,seval,iteOmega,toNatUp,reduceCtorEq,e0,e1,e2,e3,e4,g0,g1,g2,g3,Nat.zero_add,stO_ws h1 (one_w _),set_ws,h2]
    refine lop_next (t+1) (by omega) (by omega) (ent_l id ?_ ?_ rfl rfl) <;> simp only[wx,wex,stV,seval,iteOmega,toNatUp,reduceCtorEq]
   ·obtain rfl:t=16:=by omega
    simp only[lp_rblock_0,rbSt1,wx,stV,seval,iteOmega,toNatUp,reduceCtorEq]
    refine loop_st (rbSt2 h constK b) (fun n=>48-n) (fun n=>n≤48) 0 (Nat.zero_le _) ?_ ?_
    ·have h0:sched16 b 16=schedN b 0:=rfl
     refine ent_l id ?_ ?_ rfl rfl <;> simp only[wx,wex,stV,seval,iteOmega,toNatUp,reduceCtorEq,h0]
    ·intro n hn
     by_cases hlt:n<48
     ·have hl:=schedN_len b n
      have w1:∀ k:Nat,k≤16→IntKind.i64.wrap (((16+n:Nat):Int)-(k:Int))=((16+n-k:Nat):Int):=fun k hk=>by rw[IntWalk.i64_in _ (by omega)]; omega
      have e15:IntKind.i64.wrap (((16+n:Nat):Int)-15)=((16+n-15:Nat):Int):=w1 15 (by decide)
      have e2:IntKind.i64.wrap (((16+n:Nat):Int)-2)=((16+n-2:Nat):Int):=w1 2 (by decide)
      have e7:IntKind.i64.wrap (((16+n:Nat):Int)-7)=((16+n-7:Nat):Int):=w1 7 (by decide)
      have e16:IntKind.i64.wrap (((16+n:Nat):Int)-16)=((16+n-16:Nat):Int):=w1 16 (by decide)
      have e0:IntKind.i64.wrap (((16+n:Nat):Int)+1)=((16+(n+1):Nat):Int):=by rw[IntWalk.i64_in _ (by omega)]; omega
      have g:∀ k,k<16+n→((schedN b n++List.replicate (48-n) 0).map wD)[k]?=some (wD ((schedN b n).getD k 0)):=fun k hk=>by
        rw[List.getElem?_map,get_of (by omega)]; rfl
      have g15:=g (16+n-15) (by omega)
      have g2:=g (16+n-2) (by omega)
      have g7:=g (16+n-7) (by omega)
      have g16:=g (16+n-16) (by omega)
      simp only[lp_rblock_1,rbSt2,wx,stV,seval,iteOmega,toNatUp,reduceCtorEq,e15,e2,e7,e16,e0,g15,g2,g7,g16]
      refine st_call (rturn_c G _ 17 (by decide) (by decide)) rfl (.inr rfl) ?_
      simp only[wx,stV,seval,iteOmega,toNatUp,reduceCtorEq]
      refine st_call (rturn_c G _ 19 (by decide) (by decide)) rfl (.inr rfl) ?_
      simp only[wx,stV,seval,iteOmega,toNatUp,reduceCtorEq,e15,e2,e7,e16,e0,g15,g2,g7,g16]
      refine st_call (rturn_c G _ 7 (by decide) (by decide)) rfl (.inr rfl) ?_
      simp only[wx,stV,seval,iteOmega,toNatUp,reduceCtorEq]
      refine st_call (rturn_c G _ 18 (by decide) (by decide)) rfl (.inr rfl) ?_
      have h1:16+n<(schedN b n++List.replicate (48-n) 0).length:=by rw[List.length_append,hl,List.length_replicate]; omega
      have h2:=set_next (schedN b n) 0 (nextW (schedN b n) (16+n)) (48-n) (by omega)
      rw[hl] at h2
      have h4:48-n-1=48-(n+1):=by omega
      have h3:schedN b n++[nextW (schedN b n) (16+n)]=schedN b (n+1):=rfl
      rw[h3,h4] at h2
      simp only[nextW,smallA,smallB] at h2
      simp only[wx,stV,seval,iteOmega,toNatUp,reduceCtorEq,e15,e2,e7,e16,e0,g15,g2,g7,g16,stO_ws h1 (one_w _),set_ws,h2]
      refine lop_next (n+1) (by omega) (by omega) (ent_l id ?_ ?_ rfl rfl) <;> simp only[wx,wex,stV,seval,iteOmega,toNatUp,reduceCtorEq]
     ·have hn48:n=48:=by omega
      have h0:48-n=0:=by omega
      obtain⟨h0',h1,h2,h3,h4,h5,h6,h7,rfl⟩:=eight hh
      simp only[lp_rblock_1,rbSt2,wx,stV,seval,iteOmega,toNatUp,reduceCtorEq,h0,List.append_nil,List.replicate_zero,← sched_at b n hn48]
      refine loop_st (rbR3 [h0',h1,h2,h3,h4,h5,h6,h7] b) (fun n=>64-n) (fun n=>n≤64) 0 (Nat.zero_le _) ?_ ?_
      ·refine ent_l id ?_ ?_ rfl rfl <;> simp only[rbR3,rbSt3,wx,wex,stV,seval,iteOmega,toNatUp,reduceCtorEq]
       exact⟨rfl,rfl,rfl,rfl,rfl,rfl,rfl,rfl⟩
      ·clear hn hlt hn48 h0
       intro n hn
       by_cases hlt:n<64
       ·have e1:IntKind.i64.wrap ((n:Int)+1)=((n+1:Nat):Int):=by rw[IntWalk.i64_in _ (by omega)]; rfl
        have g1:(constK.map wD)[n]?=some (wD (constK.getD n 0)):=by rw[get_map,getD_some (by omega)]; rfl
        have g2:((sched b).map wD)[n]?=some (wD ((sched b).getD n 0)):=by rw[get_map,getD_some (by omega)]; rfl
        have hr:(Eight.of [h0',h1,h2,h3,h4,h5,h6,h7]).rounds constK (sched b) (n+1)=((Eight.of [h0',h1,h2,h3,h4,h5,h6,h7]).rounds constK (sched b) n).step (constK.getD n 0) ((sched b).getD n 0):=rfl
        generalize hs:(Eight.of [h0',h1,h2,h3,h4,h5,h6,h7]).rounds constK (sched b) n=s at hr
        simp only[lp_rblock_2,rbR3,rbSt3,hs,wx,stV,seval,iteOmega,toNatUp,reduceCtorEq,hcl,hsl,g1,g2,e1]
        refine st_call (rturn_c G _ 6 (by decide) (by decide)) rfl (.inr rfl) ?_
        simp only[wx,stV,seval,iteOmega,toNatUp,reduceCtorEq]
        refine st_call (rturn_c G _ 11 (by decide) (by decide)) rfl (.inr rfl) ?_
        simp only[wx,stV,seval,iteOmega,toNatUp,reduceCtorEq]
        refine st_call (rturn_c G _ 25 (by decide) (by decide)) rfl (.inr rfl) ?_
        simp only[wx,stV,seval,iteOmega,toNatUp,reduceCtorEq,g1,g2,hcl,hsl]
        refine st_call (rturn_c G _ 2 (by decide) (by decide)) rfl (.inr rfl) ?_
        simp only[wx,stV,seval,iteOmega,toNatUp,reduceCtorEq]
        refine st_call (rturn_c G _ 13 (by decide) (by decide)) rfl (.inr rfl) ?_
        simp only[wx,stV,seval,iteOmega,toNatUp,reduceCtorEq]
        refine st_call (rturn_c G _ 22 (by decide) (by decide)) rfl (.inr rfl) ?_
        simp only[wx,stV,seval,iteOmega,toNatUp,reduceCtorEq,e1]
        refine lop_next (n+1) (by omega) (by omega) ?_
        rw[rbR3,hr]
        refine (ent_l id ?_ ?_ rfl rfl) <;> simp only[wx,wex,stV,seval,iteOmega,toNatUp,reduceCtorEq,step_a,step_b,step_c,step_d,step_e,step_f,step_g,step_h]
        exact⟨rfl,rfl⟩
       ·obtain rfl:n=64:=by omega
        have hK:blockK [h0',h1,h2,h3,h4,h5,h6,h7] b=((Eight.of [h0',h1,h2,h3,h4,h5,h6,h7]).rounds constK (sched b) 64).sum [h0',h1,h2,h3,h4,h5,h6,h7]:=rfl
        rw[hK]
        simp only[rbR3]
        generalize (Eight.of [h0',h1,h2,h3,h4,h5,h6,h7]).rounds constK (sched b) 64=s
        have e8:s.sum [h0',h1,h2,h3,h4,h5,h6,h7]=[addW h0' s.a,addW h1 s.b,addW h2 s.c,addW h3 s.d,addW h4 s.e,addW h5 s.f,addW h6 s.g,addW h7 s.h]:=rfl
        simp only[lp_rblock_2,rbSt3,e8,wx,stV,seval,iteOmega,toNatUp,reduceCtorEq]
        exact ret_own (id:=1848) (n:=8) (s:=1) (by simp only[wx,stV,seval,iteOmega,toNatUp,reduceCtorEq]) (by simp only[wx,stV,seval,iteOmega,toNatUp,reduceCtorEq] <;> rfl) rfl
end Go.Proofs.YtcikhnjfkfigjaaGreat
namespace Go.Proofs.YtcikhnjfkfigjaaGreat
open Go.RowKit
def foldB (h:List UInt32) (b:List UInt8):Nat→List UInt32
  | 0=>h
  | n+1=>blockK (foldB h b n) ((b.drop (64*n)).take 64)
theorem foldB_len {h:List UInt32} (hh:h.length=8) (b:List UInt8):∀ n,(foldB h b n).length=8
  | 0=>hh
  | n+1=>blockK_len _ _
def padK (rest:List UInt8) (count:Nat):List UInt8:=rest++[128]++List.replicate ((119-rest.length)%64) 0++putL (count*8) 8
def wordsB (ws:List UInt32):List UInt8:=ws.flatMap fun w=>putL w.toNat 4
def finK (s:List UInt32) (rest:List UInt8) (count:Nat):List UInt8:=wordsB (foldB s (padK rest count) ((padK rest count).length / 64))
def sumK (b:List UInt8):List UInt8:=finK (foldB firstK b (b.length / 64)) (b.drop (64*(b.length / 64))) b.length
theorem wordsB_len:∀ ws:List UInt32,(wordsB ws).length=4*ws.length
  | []=>rfl
  | w::ws=>by
    have:wordsB (w::ws)=putL w.toNat 4++wordsB ws:=rfl
    rw[this,List.length_append,putL_length,wordsB_len ws,List.length_cons]; omega
theorem finK_len {s:List UInt32} (hs:s.length=8) (rest:List UInt8) (count:Nat):(finK s rest count).length=32:=by
  unfold finK
  rw[wordsB_len,foldB_len hs]
theorem sumK_len (b:List UInt8):(sumK b).length=32:=finK_len (foldB_len firstK_len _ _) _ _
theorem padK_len (rest:List UInt8) (count:Nat) (h:rest.length<64):(padK rest count).length=rest.length+9+(119-rest.length)%64∧(padK rest count).length%64=0:=by
  have:(padK rest count).length=rest.length+9+(119-rest.length)%64:=by simp[padK,putL_length]; omega
  exact⟨this,by omega⟩
theorem wordsB_take (ws:List UInt32) (k:Nat) (h:k<ws.length):wordsB (ws.take k)++putL (ws.getD k 0).toNat 4=wordsB (ws.take (k+1)):=by
  rw[List.take_succ_eq_append_getElem h]
  unfold wordsB
  rw[List.flatMap_append]
  simp[h]
end Go.Proofs.YtcikhnjfkfigjaaGreat
namespace Go.Proofs.YtcikhnjfkfigjaaGreat
open Go.RowKit IntWalk
set_option maxHeartbeats 1600000
theorem rep_snoc {α:Type} (a:α) (j:Nat):List.replicate j a++[a]=List.replicate (j+1) a:=by rw[List.replicate_succ']
def rf1St (h:List UInt32) (rest:List UInt8) (count:Nat) (j:Nat):St:=⟨ofL [(0,.w (.c (.d (.sl (h.map wD))))),(2,.w (.c (.d (.int .i64 (count:Int))))),(7,.w (.c (.d (.sl (constK.map wD))))),(8,.w (.c (.own 1 1 0 (rest++[128]++List.replicate j 0).length)))],hL [(1,.row 1 ((rest++[128]++List.replicate j 0).map bD))],uL [1]⟩
def rf2St (h:List UInt32) (p:List UInt8) (n:Nat):St:=⟨ofL [(0,.w (.c (.d (.sl ((foldB h p n).map wD))))),(7,.w (.c (.d (.sl (constK.map wD))))),(8,.w (.c (.own 1 1 0 p.length))),(9,.w (.c (.d (.int .i64 ((64*n:Nat):Int)))))],hL [(1,.row 1 (p.map bD))],uL [1]⟩
def rf3St (ws:List UInt32) (k:Nat):St:=⟨ofL [(0,.w (.c (.d (.sl (ws.map wD))))),(10,.w (.c (.own 1 1 0 (wordsB (ws.take k)).length))),(11,.w (.c (.d (.int .i64 (k:Int)))))],hL [(1,.row 1 ((wordsB (ws.take k)).map bD))],uL [1]⟩
theorem get_ws {ws:List UInt32} {k:Nat} (h:k<ws.length):(ws.map wD)[k]?=some (wD (ws.getD k 0)):=by
  simp[h]
theorem b0_is:D.int .u8 0=bD 0:=rfl
theorem b128_is:D.int .u8 128=bD 128:=rfl
theorem app_c (l:List UInt8) (a:UInt8):l.map bD++[bD a]=(l++[a]).map bD:=by simp
def lp_rfin_0:SCode :=
 .seq (.seq (.reg [⟨some 18,.mv (.t 8),none⟩,
 ⟨some 19,.len (.t 18),none⟩,
 ⟨some 20,.bin .rem (.t 19) (.k (.c (.d (.int .i64 64)))),none⟩,
 ⟨some 21,.bin .neq (.t 20) (.k (.c (.d (.int .i64 56)))),none⟩])
 (.cond (.t 21) (.skip)
 (.exit 0)))
 (.block 1 (.reg [⟨some 22,.mv (.t 8),none⟩,
 ⟨some 23,.bldSl false 1 1 (.int .u8 0) [(0,(.k (.c (.d (.int .u8 0)))))],none⟩,
 ⟨some 24,.app false 1 1 (.t 22) (.t 23),none⟩,
 ⟨some 8,.mv (.t 24),none⟩]))
def lp_rfin_1:SCode :=
 .seq (.seq (.reg [⟨some 31,.mv (.t 9),none⟩,
 ⟨some 32,.mv (.t 8),none⟩,
 ⟨some 33,.len (.t 32),none⟩,
 ⟨some 34,.bin .lss (.t 31) (.t 33),none⟩])
 (.cond (.t 34) (.skip)
 (.exit 2)))
 (.seq (.block 3 (.reg [⟨some 37,.mv (.t 0),none⟩,
 ⟨some 38,.mv (.t 7),none⟩,
 ⟨some 39,.mv (.t 8),none⟩,
 ⟨some 40,.mv (.t 9),none⟩,
 ⟨some 41,.mv (.t 9),none⟩,
 ⟨some 42,.bin .add (.t 41) (.k (.c (.d (.int .i64 64)))),none⟩,
 ⟨some 43,.slice 1 (.t 39) (some (.t 40)) (some (.t 42)) none,none⟩,
 ⟨some 44,.call 85 [(.t 37),(.t 38),(.t 43)] none,none⟩,
 ⟨some 0,.mv (.t 44),none⟩]))
 (.reg [⟨some 35,.mv (.t 9),none⟩,
 ⟨some 36,.bin .add (.t 35) (.k (.c (.d (.int .i64 64)))),none⟩,
 ⟨some 9,.mv (.t 36),none⟩]))
def lp_rfin_2:SCode :=
 .seq (.seq (.reg [⟨some 46,.mv (.t 11),none⟩,
 ⟨some 47,.bin .lss (.t 46) (.k (.c (.d (.int .i64 8)))),none⟩])
 (.cond (.t 47) (.skip)
 (.exit 4)))
 (.seq (.block 5 (.reg [⟨some 50,.mv (.t 10),none⟩,
 ⟨some 51,.mv (.t 0),none⟩,
 ⟨some 52,.mv (.t 11),none⟩,
 ⟨some 53,.idxSl 1 (.t 51) (.t 52),none⟩,
 ⟨some 54,.load .sc (.t 53),none⟩,
 ⟨some 55,.conv .u64 (.t 54),none⟩,
 ⟨some 56,.call 51 [(.t 55),(.k (.c (.d (.int .i64 4))))] none,none⟩,
 ⟨some 57,.app false 1 1 (.t 50) (.t 56),none⟩,
 ⟨some 10,.mv (.t 57),none⟩]))
 (.reg [⟨some 48,.mv (.t 11),none⟩,
 ⟨some 49,.bin .add (.t 48) (.k (.c (.d (.int .i64 1)))),none⟩,
 ⟨some 11,.mv (.t 49),none⟩]))
def sf_rfin:SFn:=⟨3,59,
 .seq (.reg [⟨some 6,.mv (.k (.c .nil)),none⟩])
 (.seq (.reg [⟨some 12,.call 84 [] none,none⟩,
 ⟨some 7,.mv (.t 12),none⟩])
 (.seq (.reg [⟨some 13,.mv (.t 1),none⟩,
 ⟨some 14,.bldSl false 1 1 (.sl []) [(0,(.t 13))],none⟩,
 ⟨some 15,.call 28 [(.t 14)] (some (0,1)),none⟩,
 ⟨some 16,.bldSl false 1 1 (.int .u8 0) [(0,(.k (.c (.d (.int .u8 128)))))],none⟩,
 ⟨some 17,.app false 1 1 (.t 15) (.t 16),none⟩,
 ⟨some 8,.mv (.t 17),none⟩])
 (.seq (.block 0 (.loop lp_rfin_0))
 (.seq (.reg [⟨some 25,.mv (.t 8),none⟩,
 ⟨some 26,.mv (.t 2),none⟩,
 ⟨some 27,.conv .u64 (.t 26),none⟩,
 ⟨some 28,.bin .mul (.t 27) (.k (.c (.d (.int .u64 8)))),none⟩,
 ⟨some 29,.call 51 [(.t 28),(.k (.c (.d (.int .i64 8))))] none,none⟩,
 ⟨some 30,.app false 1 1 (.t 25) (.t 29),none⟩,
 ⟨some 8,.mv (.t 30),none⟩])
 (.seq (.seq (.reg [⟨some 9,.mv (.k (.c (.d (.int .i64 0)))),none⟩])
 (.block 2 (.loop lp_rfin_1)))
 (.seq (.reg [⟨some 45,.bldSl true 0 1 (.int .u8 0) [],none⟩,
 ⟨some 10,.mv (.t 45),none⟩])
 (.seq (.seq (.reg [⟨some 11,.mv (.k (.c (.d (.int .i64 0)))),none⟩])
 (.block 4 (.loop lp_rfin_2)))
 (.seq (.reg [⟨some 58,.mv (.t 10),none⟩,
 ⟨some 6,.mv (.t 58),none⟩])
 (.ret))))))))),
 [(6,none)]⟩
theorem cf_rfin:compFn Tryz.prog { own:=[15,45],comp:=[],frz:=[],nils:=[] } Tryz.f86=some sf_rfin:=by kernel_rfl
theorem rfin_c (G:Glob) (s:List UInt32) (rest:List UInt8) (count:Nat) (hs:s.length=8) (hr:rest.length<64) (hc:count≤140737488355328):Den Tryz.prog G 86 [.sl (s.map wD),.sl (rest.map bD),.int .i64 (count:Int)] (.w (.c (.fr 1 ((finK s rest count).map bD)))):=by
  refine den_walk Tryz.func86 cf_rfin rfl rfl ?_
  have hj:=rjoin_c G [rest] (by simp) (by simp; omega)
  have hf:[rest].flatten=rest:=by simp
  rw[hf] at hj
  obtain⟨hp1,hp2⟩:=padK_len rest count hr
  simp only[sf_rfin,putAll,wx,wy,wz,stV,seval,iteOmega,toNatUp,reduceCtorEq]
  refine st_call (rcon_c G) rfl (.inl rfl) ?_
  simp only[wx,wy,wz,stV,seval,iteOmega,toNatUp,reduceCtorEq]
  refine st_call hj rfl (.inl rfl) ?_
  simp only[wx,wy,wz,stV,seval,iteOmega,toNatUp,reduceCtorEq,srcV,b128_is,app_c]
  refine loop_st (rf1St s rest count) (fun j=>(119-rest.length)%64-j) (fun j=>j≤(119-rest.length)%64) 0 (Nat.zero_le _) ?_ ?_
  ·refine ent_l (fun _=>136) ?_ ?_ rfl rfl <;> simp only[wx,wex,wez,stV,seval,iteOmega,toNatUp,reduceCtorEq]
  ·intro j hj
   have hl:(rest++[128]++List.replicate j 0).length=rest.length+1+j:=by simp; omega
   have ht:((rest++[128]++List.replicate j 0).length:Int).tmod 64=(((rest.length+1+j)%64:Nat):Int):=by rw[hl]; rfl
   by_cases hlt:j<(119-rest.length)%64
   ·have e1:rest++[128]++List.replicate j 0++[0]=rest++[128]++List.replicate (j+1) 0:=by
      rw[List.append_assoc,rep_snoc]
    generalize hx:rest++[128]++List.replicate j 0=x at *
    simp only[lp_rfin_0,rf1St,hx,wx,wy,wz,stV,seval,iteOmega,toNatUp,reduceCtorEq,ht,srcV,b0_is,app_c,e1]
    refine lop_next (j+1) (by omega) (by omega) (ent_l (fun _=>192) ?_ ?_ rfl rfl) <;> simp only[wx,wex,wez,stV,seval,iteOmega,toNatUp,reduceCtorEq]
   ·obtain rfl:j=(119-rest.length)%64:=by omega
    generalize hx:rest++[128]++List.replicate ((119-rest.length)%64) 0=x at *
    simp only[lp_rfin_0,rf1St,hx,wx,wy,wz,stV,seval,iteOmega,toNatUp,reduceCtorEq,ht]
    refine st_call (rput_in G (count*8) 8 (by decide)) ?_ (.inl rfl) ?_
    ·simp only[wx,wy,wz,stV,seval,iteOmega,toNatUp,reduceCtorEq]
    have hx2:x++putL (count*8) 8=padK rest count:=by rw[← hx]; rfl
    simp only[wx,wy,wz,stV,seval,iteOmega,toNatUp,reduceCtorEq,srcV,app_map,hx2,putL_length]
    refine loop_st (rf2St s (padK rest count)) (fun n=>(padK rest count).length / 64-n) (fun n=>n≤(padK rest count).length / 64) 0 (Nat.zero_le _) ?_ ?_
    ·refine ent_l (fun _=>240) ?_ ?_ rfl rfl <;> simp only[wx,wex,wez,stV,seval,iteOmega,toNatUp,reduceCtorEq,foldB]
    ·generalize hpk:padK rest count=p at *
     intro n hn
     have hl8:=foldB_len hs p n
     by_cases hlt:n<p.length / 64
     ·have h2:((p.drop (64*n)).take 64).length=64:=by rw[List.length_take,List.length_drop]; omega
      have e1:64*n+64-64*n=64:=by omega
      simp only[lp_rfin_1,rf2St,wx,wy,wz,stV,seval,iteOmega,toNatUp,reduceCtorEq]
      refine st_call (rblock_c G (foldB s p n) ((p.drop (64*n)).take 64) hl8 h2) ?_ (.inr (fl_w _ _)) ?_
      ·simp only[wx,wy,wz,stV,seval,iteOmega,toNatUp,reduceCtorEq,obSl,e1]
      simp only[wx,wy,wz,stV,seval,iteOmega,toNatUp,reduceCtorEq]
      have e2:64*(n:Int)+64=64*((n:Int)+1):=by omega
      refine lop_next (n+1) (by omega) (by omega) (ent_l id ?_ ?_ rfl rfl) <;> simp only[wx,wex,wez,stV,seval,iteOmega,toNatUp,reduceCtorEq,foldB,e2]
     ·obtain rfl:n=p.length / 64:=by omega
      have hfk:finK s rest count=wordsB (foldB s p (p.length / 64)):=by unfold finK; rw[hpk]
      rw[hfk]
      simp only[rf2St]
      generalize foldB s p (p.length / 64)=ws at hl8
      have h64:¬ ((64*(p.length / 64):Nat):Int)<(p.length:Int):=by omega
      simp only[lp_rfin_1,wx,wy,wz,stV,seval,iteOmega,toNatUp,reduceCtorEq,h64]
      refine loop_st (rf3St ws) (fun k=>8-k) (fun k=>k≤8) 0 (Nat.zero_le _) ?_ ?_
      ·refine ent_l (fun _=>360) ?_ ?_ rfl rfl <;> simp only[wx,wex,wez,stV,seval,iteOmega,toNatUp,reduceCtorEq,wordsB]
      ·intro k hk
       by_cases hlt:k<8
       ·have hw1:(ws.getD k 0).toNat<4294967296:=word_lt _
        have hwl:=wordsB_len (ws.take k)
        rw[List.length_take] at hwl
        simp only[lp_rfin_2,rf3St,wx,wy,wz,stV,seval,iteOmega,toNatUp,reduceCtorEq,get_ws (show k<ws.length by omega)]
        refine st_call (rput_in G (ws.getD k 0).toNat 4 (by decide)) ?_ (.inl rfl) ?_
        ·simp only[wx,wy,wz,stV,seval,iteOmega,toNatUp,reduceCtorEq]
        simp only[wx,wy,wz,stV,seval,iteOmega,toNatUp,reduceCtorEq,srcV,wordsB_take ws k (by omega),putL_length]
        refine lop_next (k+1) (by omega) (by omega) (ent_l (fun _=>456) ?_ ?_ rfl rfl) <;> simp only[wx,wex,wez,stV,seval,iteOmega,toNatUp,reduceCtorEq]
       ·obtain rfl:k=8:=by omega
        have:ws.take 8=ws:=List.take_of_length_le (by omega)
        simp only[lp_rfin_2,rf3St,wx,wy,wz,stV,seval,iteOmega,toNatUp,reduceCtorEq,this]
        exact ret_own (id:=1) (n:=(wordsB ws).length) (s:=1) (by simp only[wx,stV,seval,iteOmega,toNatUp,reduceCtorEq]) (by simp only[wx,stV,seval,iteOmega,toNatUp,reduceCtorEq]) (by rw[List.length_map])
def rsSt (b:List UInt8) (n:Nat):St:=⟨ofL [(0,.w (.c (.d (.sl (b.map bD))))),(3,.w (.c (.d (.sl ((foldB firstK b n).map wD))))),(4,.w (.c (.d (.sl (constK.map wD))))),(5,.w (.c (.d (.int .i64 ((64*(b.length / 64):Nat):Int))))),(6,.w (.c (.d (.int .i64 ((64*n:Nat):Int)))))],hL [],uL []⟩
def lp_rsum_0:SCode :=
 .seq (.seq (.reg [⟨some 13,.mv (.t 6),none⟩,
 ⟨some 14,.mv (.t 5),none⟩,
 ⟨some 15,.bin .lss (.t 13) (.t 14),none⟩])
 (.cond (.t 15) (.skip)
 (.exit 0)))
 (.seq (.block 1 (.reg [⟨some 18,.mv (.t 3),none⟩,
 ⟨some 19,.mv (.t 4),none⟩,
 ⟨some 20,.mv (.t 0),none⟩,
 ⟨some 21,.mv (.t 6),none⟩,
 ⟨some 22,.mv (.t 6),none⟩,
 ⟨some 23,.bin .add (.t 22) (.k (.c (.d (.int .i64 64)))),none⟩,
 ⟨some 24,.slice 1 (.t 20) (some (.t 21)) (some (.t 23)) none,none⟩,
 ⟨some 25,.call 85 [(.t 18),(.t 19),(.t 24)] none,none⟩,
 ⟨some 3,.mv (.t 25),none⟩]))
 (.reg [⟨some 16,.mv (.t 6),none⟩,
 ⟨some 17,.bin .add (.t 16) (.k (.c (.d (.int .i64 64)))),none⟩,
 ⟨some 6,.mv (.t 17),none⟩]))
def sf_rsum:SFn:=⟨1,33,
 .seq (.reg [⟨some 2,.mv (.k (.c .nil)),none⟩])
 (.seq (.reg [⟨some 7,.call 83 [] none,none⟩,
 ⟨some 8,.call 84 [] none,none⟩,
 ⟨some 3,.mv (.t 7),none⟩,
 ⟨some 4,.mv (.t 8),none⟩])
 (.seq (.reg [⟨some 9,.mv (.t 0),none⟩,
 ⟨some 10,.len (.t 9),none⟩,
 ⟨some 11,.bin .quo (.t 10) (.k (.c (.d (.int .i64 64)))),none⟩,
 ⟨some 12,.bin .mul (.t 11) (.k (.c (.d (.int .i64 64)))),none⟩,
 ⟨some 5,.mv (.t 12),none⟩])
 (.seq (.seq (.reg [⟨some 6,.mv (.k (.c (.d (.int .i64 0)))),none⟩])
 (.block 0 (.loop lp_rsum_0)))
 (.seq (.reg [⟨some 26,.mv (.t 3),none⟩,
 ⟨some 27,.mv (.t 0),none⟩,
 ⟨some 28,.mv (.t 5),none⟩,
 ⟨some 29,.slice 1 (.t 27) (some (.t 28)) none none,none⟩,
 ⟨some 30,.mv (.t 0),none⟩,
 ⟨some 31,.len (.t 30),none⟩,
 ⟨some 32,.call 86 [(.t 26),(.t 29),(.t 31)] (some (0,1)),none⟩,
 ⟨some 2,.mv (.t 32),none⟩])
 (.ret))))),
 [(2,none)]⟩
theorem cf_rsum:compFn Tryz.prog { own:=[32],comp:=[],frz:=[],nils:=[] } Tryz.f50=some sf_rsum:=by kernel_rfl
theorem rsum_c (G:Glob) (b:List UInt8) (hb:b.length≤140737488355328):Den Tryz.prog G 50 [.sl (b.map bD)] (.w (.c (.fr 1 ((sumK b).map bD)))):=by
  refine den_walk Tryz.func50 cf_rsum rfl rfl ?_
  have e1:(b.length:Int).tdiv 64=((b.length / 64:Nat):Int):=rfl
  have e2:((b.length / 64:Nat):Int)*64=((64*(b.length / 64):Nat):Int):=by omega
  have e3:IntKind.i64.wrap ((64*(b.length / 64):Nat):Int)=((64*(b.length / 64):Nat):Int):=IntWalk.i64_in _ (by omega)
  have e4:IntKind.i64.wrap ((b.length / 64:Nat):Int)=((b.length / 64:Nat):Int):=IntWalk.i64_in _ (by omega)
  simp only[sf_rsum,putAll,wx,wy,stV,seval,iteOmega,toNatUp,reduceCtorEq]
  refine st_call (rfst_c G) rfl (.inl rfl) ?_
  simp only[wx,wy,stV,seval,iteOmega,toNatUp,reduceCtorEq]
  refine st_call (rcon_c G) rfl (.inl rfl) ?_
  simp only[wx,wy,stV,seval,iteOmega,toNatUp,reduceCtorEq,e1,e2,e3,e4]
  refine loop_st (rsSt b) (fun n=>b.length / 64-n) (fun n=>n≤b.length / 64) 0 (Nat.zero_le _) ?_ ?_
  ·refine ent_l id ?_ ?_ rfl rfl <;> simp only[wx,wex,stV,seval,iteOmega,toNatUp,reduceCtorEq,foldB]
  ·intro n hn
   have hl8:=foldB_len firstK_len b n
   by_cases hlt:n<b.length / 64
   ·have h2:((b.drop (64*n)).take 64).length=64:=by rw[List.length_take,List.length_drop]; omega
    have e1:64*n+64-64*n=64:=by omega
    have e5:IntKind.i64.wrap (((64*n:Nat):Int)+64)=((64*(n+1):Nat):Int):=by rw[IntWalk.i64_in _ (by omega)]; omega
    have e6:64*(n+1)-64*n=64:=by omega
    simp only[lp_rsum_0,rsSt,wx,wy,stV,seval,iteOmega,toNatUp,reduceCtorEq,e1,e5,e6]
    refine st_call (rblock_c G (foldB firstK b n) ((b.drop (64*n)).take 64) hl8 h2) ?_ (.inl rfl) ?_
    ·simp only[wx,wy,stV,seval,iteOmega,toNatUp,reduceCtorEq]
    simp only[wx,wy,stV,seval,iteOmega,toNatUp,reduceCtorEq,e5]
    refine lop_next (n+1) (by omega) (by omega) (ent_l id ?_ ?_ rfl rfl) <;> simp only[wx,wex,stV,seval,iteOmega,toNatUp,reduceCtorEq,foldB]
   ·obtain rfl:n=b.length / 64:=by omega
    have e1:List.take (b.length-64*(b.length / 64)) (b.drop (64*(b.length / 64)))=b.drop (64*(b.length / 64)):=List.take_of_length_le (by rw[List.length_drop]; exact Nat.le_refl _)
    simp only[lp_rsum_0,rsSt,wx,wy,stV,seval,iteOmega,toNatUp,reduceCtorEq,e1]
    refine st_call (rfin_c G (foldB firstK b (b.length / 64)) (b.drop (64*(b.length / 64))) b.length hl8 (by rw[List.length_drop]; omega) hb) ?_ (.inl rfl) ?_
    ·simp only[wx,wy,stV,seval,iteOmega,toNatUp,reduceCtorEq]
    simp only[wx,wy,stV,seval,iteOmega,toNatUp,reduceCtorEq]
    exact ret_own (id:=256) (n:=(finK (foldB firstK b (b.length / 64)) (b.drop (64*(b.length / 64))) b.length).length) (s:=1) (by simp only[wx,stV,seval,iteOmega,toNatUp,reduceCtorEq]) (by simp only[wx,stV,seval,iteOmega,toNatUp,reduceCtorEq] <;> rfl) (by rw[List.length_map]; rfl)
end Go.Proofs.YtcikhnjfkfigjaaGreat
namespace Go.Proofs.YtcikhnjfkfigjaaGreat
open Go.RowKit
end Go.Proofs.YtcikhnjfkfigjaaGreat
namespace Go.Proofs.YtcikhnjfkfigjaaGreat
open Go.RowKit IntWalk
def hashAt (s i:Nat):List UInt8:=sumK (putL s 8++putL i 4)
def bytesN (s:Nat) (k:Nat):List UInt8:=((List.range k).map (hashAt s)).flatten
theorem bytesN_succ (s k:Nat):bytesN s k++hashAt s k=bytesN s (k+1):=by simp[bytesN,List.range_succ]
theorem bytesN_len (s:Nat):∀ k,(bytesN s k).length=32*k
  | 0=>rfl
  | k+1=>by rw[← bytesN_succ,List.length_append,bytesN_len s k]; unfold hashAt; rw[sumK_len]; omega
def bytesK (seed n:Int):List UInt8:=(bytesN (seed%18446744073709551616).toNat ((n.toNat+31) / 32)).take n.toNat
theorem bytesK_len (seed n:Int):(bytesK seed n).length=n.toNat:=by
  unfold bytesK; rw[List.length_take,bytesN_len]; omega
def byLSt (seed n:Int) (s:Nat) (k:Nat):St:=⟨ofL [(0,.w (.c (.d (.int .i64 seed)))),(1,.w (.c (.d (.int .i64 n)))),(5,.w (.c (.own 1 1 0 (bytesN s k).length))),(6,.w (.c (.d (.int .i64 (k:Int)))))],hL [(1,.row 1 ((bytesN s k).map bD))],uL [1]⟩
def lp_wbytes_0:SCode :=
 .seq (.seq (.reg [⟨some 8,.mv (.t 5),none⟩,
 ⟨some 9,.len (.t 8),none⟩,
 ⟨some 10,.mv (.t 1),none⟩,
 ⟨some 11,.bin .lss (.t 9) (.t 10),none⟩])
 (.cond (.t 11) (.skip)
 (.exit 0)))
 (.seq (.block 1 (.reg [⟨some 14,.mv (.t 5),none⟩,
 ⟨some 15,.mv (.t 0),none⟩,
 ⟨some 16,.conv .u64 (.t 15),none⟩,
 ⟨some 17,.call 51 [(.t 16),(.k (.c (.d (.int .i64 8))))] none,none⟩,
 ⟨some 18,.mv (.t 6),none⟩,
 ⟨some 19,.conv .u64 (.t 18),none⟩,
 ⟨some 20,.call 51 [(.t 19),(.k (.c (.d (.int .i64 4))))] none,none⟩,
 ⟨some 21,.bldSl false 2 1 (.sl []) [(0,(.t 17)),(1,(.t 20))],none⟩,
 ⟨some 22,.call 28 [(.t 21)] none,none⟩,
 ⟨some 23,.call 50 [(.t 22)] none,none⟩,
 ⟨some 24,.app false 1 1 (.t 14) (.t 23),none⟩,
 ⟨some 5,.mv (.t 24),none⟩]))
 (.reg [⟨some 12,.mv (.t 6),none⟩,
 ⟨some 13,.bin .add (.t 12) (.k (.c (.d (.int .i64 1)))),none⟩,
 ⟨some 6,.mv (.t 13),none⟩]))
def sf_wbytes:SFn:=⟨2,29,
 .seq (.reg [⟨some 4,.mv (.k (.c .nil)),none⟩])
 (.seq (.reg [⟨some 7,.bldSl true 0 1 (.int .u8 0) [],none⟩,
 ⟨some 5,.mv (.t 7),none⟩])
 (.seq (.seq (.reg [⟨some 6,.mv (.k (.c (.d (.int .i64 0)))),none⟩])
 (.block 0 (.loop lp_wbytes_0)))
 (.seq (.reg [⟨some 25,.mv (.t 5),none⟩,
 ⟨some 26,.mv (.t 1),none⟩,
 ⟨some 27,.max [(.t 26),(.k (.c (.d (.int .i64 0))))],none⟩,
 ⟨some 28,.slice 1 (.t 25) none (some (.t 27)) none,none⟩,
 ⟨some 4,.mv (.t 28),none⟩])
 (.ret)))),
 [(4,none)]⟩
theorem cf_wbytes:compFn Tryz.prog { own:=[7],comp:=[],frz:=[],nils:=[] } Tryz.f21=some sf_wbytes:=by kernel_rfl
set_option maxHeartbeats 1600000 in
theorem wbytes_f (G:Glob) (seed n:Int) (hn:n≤1099511627776):Den Tryz.prog G 21 [.int .i64 seed,.int .i64 n] (.w (.c (.fr 1 ((bytesK seed n).map bD)))):=by
  refine den_walk Tryz.func21 cf_wbytes rfl rfl ?_
  obtain⟨s,hs⟩:∃ s:Nat,(seed%18446744073709551616).toNat=s:=⟨_,rfl⟩
  have hw:IntKind.u64.wrap seed=(s:Int):=by rw[IntKind.wrap_u64,← hs]; omega
  have hs2:s<18446744073709551616:=by omega
  have hK:bytesK seed n=(bytesN s ((n.toNat+31) / 32)).take n.toNat:=by unfold bytesK; rw[hs]
  rw[hK]
  simp only[sf_wbytes,putAll,wx,wy,wz,stV,seval,iteOmega,toNatUp,reduceCtorEq]
  refine loop_st (byLSt seed n s) (fun k=>(n.toNat+31) / 32-k) (fun k=>k≤(n.toNat+31) / 32) 0 (Nat.zero_le _) ?_ ?_
  ·refine ent_l (fun _=>56) ?_ ?_ rfl rfl <;> simp only[wx,wex,wez,stV,seval,iteOmega,toNatUp,reduceCtorEq] <;> rfl
  ·intro k hk
   have hl:=bytesN_len s k
   by_cases hlt:k<(n.toNat+31) / 32
   ·have hc:((bytesN s k).length:Int)<n:=by omega
    have hj:=rjoin_c G [putL s 8,putL k 4] (by simp) (by simp[putL_length])
    have hf:[putL s 8,putL k 4].flatten=putL s 8++putL k 4:=by simp
    rw[hf] at hj
    have hb:=bytesN_succ s k
    have hk2:IntKind.u64.wrap (k:Int)=(k:Int):=u64_in _ (by omega) (by omega)
    simp only[lp_wbytes_0,byLSt,wx,wy,stV,seval,iteOmega,toNatUp,reduceCtorEq,hw,hk2]
    refine st_call (rput_in G s 8 (by decide)) rfl (.inl rfl) ?_
    simp only[wx,wy,stV,seval,iteOmega,toNatUp,reduceCtorEq,hw,hk2]
    refine st_call (rput_in G k 4 (by decide)) rfl (.inl rfl) ?_
    simp only[wx,wy,stV,seval,iteOmega,toNatUp,reduceCtorEq]
    refine st_call hj rfl (.inl rfl) ?_
    simp only[wx,wy,stV,seval,iteOmega,toNatUp,reduceCtorEq]
    refine st_call (rsum_c G (putL s 8++putL k 4) (by simp[putL_length])) rfl (.inl rfl) ?_
    have hh:(sumK (putL s 8++putL k 4)).length=32:=sumK_len _
    have hb':bytesN s k++sumK (putL s 8++putL k 4)=bytesN s (k+1):=hb
    simp only[wx,wy,wz,stV,seval,iteOmega,toNatUp,reduceCtorEq,srcV,app_map,hb',hh]
    refine lop_next (k+1) (by omega) (by omega) (ent_l (fun _=>192) ?_ ?_ rfl rfl) <;> simp only[wx,wex,wez,stV,seval,iteOmega,toNatUp,reduceCtorEq]
   ·obtain rfl:k=(n.toNat+31) / 32:=by omega
    have hc:¬ ((bytesN s ((n.toNat+31) / 32)).length:Int)<n:=by omega
    by_cases h0:n<0
    ·have e0:n.toNat=0:=by omega
     simp only[lp_wbytes_0,byLSt,wx,wy,wz,stV,seval,iteOmega,toNatUp,reduceCtorEq,hc,List.foldl_cons,List.foldl_nil]
     rw[e0,List.map_take]
     exact ret_ownN (id:=1) (s:=1) (by simp only[wx,stV,seval,iteOmega,toNatUp,reduceCtorEq]) (by simp only[wx,stV,seval,iteOmega,toNatUp,reduceCtorEq]) (Nat.zero_le _)
    ·simp only[lp_wbytes_0,byLSt,wx,wy,wz,stV,seval,iteOmega,toNatUp,reduceCtorEq,hc,List.foldl_cons,List.foldl_nil]
     rw[List.map_take]
     exact ret_ownN (id:=1) (s:=1) (by simp only[wx,stV,seval,iteOmega,toNatUp,reduceCtorEq]) (by simp only[wx,stV,seval,iteOmega,toNatUp,reduceCtorEq]) (by rw[List.length_map,bytesN_len]; omega)
theorem wbytes_c (G:Glob) (seed n:Int) (hn:n≤1099511627776):Den Tryz.prog G 21 [.int .i64 seed,.int .i64 n] (.w (.c (.d (.sl ((bytesK seed n).map bD))))):=den_ro (wbytes_f G seed n hn)
end Go.Proofs.YtcikhnjfkfigjaaGreat
namespace Go.Proofs.YtcikhnjfkfigjaaGreat
open Go.RowKit IntWalk
def chgI (b:List UInt8) (at':Int):Nat:=(withinN at' b.length).toNat
def chgB (by':Int):UInt8:=UInt8.ofNat (1+(withinN by' 255).toNat)
def changedL (b:List UInt8) (at' by':Int):List UInt8:=b.set (chgI b at') (xorB (b.getD (chgI b at') 0) (chgB by'))
theorem changedL_len (b:List UInt8) (at' by':Int):(changedL b at' by').length=b.length:=List.length_set
theorem chgI_lt {b:List UInt8} (h:0<b.length) (at':Int):chgI b at'<b.length:=by
  have:=withinN_range at' b.length (by omega)
  unfold chgI; omega
def sf_chg:SFn:=⟨3,25,
 .seq (.reg [⟨some 6,.mv (.k (.c .nil)),none⟩])
 (.seq (.reg [⟨some 8,.mv (.t 0),none⟩,
 ⟨some 9,.bldSl false 1 1 (.sl []) [(0,(.t 8))],none⟩,
 ⟨some 10,.call 28 [(.t 9)] (some (0,1)),none⟩,
 ⟨some 7,.mv (.t 10),none⟩])
 (.seq (.reg [⟨some 11,.mv (.t 7),none⟩,
 ⟨some 12,.mv (.t 1),none⟩,
 ⟨some 13,.mv (.t 7),none⟩,
 ⟨some 14,.len (.t 13),none⟩,
 ⟨some 15,.call 17 [(.t 12),(.t 14)] none,none⟩,
 ⟨some 16,.idxSl 1 (.t 11) (.t 15),none⟩,
 ⟨some 17,.load .sc (.t 16),none⟩,
 ⟨some 18,.mv (.t 2),none⟩,
 ⟨some 19,.call 17 [(.t 18),(.k (.c (.d (.int .i64 255))))] none,none⟩,
 ⟨some 20,.bin .add (.k (.c (.d (.int .i64 1)))) (.t 19),none⟩,
 ⟨some 21,.conv .u8 (.t 20),none⟩,
 ⟨some 22,.bin .xor (.t 17) (.t 21),none⟩,
 ⟨some 23,.idxSl 1 (.t 11) (.t 15),none⟩,
 ⟨none,.store .sc (.t 23) (.t 22),none⟩])
 (.seq (.reg [⟨some 24,.mv (.t 7),none⟩,
 ⟨some 6,.mv (.t 24),none⟩])
 (.ret)))),
 [(6,none)]⟩
theorem cf_chg:compFn Tryz.prog { own:=[10],comp:=[],frz:=[],nils:=[] } Tryz.f22=some sf_chg:=by kernel_rfl
set_option maxHeartbeats 1600000 in
theorem chg_c (G:Glob) (b:List UInt8) (at' by':Int) (h:0<b.length) (hb:b.length≤140737488355328):Den Tryz.prog G 22 [.sl (b.map bD),.int .i64 at',.int .i64 by'] (.w (.c (.fr 1 ((changedL b at' by').map bD)))):=by
  refine den_walk Tryz.func22 cf_chg rfl rfl ?_
  have hj:=rjoin_c G [b] (by simp) (by simp; omega)
  have hf:[b].flatten=b:=by simp
  rw[hf] at hj
  have hw:=withinN_range at' b.length (by omega)
  have hw2:=withinN_range by' 255 (by decide)
  have hi:=chgI_lt h at'
  have ei:((chgI b at':Nat):Int)=withinN at' b.length:=by unfold chgI; omega
  have eb:bD (chgB by')=.int .u8 (1+withinN by' 255):=by
    unfold chgB
    rw[bD_ofNat (by omega)]
    congr 1; omega
  have g1:b[chgI b at']?=some (b.getD (chgI b at') 0):=by rw[List.getD_eq_getElem?_getD,List.getElem?_eq_getElem hi]; rfl
  have x1:=binV_xorB (b.getD (chgI b at') 0) (chgB by')
  rw[eb] at x1
  have hs:b.set (chgI b at') (xorB (b.getD (chgI b at') 0) (chgB by'))=changedL b at' by':=rfl
  have e1:=within_c G at' b.length (by omega)
  have e2:=within_c G by' 255 (by decide)
  rw[← ei] at e1 hw
  generalize withinN by' 255=y at *
  generalize chgI b at'=i at *
  simp only[sf_chg,putAll,wx,wy,wz,stV,seval,iteOmega,toNatUp,reduceCtorEq]
  refine st_call (hj) rfl (.inl rfl) ?_
  simp only[wx,wy,wz,stV,seval,iteOmega,toNatUp,reduceCtorEq]
  refine st_call (e1) rfl (.inl rfl) ?_
  simp only[get_map,g1,wx,wy,wz,stV,seval,iteOmega,toNatUp,reduceCtorEq]
  refine st_call (e2) rfl (.inl rfl) ?_
  simp only[x1,stO_bs hi (one_b _),set_bs,hs,wx,wy,wz,stV,seval,iteOmega,toNatUp,reduceCtorEq]
  exact ret_own (id:=80) (n:=b.length) (s:=1) (by simp only[wx,stV,seval,iteOmega,toNatUp,reduceCtorEq]) (by simp only[wx,stV,seval,iteOmega,toNatUp,reduceCtorEq]) (by simp[changedL_len])
def sf_wkey:SFn:=⟨1,5,
 .seq (.reg [⟨some 2,.mv (.k (.c .nil)),none⟩])
 (.seq (.reg [⟨some 3,.mv (.t 0),none⟩,
 ⟨some 4,.call 21 [(.t 3),(.k (.c (.d (.int .i64 32))))] none,none⟩,
 ⟨some 2,.mv (.t 4),none⟩])
 (.ret)),
 [(2,none)]⟩
theorem cf_wkey:compFn Tryz.prog { own:=[],comp:=[],frz:=[],nils:=[] } Tryz.f20=some sf_wkey:=by kernel_rfl
theorem wkey_c (G:Glob) (seed:Int):Den Tryz.prog G 20 [.int .i64 seed] (.w (.c (.d (.sl ((bytesK seed 32).map bD))))):=by
  refine den_walk Tryz.func20 cf_wkey rfl rfl ?_
  simp only[sf_wkey,putAll,wx,wy,wz,stV,seval,iteOmega,toNatUp,reduceCtorEq]
  refine st_call (wbytes_c G seed 32 (by decide)) rfl (.inl rfl) ?_
  simp only[wx,wy,wz,stV,seval,iteOmega,toNatUp,reduceCtorEq]
  exact ret_d1 (by simp only[wx,wy,wz,stV,seval,iteOmega,toNatUp,reduceCtorEq])
end Go.Proofs.YtcikhnjfkfigjaaGreat
