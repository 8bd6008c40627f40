/- Texts of one's own, merged: from: Layer 5 on data: the program's codes. Own work. -/
import Derived.Test.YtpbmdbahkpfkdaaGreatDoorMg210
import Derived.Test.YtpbmdbahkpfkdaaGreatDoorMg27
set_option linter.unusedVariables false
set_option linter.unusedSimpArgs false
namespace Go.Proofs.YtpbmdbahkpfkdaaGreatDoor
open Go.RowKit IntWalk
set_option maxHeartbeats 3200000
theorem blkV_ok {key b:List UInt8} (h:key.length=16) (hb:b.length=16):blkV key b=encK (rkK key) b:=if_pos ⟨h,hb⟩
theorem blkE_ok {key b:List UInt8} (h:key.length=16) (hb:b.length=16):blkE key b=0:=by unfold blkE; rw[if_neg (by omega),if_neg (by omega)]
theorem padN_16 (b:List UInt8):padN b 16=padL b:=rfl
def cdD (key:List UInt8):D:=.agg [.sl (key.map bD),.sl ((sub1 (rkK key)).map bD),.sl ((sub2 (rkK key)).map bD)]
def cdV (key:List UInt8):D:=if key.length=16 then cdD key else .agg [.sl [],.sl [],.sl []]
theorem fl_bt (s:Nat) (l:List UInt8) (k:IntKind) (n:Int):V.flat (.tup [.c (.fr s (l.map bD)),.c (.d (.int k n))])=true:=by
  have:=fl_b s l
  simp only[V.flat,W.flat,List.all_cons,List.all_nil,Bool.and_true] at this ⊢
  rw[this]; rfl
def sf_kenc:SFn:=⟨2,15,
 .seq (.reg [oO 2 (.box .roBox (.t 0)),
 oO 4 (.mv (.k (.c .nil)))])
 (.seq (.reg [oO 8 (.fieldAddr 0 (.t 2)),
 oO 9 (.load .sc (.t 8)),
 oM 10 1,
 oO 11 (.call 101 [(.t 9),(.t 10)] (some (0,1))),
 oM 7 11,
 oO 12 (.extract (.t 7) 0),
 oO 13 (.extract (.t 7) 1),
 oM 5 12,
 oM 6 13])
 (.seq (.reg [oM 14 5,
 oM 4 14])
 (.ret))),
 [(4,none)]⟩
theorem cf_kenc:compFn Tryz.prog { own:=[],comp:=[(11,0)],frz:=[],nils:=[] } Tryz.f109=some sf_kenc:=by kernel_rfl
theorem kenc_f (G:Glob) (key b:List UInt8) (h:key.length=16) (hb:b.length=16):Den Tryz.prog G 109 [.agg [.sl (key.map bD)],.sl (b.map bD)] (.w (.c (.fr 1 ((encK (rkK key) b).map bD)))):=by
  refine den_walk Tryz.func109 cf_kenc rfl rfl ?_
  have hx:=blk_f G key b (by omega) (by omega)
  rw[blkV_ok h hb,blkE_ok h hb] at hx
  simp only[sf_kenc,putAll,wal,stV,seval,iteOmega,toNatUp,reduceCtorEq]
  refine sD (hx) ?_
  exact qf1
theorem kenc_c (G:Glob) (key b:List UInt8) (h:key.length=16) (hb:b.length=16):Den Tryz.prog G 109 [.agg [.sl (key.map bD)],.sl (b.map bD)] (.w (.c (.d (.sl ((encK (rkK key) b).map bD))))):=den_ro (kenc_f G key b h hb)
def sf_cdof:SFn:=⟨1,25,
 .seq (.reg [oO 2 (.alloc [.nil,.nil,.nil]),
 oO 3 (.mv (kI 0))])
 (.seq (.reg [oM 8 0,
 oO 9 (.make true 1 1 (.int .u8 0) (kI 16) (kI 16)),
 oO 10 (.call 101 [(.t 8),(.t 9)] none),
 oM 7 10,
 oO 11 (.extract (.t 7) 0),
 oO 12 (.extract (.t 7) 1),
 oM 4 11,
 oM 5 12])
 (.seq (.seq (.reg [oM 13 5,
 oO 14 (.bin .neq (.t 13) (kI 0))])
 (.cond (.t 14) (.seq (.reg [oO 15 (.build [.nil,.nil,.nil] []),
 oM 16 5,
 oN (.store (.ag 3) (.t 2) (.t 15)),
 oM 3 16])
 (.ret))
 (.skip)))
 (.seq (.reg [oM 17 4,
 oO 18 (.call 102 [(.t 17)] none),
 oM 6 18])
 (.seq (.reg [oM 19 0,
 oO 20 (.build [.nil] [(0,1,(.t 19))]),
 oM 21 6,
 oM 22 6,
 oO 23 (.call 102 [(.t 22)] none),
 oO 24 (.build [.nil,.nil,.nil] [(0,1,(.t 20)),(1,1,(.t 21)),(2,1,(.t 23))]),
 oN (.store (.ag 3) (.t 2) (.t 24)),
 oO 3 (.mv (kI 0))])
 (.ret))))),
 [(2,(some (.ag 3))),(3,none)]⟩
theorem cf_cdof:compFn Tryz.prog { own:=[],comp:=[],frz:=[],nils:=[] } Tryz.f85=some sf_cdof:=by kernel_rfl
theorem cdof_c (G:Glob) (key:List UInt8) (hk:key.length≤9223372036854775807):Den Tryz.prog G 85 [.sl (key.map bD)] (.tup [.c (.d (cdV key)),.c (.d (.int .i64 (keyE key)))]):=by
  refine den_walk Tryz.func85 cf_cdof rfl rfl ?_
  have t0:(repL 16 (0:UInt8)).take 16=zero16:=rfl
  by_cases h:key.length=16
  ·have hx:=blk_f G key zero16 (by omega) (by decide)
   rw[blkV_ok h (by decide),blkE_ok h (by decide)] at hx
   have hv:cdV key=cdD key:=if_pos h
   have he:keyE key=0:=by unfold keyE; rw[if_neg (by omega)]
   have h1:=dbb_c G (encK (rkK key) zero16) (by rw[encK_len]; decide)
   have h2:=dbb_c G (sub1 (rkK key)) (by rw[sub1_len]; decide)
   have s1:dblL (encK (rkK key) zero16)=sub1 (rkK key):=rfl
   have s2:dblL (sub1 (rkK key))=sub2 (rkK key):=rfl
   rw[s1] at h1
   rw[s2] at h2
   rw[hv,he]
   simp only[sf_cdof,putAll,wal,stV,seval,iteOmega,toNatUp,reduceCtorEq,z16]
   refine st_call hx (by simp only[wal,stV,seval,iteOmega,toNatUp,reduceCtorEq,take_map,t0,repL_len]) (.inr (fl_bt _ _ _ _)) ?_
   simp only[wal,stV,seval,iteOmega,toNatUp,reduceCtorEq]
   refine sD (h1) ?_
   refine sD (h2) ?_
   exact ret_d2 (by simp only[wal,stV,seval,iteOmega,toNatUp,reduceCtorEq,cdD]) (by simp only[wal,stV,seval,iteOmega,toNatUp,reduceCtorEq])
  ·have hv:cdV key=.agg [.sl [],.sl [],.sl []]:=if_neg h
   have he:keyE key=5:=if_pos h
   have hx:=blk_f G key zero16 (by omega) (by decide)
   have v1:blkV key zero16=[]:=if_neg (fun k=>h k.1)
   have v2:blkE key zero16=5:=if_pos h
   rw[v1,v2] at hx
   rw[hv,he]
   simp only[sf_cdof,putAll,wal,stV,seval,iteOmega,toNatUp,reduceCtorEq,z16]
   refine st_call hx (by simp only[wal,stV,seval,iteOmega,toNatUp,reduceCtorEq,take_map,t0,repL_len]) (.inr (fl_bt _ _ _ _)) ?_
   simp only[wal,stV,seval,iteOmega,toNatUp,reduceCtorEq]
   exact qd2
def sf_fild:SFn:=⟨1,8,
 .seq (.reg [oO 2 (.mv (.k (.c .nil)))])
 (.seq (.reg [oM 3 0,
 oO 4 (.bldSl false 1 1 (.int .u8 0) [(0,(.k (.c (.d (.int .u8 128)))))]),
 oO 5 (.bldSl false 2 1 (.sl []) [(0,(.t 3)),(1,(.t 4))]),
 oO 6 (.call 30 [(.t 5)] none),
 oO 7 (.call 114 [(.t 6),(kI 16)] none),
 oM 2 7])
 (.ret)),
 [(2,none)]⟩
theorem cf_fild:compFn Tryz.prog { own:=[],comp:=[],frz:=[],nils:=[] } Tryz.f111=some sf_fild:=by kernel_rfl
theorem fild_c (G:Glob) (b:List UInt8) (hb:b.length≤70000):Den Tryz.prog G 111 [.sl (b.map bD)] (.w (.c (.d (.sl ((padL (b++[128])).map bD))))):=by
  refine den_walk Tryz.func111 cf_fild rfl rfl ?_
  have hj:=join_c G [b,[128]] (by simp) (by simp; omega)
  have hf:[b,[128]].flatten=b++[128]:=by simp
  rw[hf] at hj
  have hp:=pad_c G (b++[128]) 16 (by simp; omega)
  rw[padN_16] at hp
  simp only[sf_fild,putAll,wal,stV,seval,iteOmega,toNatUp,reduceCtorEq]
  refine sD (hj) ?_
  refine sD (hp) ?_
  exact qd1
theorem endM_full (rk:List UInt8) {e:List UInt8} (h:e.length=16):endM rk e=xorP e (sub1 rk):=if_pos h
theorem endM_part (rk:List UInt8) {e:List UInt8} (h:e.length≠16):endM rk e=xorP (padL (e++[128])) (sub2 rk):=if_neg h
def sf_clast:SFn:=⟨2,17,
 .seq (.reg [oO 2 (.box .roBox (.t 0)),
 oO 4 (.mv (.k (.c .nil)))])
 (.seq (.seq (.reg [oM 5 1,
 oO 6 (.len (.t 5)),
 oO 7 (.bin .eql (.t 6) (kI 16))])
 (.cond (.t 7) (.seq (.reg [oM 8 1,
 oO 9 (.fieldAddr 1 (.t 2)),
 oO 10 (.load .sc (.t 9)),
 oO 11 (.call 104 [(.t 8),(.t 10)] none),
 oM 4 11])
 (.ret))
 (.skip)))
 (.seq (.reg [oM 12 1,
 oO 13 (.call 111 [(.t 12)] none),
 oO 14 (.fieldAddr 2 (.t 2)),
 oO 15 (.load .sc (.t 14)),
 oO 16 (.call 104 [(.t 13),(.t 15)] none),
 oM 4 16])
 (.ret))),
 [(4,none)]⟩
theorem cf_clast:compFn Tryz.prog { own:=[],comp:=[],frz:=[],nils:=[] } Tryz.f110=some sf_clast:=by kernel_rfl
theorem clast_c (G:Glob) (key b:List UInt8) (hb:b.length≤16):Den Tryz.prog G 110 [cdD key,.sl (b.map bD)] (.w (.c (.d (.sl ((endM (rkK key) b).map bD))))):=by
  refine den_walk Tryz.func110 cf_clast rfl rfl ?_
  by_cases h:b.length=16
  ·rw[endM_full _ h]
   simp only[sf_clast,putAll,cdD,wal,stV,seval,iteOmega,toNatUp,reduceCtorEq,h]
   refine sD (cmb_c G b (sub1 (rkK key)) h (sub1_len _)) ?_
   exact qd1
  ·rw[endM_part _ h]
   simp only[sf_clast,putAll,cdD,wal,stV,seval,iteOmega,toNatUp,reduceCtorEq]
   refine sD (fild_c G b (by omega)) ?_
   refine sD (cmb_c G (padL (b++[128])) (sub2 (rkK key)) (padL_short (by omega)) (sub2_len _)) ?_
   exact qd1
def codV (key b:List UInt8):Nat→V
  | 0=>.w (.c (.own 1 1 0 16))
  | i+1=>.w (.c (.d (.sl ((cbcM (rkK key) b (i+1)).map bD))))
def codSt (key b:List UInt8) (i:Nat):St:=⟨ofL [(1,.w (.c (.d (.sl ((b.drop (16*i)).map bD))))),(2,.w (.c (.rp [.sl (key.map bD),.sl ((sub1 (rkK key)).map bD),.sl ((sub2 (rkK key)).map bD)]))),(5,codV key b i)],hL [(1,.row 1 ((repL 16 (0:UInt8)).map bD))],uL [1]⟩
theorem drop16 (b:List UInt8) (i:Nat):((b.drop (16*i)).drop 16).take ((b.drop (16*i)).length-16)=b.drop (16*(i+1)):=by
  rw[List.drop_drop,List.take_of_length_le (by simp only[List.length_drop]; omega)]; rfl
def lp_code_0:SCode :=
 .seq (.seq (.reg [oM 7 1,
 oO 8 (.len (.t 7)),
 oO 9 (.bin .gtr (.t 8) (kI 16))])
 (.cond (.t 9) (.skip)
 (.exit 0)))
 (.block 1 (.seq (.reg [oO 10 (.fieldAddr 0 (.t 2)),
 oO 11 (.load (.ag 1) (.t 10)),
 oM 12 5,
 oM 13 1,
 oO 14 (.slice 1 (.t 13) none (some (kI 16)) none),
 oO 15 (.call 104 [(.t 12),(.t 14)] none),
 oO 16 (.call 109 [(.t 11),(.t 15)] none),
 oM 5 16])
 (.reg [oM 17 1,
 oO 18 (.slice 1 (.t 17) (some (kI 16)) none none),
 oM 1 18])))
def sf_code:SFn:=⟨2,27,
 .seq (.reg [oO 2 (.box .roBox (.t 0)),
 oO 4 (.mv (.k (.c .nil)))])
 (.seq (.reg [oO 6 (.make true 1 1 (.int .u8 0) (kI 16) (kI 16)),
 oM 5 6])
 (.seq (.block 0 (.loop lp_code_0))
 (.seq (.reg [oO 19 (.fieldAddr 0 (.t 2)),
 oO 20 (.load (.ag 1) (.t 19)),
 oM 21 5,
 oO 22 (.load (.ag 3) (.t 2)),
 oM 23 1,
 oO 24 (.call 110 [(.t 22),(.t 23)] none),
 oO 25 (.call 104 [(.t 21),(.t 24)] none),
 oO 26 (.call 109 [(.t 20),(.t 25)] (some (0,1))),
 oM 4 26])
 (.ret)))),
 [(4,none)]⟩
theorem cf_code:compFn Tryz.prog { own:=[26],comp:=[],frz:=[],nils:=[] } Tryz.f103=some sf_code:=by kernel_rfl
theorem code_f (G:Glob) (key b:List UInt8) (h:key.length=16) (hb:b.length≤70000):Den Tryz.prog G 103 [cdD key,.sl (b.map bD)] (.w (.c (.fr 1 ((macM (rkK key) b).map bD)))):=by
  refine den_walk Tryz.func103 cf_code rfl rfl ?_
  have t0:(repL 16 (0:UInt8)).take 16=zero16:=rfl
  have hah:aheadM b=(b.length+15) / 16-1:=rfl
  have hm:∀ i,i=aheadM b→macM (rkK key) b=encK (rkK key) (xorP (cbcM (rkK key) b i) (endM (rkK key) (b.drop (16*i)))):=fun i e=>by rw[e]; rfl
  simp only[sf_code,putAll,cdD,wal,stV,seval,iteOmega,toNatUp,reduceCtorEq,z16]
  refine loop_st (codSt key b) (fun i=>aheadM b-i) (fun i=>i≤aheadM b) 0 (Nat.zero_le _) ?_ ?_
  ·refine ent_l (fun i=>48) ?_ ?_ rfl rfl <;> simp only[wx,wex,wez,stV,seval,iteOmega,toNatUp,reduceCtorEq,codV]
  ·intro i hi
   have hcl:(b.drop (16*i)).length=b.length-16*i:=List.length_drop
   have hdr:=drop16 b i
   by_cases hlt:i<aheadM b
   ·have hT:((b.drop (16*i)).take 16).length=16:=by rw[List.length_take]; omega
    have hstep:encK (rkK key) (xorP (cbcM (rkK key) b i) ((b.drop (16*i)).take 16))=cbcM (rkK key) b (i+1):=rfl
    have h1:=cmb_c G (cbcM (rkK key) b i) ((b.drop (16*i)).take 16) (cbcM_len _ _ _) hT
    have h2:=kenc_c G key (xorP (cbcM (rkK key) b i) ((b.drop (16*i)).take 16)) h (by rw[xorP_len,cbcM_len])
    rw[hstep] at h2
    rcases i with _ | i
    ·have hz:cbcM (rkK key) b 0=zero16:=rfl
     rw[hz] at h1 h2
     simp only[Nat.mul_zero,List.drop_zero,Nat.zero_add,Nat.mul_one] at hdr
     simp only[lp_code_0,codSt,codV,wal,stV,seval,iteOmega,toNatUp,reduceCtorEq]
     refine st_call h1 (by simp only[wal,stV,seval,iteOmega,toNatUp,reduceCtorEq,take_map,t0,repL_len]) (.inr (fl_b _ _)) ?_
     simp only[wal,stV,seval,iteOmega,toNatUp,reduceCtorEq]
     refine sC (h2) ?_
     simp only[hdr,wal,stV,seval,iteOmega,toNatUp,reduceCtorEq]
     refine lop_next (0+1) (by omega) (by omega) (ent_l (fun i=>i) ?_ ?_ rfl rfl) <;> simp only[wx,wex,wez,stV,seval,iteOmega,toNatUp,reduceCtorEq,codV]
    ·simp only[lp_code_0,codSt,codV,wal,stV,seval,iteOmega,toNatUp,reduceCtorEq]
     refine sD (h1) ?_
     refine sC (h2) ?_
     simp only[hdr,wal,stV,seval,iteOmega,toNatUp,reduceCtorEq]
     refine lop_next (i+1+1) (by omega) (by omega) (ent_l (fun i=>i) ?_ ?_ rfl rfl) <;> simp only[wx,wex,wez,stV,seval,iteOmega,toNatUp,reduceCtorEq,codV]
   ·rw[hm i (by omega)]
    have hl16:(b.drop (16*i)).length≤16:=by omega
    have h1:=clast_c G key (b.drop (16*i)) hl16
    have h2:=cmb_c G (cbcM (rkK key) b i) (endM (rkK key) (b.drop (16*i))) (cbcM_len _ _ _) (endM_len hl16)
    have h3:=kenc_f G key (xorP (cbcM (rkK key) b i) (endM (rkK key) (b.drop (16*i)))) h (by rw[xorP_len,cbcM_len])
    rcases i with _ | i
    ·have hz:cbcM (rkK key) b 0=zero16:=rfl
     rw[hz] at h2 h3 ⊢
     simp only[lp_code_0,codSt,codV,wal,stV,seval,iteOmega,toNatUp,reduceCtorEq]
     refine sD (h1) ?_
     refine st_call h2 (by simp only[wal,stV,seval,iteOmega,toNatUp,reduceCtorEq,take_map,t0,repL_len]) (.inr (fl_b _ _)) ?_
     simp only[wal,stV,seval,iteOmega,toNatUp,reduceCtorEq]
     refine sD (h3) ?_
     exact qf1
    ·simp only[lp_code_0,codSt,codV,wal,stV,seval,iteOmega,toNatUp,reduceCtorEq]
     refine sD (h1) ?_
     refine sD (h2) ?_
     refine sD (h3) ?_
     exact qf1
theorem code_c (G:Glob) (key b:List UInt8) (h:key.length=16) (hb:b.length≤70000):Den Tryz.prog G 103 [cdD key,.sl (b.map bD)] (.w (.c (.d (.sl ((macM (rkK key) b).map bD))))):=den_ro (code_f G key b h hb)
def sf_clsd:SFn:=⟨2,26,
 .seq (.reg [oO 4 (.mv (.k (.c .nil)))])
 (.seq (.reg [oM 6 0,
 oO 7 (.len (.t 6)),
 oO 8 (.bin .sub (.t 7) (kI 16)),
 oM 5 8])
 (.seq (.seq (.reg [oM 9 5,
 oO 10 (.bin .lss (.t 9) (kI 0))])
 (.cond (.t 10) (.seq (.reg [oM 11 1,
 oO 12 (.call 102 [(.t 11)] none),
 oM 13 0,
 oO 14 (.call 111 [(.t 13)] none),
 oO 15 (.call 104 [(.t 12),(.t 14)] none),
 oM 4 15])
 (.ret))
 (.skip)))
 (.seq (.reg [oM 16 0,
 oM 17 5,
 oO 18 (.slice 1 (.t 16) none (some (.t 17)) none),
 oM 19 0,
 oM 20 5,
 oO 21 (.slice 1 (.t 19) (some (.t 20)) none none),
 oM 22 1,
 oO 23 (.call 104 [(.t 21),(.t 22)] none),
 oO 24 (.bldSl false 2 1 (.sl []) [(0,(.t 18)),(1,(.t 23))]),
 oO 25 (.call 30 [(.t 24)] none),
 oM 4 25])
 (.ret)))),
 [(4,none)]⟩
theorem cf_clsd:compFn Tryz.prog { own:=[],comp:=[],frz:=[],nils:=[] } Tryz.f105=some sf_clsd:=by kernel_rfl
theorem clsd_c (G:Glob) (s d:List UInt8) (hs:s.length≤70000) (hd:d.length=16):Den Tryz.prog G 105 [.sl (s.map bD),.sl (d.map bD)] (.w (.c (.d (.sl ((if 16≤s.length then s.take (s.length-16)++xorP (s.drop (s.length-16)) d else xorP (dblL d) (padL (s++[128]))).map bD))))):=by
  refine den_walk Tryz.func105 cf_clsd rfl rfl ?_
  by_cases h:16≤s.length
  ·rw[if_pos h]
   have hl:(s.drop (s.length-16)).length=16:=by rw[List.length_drop]; omega
   have ht:(s.drop (s.length-16)).take (s.length-(s.length-16))=s.drop (s.length-16):=List.take_of_length_le (by omega)
   have hj:=join_c G [s.take (s.length-16),xorP (s.drop (s.length-16)) d] (by simp) (by simp[xorP_len]; omega)
   have hf:[s.take (s.length-16),xorP (s.drop (s.length-16)) d].flatten=s.take (s.length-16)++xorP (s.drop (s.length-16)) d:=by simp
   rw[hf] at hj
   have e1:(((s.length:Int)-16).toNat)=s.length-16:=by omega
   simp only[sf_clsd,putAll,wal,stV,seval,iteOmega,toNatUp,reduceCtorEq,e1,ht]
   refine sD (cmb_c G (s.drop (s.length-16)) d hl hd) ?_
   refine sD (hj) ?_
   exact qd1
  ·rw[if_neg h]
   simp only[sf_clsd,putAll,wal,stV,seval,iteOmega,toNatUp,reduceCtorEq]
   refine sD (dbb_c G d (by omega)) ?_
   refine sD (fild_c G s (by omega)) ?_
   refine sD (cmb_c G (dblL d) (padL (s++[128])) (dblL_len hd) (padL_short (by omega))) ?_
   exact qd1
def vecSt (key:List UInt8) (l:List (List UInt8)) (i:Nat):St:=⟨ofL [(1,.w (.c (.d (.sl (l.map fun l=>D.sl (l.map bD)))))),(2,.w (.c (.rp [.sl (key.map bD),.sl ((sub1 (rkK key)).map bD),.sl ((sub2 (rkK key)).map bD)]))),(5,.w (.c (.d (.sl ((vecD (rkK key) l i).map bD))))),(6,.w (.c (.d (.int .i64 ((l.length:Int)-1))))),(23,.w (.c (.d (.sl ((l.take (l.length-1)).map fun l=>D.sl (l.map bD)))))),(24,.w (.c (.d (.int .i64 ((l.length:Int)-1))))),(25,.w (.c (.d (.int .i64 (i:Int)))))],hL [(1,.row 1 ((repL 16 (0:UInt8)).map bD))],uL [1]⟩
theorem vecM_none (rk:List UInt8) {l:List (List UInt8)} (h:l.length=0):vecM rk l=macM rk (putL 1 16):=by
  unfold vecM; rw[if_pos h]; congr 1
theorem vecM_some (rk:List UInt8) {l:List (List UInt8)} (h:l.length≠0):vecM rk l=macM rk (if 16≤(l.getD (l.length-1) []).length then (l.getD (l.length-1) []).take ((l.getD (l.length-1) []).length-16)++xorP ((l.getD (l.length-1) []).drop ((l.getD (l.length-1) []).length-16)) (vecD rk l (l.length-1)) else xorP (dblL (vecD rk l (l.length-1))) (padL (l.getD (l.length-1) []++[128]))):=by
  unfold vecM; rw[if_neg h]; dsimp only; split <;> rfl
theorem getL_lt {l:List (List UInt8)} {j:Nat} (h:j<l.length):l[j]?=some (l.getD j []):=by
  rw[List.getD_eq_getElem?_getD,List.getElem?_eq_getElem h]; rfl
theorem getL_mem {l:List (List UInt8)} {j:Nat} (h:j<l.length):l.getD j []∈l:=by
  rw[List.getD_eq_getElem?_getD,List.getElem?_eq_getElem h]; exact List.getElem_mem h
def lp_vect_0:SCode :=
 .seq (.reg [oO 26 (.bin .lss (.t 25) (.t 24))])
 (.seq (.cond (.t 26) (.skip)
 (.exit 0))
 (.seq (.block 1 (.seq (.reg [oO 27 (.idxSl 1 (.t 23) (.t 25)),
 oO 28 (.load .sc (.t 27)),
 oM 8 28])
 (.reg [oM 29 5,
 oO 30 (.call 102 [(.t 29)] none),
 oO 31 (.load (.ag 3) (.t 2)),
 oM 32 8,
 oO 33 (.call 103 [(.t 31),(.t 32)] none),
 oO 34 (.call 104 [(.t 30),(.t 33)] none),
 oM 5 34])))
 (.reg [oO 35 (.bin .add (.t 25) (kI 1)),
 oM 25 35])))
def sf_vect:SFn:=⟨2,44,
 .seq (.reg [oO 2 (.box .roBox (.t 0)),
 oO 4 (.mv (.k (.c .nil)))])
 (.seq (.seq (.reg [oM 9 1,
 oO 10 (.len (.t 9)),
 oO 11 (.bin .eql (.t 10) (kI 0))])
 (.cond (.t 11) (.seq (.reg [oO 12 (.load (.ag 3) (.t 2)),
 oO 13 (.call 32 [(.k (.c (.d (.int .u64 1)))),(kI 16)] none),
 oO 14 (.call 103 [(.t 12),(.t 13)] (some (0,1))),
 oM 4 14])
 (.ret))
 (.skip)))
 (.seq (.reg [oO 15 (.load (.ag 3) (.t 2)),
 oO 16 (.make true 1 1 (.int .u8 0) (kI 16) (kI 16)),
 oO 17 (.call 103 [(.t 15),(.t 16)] none),
 oM 5 17])
 (.seq (.reg [oM 18 1,
 oO 19 (.len (.t 18)),
 oO 20 (.bin .sub (.t 19) (kI 1)),
 oM 6 20])
 (.seq (.seq (.reg [oM 21 1,
 oM 22 6,
 oO 23 (.slice 1 (.t 21) none (some (.t 22)) none),
 oO 24 (.len (.t 23)),
 oO 25 (.mv (kI 0))])
 (.block 0 (.loop lp_vect_0)))
 (.seq (.reg [oO 36 (.load (.ag 3) (.t 2)),
 oM 37 1,
 oM 38 6,
 oO 39 (.idxSl 1 (.t 37) (.t 38)),
 oO 40 (.load .sc (.t 39)),
 oM 41 5,
 oO 42 (.call 105 [(.t 40),(.t 41)] none),
 oO 43 (.call 103 [(.t 36),(.t 42)] (some (0,1))),
 oM 4 43])
 (.ret)))))),
 [(4,none)]⟩
theorem cf_vect:compFn Tryz.prog { own:=[14,43],comp:=[],frz:=[],nils:=[] } Tryz.f86=some sf_vect:=by kernel_rfl
theorem vect_f (G:Glob) (key:List UInt8) (l:List (List UInt8)) (h:key.length=16) (hl:l.length≤17) (hb:∀ x∈l,x.length≤65535):Den Tryz.prog G 86 [cdD key,.sl (l.map fun l=>D.sl (l.map bD))] (.w (.c (.fr 1 ((vecM (rkK key) l).map bD)))):=by
  refine den_walk Tryz.func86 cf_vect rfl rfl ?_
  have t0:(repL 16 (0:UInt8)).take 16=zero16:=rfl
  by_cases h0:l.length=0
  ·rw[vecM_none _ h0]
   simp only[sf_vect,putAll,cdD,wal,stV,seval,iteOmega,toNatUp,reduceCtorEq,h0]
   refine sD (put_in G 1 16 (by decide)) ?_
   refine sD (code_f G key (putL 1 16) h (by rw[putL_length]; decide)) ?_
   exact qf1
  ·rw[vecM_some _ h0]
   have e1:(((l.length:Int)-1).toNat)=l.length-1:=by omega
   have e2:(l.take (l.length-1)).length=l.length-1:=by rw[List.length_take]; omega
   have e3:((l.length-1:Nat):Int)=(l.length:Int)-1:=by omega
   simp only[sf_vect,putAll,cdD,wal,stV,seval,iteOmega,toNatUp,reduceCtorEq,z16]
   refine st_call (code_f G key zero16 h (by decide)) (by simp only[wal,stV,seval,iteOmega,toNatUp,reduceCtorEq,take_map,t0,repL_len,cdD]) (.inr (fl_b _ _)) ?_
   simp only[wal,stV,seval,iteOmega,toNatUp,reduceCtorEq,e1,e2,e3,allSz_ls]
   refine loop_st (vecSt key l) (fun i=>l.length-1-i) (fun i=>i≤l.length-1) 0 (Nat.zero_le _) ?_ ?_
   ·refine ent_l (fun i=>128) ?_ ?_ rfl rfl <;> simp only[wx,wex,wez,stV,seval,iteOmega,toNatUp,reduceCtorEq,vecD,e2,e3]
   ·intro i hi
    have hd:=vecD_len (rkK key) l i
    by_cases hlt:i<l.length-1
    ·have g1:(l.take (l.length-1))[i]?=some (l.getD i []):=by rw[List.getElem?_take,if_pos hlt,getL_lt (by omega)]
     have hx:=hb _ (getL_mem (l:=l) (j:=i) (by omega))
     have hs:xorP (dblL (vecD (rkK key) l i)) (macM (rkK key) (l.getD i []))=vecD (rkK key) l (i+1):=rfl
     have h1:=dbb_c G (vecD (rkK key) l i) (by omega)
     have h2:=code_c G key (l.getD i []) h (by omega)
     have h3:=cmb_c G (dblL (vecD (rkK key) l i)) (macM (rkK key) (l.getD i [])) (dblL_len hd) (macM_len _ _)
     rw[hs] at h3
     simp only[lp_vect_0,vecSt,wal,stV,seval,iteOmega,toNatUp,reduceCtorEq,get_map,g1,e2,e3]
     refine sD (h1) ?_
     refine sD (h2) ?_
     refine sD (h3) ?_
     refine lop_next (i+1) (by omega) (by omega) (ent_l (fun i=>i) ?_ ?_ rfl rfl) <;> simp only[wx,wex,wez,stV,seval,iteOmega,toNatUp,reduceCtorEq]
    ·obtain rfl:i=l.length-1:=by omega
     have g1:l[l.length-1]?=some (l.getD (l.length-1) []):=getL_lt (by omega)
     have hx:=hb _ (getL_mem (l:=l) (j:=l.length-1) (by omega))
     have h1:=clsd_c G (l.getD (l.length-1) []) (vecD (rkK key) l (l.length-1)) (by omega) hd
     have hcl:∀ s d:List UInt8,s.length≤65535→d.length=16→(if 16≤s.length then s.take (s.length-16)++xorP (s.drop (s.length-16)) d else xorP (dblL d) (padL (s++[128]))).length≤70000:=by
       intro s d h1 h2
       split
       ·rw[List.length_append,xorP_len,← List.length_append,List.take_append_drop]; omega
       ·rw[xorP_len,dblL_len h2]; decide
     have h2:=code_f G key _ h (hcl _ _ hx hd)
     simp only[lp_vect_0,vecSt,wal,stV,seval,iteOmega,toNatUp,reduceCtorEq,get_map,g1,e1,e3]
     refine sD (h1) ?_
     refine sD (h2) ?_
     exact qf1
def longL (l:List (List UInt8)):Bool:=l.any fun x=>decide (65535<x.length)
def vctE (key:List UInt8) (l:List (List UInt8)):Int:=if key.length≠16 then 5 else if 17<l.length then 8 else if longL l=true then 2 else 0
def vctV (key:List UInt8) (l:List (List UInt8)):List UInt8:=if key.length=16∧l.length≤17∧longL l=false then vecM (rkK key) l else []
theorem longL_no {l:List (List UInt8)} (h:∀ j,j<l.length→(l.getD j []).length≤65535):longL l=false:=by
  unfold longL
  rw[List.any_eq_false]
  intro x hx
  obtain⟨j,hj,rfl⟩:=List.getElem_of_mem hx
  have:=h j hj
  rw[List.getD_eq_getElem?_getD,List.getElem?_eq_getElem hj] at this
  simpa using this
theorem longL_yes {l:List (List UInt8)} {j:Nat} (hj:j<l.length) (h:65535<(l.getD j []).length):longL l=true:=by
  unfold longL
  rw[List.any_eq_true]
  exact⟨_,getL_mem hj,decide_eq_true h⟩
theorem longL_all {l:List (List UInt8)} (h:longL l=false):∀ x∈l,x.length≤65535:=by
  unfold longL at h
  rw[List.any_eq_false] at h
  intro x hx
  have:=h x hx
  simpa using this
def vctSt (key:List UInt8) (l:List (List UInt8)) (i:Nat):St:=⟨ofL [(1,.w (.c (.d (.sl (l.map fun l=>D.sl (l.map bD)))))),(6,.w (.c (.ptr 1 1 0 0))),(21,.w (.c (.d (.sl (l.map fun l=>D.sl (l.map bD)))))),(22,.w (.c (.d (.int .i64 (l.length:Int))))),(23,.w (.c (.d (.int .i64 (i:Int)))))],hL [(1,.box [.d (.sl (key.map bD)),.d (.sl ((sub1 (rkK key)).map bD)),.d (.sl ((sub2 (rkK key)).map bD))])],uL [1]⟩
def lp_vctr_0:SCode :=
 .seq (.reg [oO 24 (.bin .lss (.t 23) (.t 22))])
 (.seq (.cond (.t 24) (.skip)
 (.exit 0))
 (.seq (.block 1 (.seq (.reg [oO 25 (.idxSl 1 (.t 21) (.t 23)),
 oO 26 (.load .sc (.t 25)),
 oM 9 26])
 (.seq (.reg [oM 27 9,
 oO 28 (.len (.t 27)),
 oO 29 (.bin .gtr (.t 28) (kI 65535))])
 (.cond (.t 29) (.seq (.reg [oO 4 (.mv (.k (.c .nil))),
 oO 5 (.mv (kI 2))])
 (.ret))
 (.skip)))))
 (.reg [oO 30 (.bin .add (.t 23) (kI 1)),
 oM 23 30])))
def sf_vctr:SFn:=⟨2,34,
 .seq (.reg [oO 4 (.mv (.k (.c .nil))),
 oO 5 (.mv (kI 0))])
 (.seq (.reg [oM 11 0,
 oO 12 (.call 85 [(.t 11)] none),
 oM 10 12,
 oO 13 (.extract (.t 10) 0),
 oO 14 (.extract (.t 10) 1),
 oO 6 (.alloc [.nil,.nil,.nil]),
 oN (.store (.ag 3) (.t 6) (.t 13)),
 oM 7 14])
 (.seq (.seq (.reg [oM 15 7,
 oO 16 (.bin .neq (.t 15) (kI 0))])
 (.cond (.t 16) (.seq (.reg [oM 17 7,
 oO 4 (.mv (.k (.c .nil))),
 oM 5 17])
 (.ret))
 (.skip)))
 (.seq (.seq (.reg [oM 18 1,
 oO 19 (.len (.t 18)),
 oO 20 (.bin .gtr (.t 19) (kI 17))])
 (.cond (.t 20) (.seq (.reg [oO 4 (.mv (.k (.c .nil))),
 oO 5 (.mv (kI 8))])
 (.ret))
 (.skip)))
 (.seq (.seq (.reg [oM 21 1,
 oO 22 (.len (.t 21)),
 oO 23 (.mv (kI 0))])
 (.block 0 (.loop lp_vctr_0)))
 (.seq (.reg [oO 31 (.load (.ag 3) (.t 6)),
 oM 32 1,
 oO 33 (.call 86 [(.t 31),(.t 32)] (some (0,1))),
 oM 4 33,
 oO 5 (.mv (kI 0))])
 (.ret)))))),
 [(4,none),(5,none)]⟩
theorem cf_vctr:compFn Tryz.prog { own:=[33],comp:=[],frz:=[],nils:=[] } Tryz.f70=some sf_vctr:=by kernel_rfl
theorem vctr_f (G:Glob) (key:List UInt8) (l:List (List UInt8)) (hk:key.length≤9223372036854775807) (hl:l.length≤9223372036854775807) (hb:∀ x∈l,x.length≤9223372036854775807):Den Tryz.prog G 70 [.sl (key.map bD),.sl (l.map fun l=>D.sl (l.map bD))] (.tup [.c (.fr 1 ((vctV key l).map bD)),.c (.d (.int .i64 (vctE key l)))]):=by
  refine den_walk Tryz.func70 cf_vctr rfl rfl ?_
  have hx:=cdof_c G key hk
  unfold vctV vctE
  by_cases h:key.length=16
  ·have hv:cdV key=cdD key:=if_pos h
   have he:keyE key=0:=by unfold keyE; rw[if_neg (by omega)]
   rw[hv,he] at hx
   by_cases h2:l.length≤17
   ·rw[if_neg (by omega:¬ key.length≠16),if_neg (by omega:¬ 17<l.length)]
    simp only[sf_vctr,putAll,wal,stV,seval,iteOmega,toNatUp,reduceCtorEq]
    refine sC (hx) ?_
    simp only[cdD,wal,stV,seval,iteOmega,toNatUp,reduceCtorEq]
    refine loop_st (vctSt key l) (fun i=>l.length-i) (fun i=>i≤l.length∧∀ j,j<i→(l.getD j []).length≤65535) 0 ⟨Nat.zero_le _,fun j hj=>by omega⟩ ?_ ?_
    ·refine ent_l (fun i=>48) ?_ ?_ rfl rfl <;> simp only[wx,wex,wez,stV,seval,iteOmega,toNatUp,reduceCtorEq]
    ·rintro i ⟨hi,hok⟩
     by_cases hlt:i<l.length
     ·have g1:=getL_lt hlt
      have hx:=hb _ (getL_mem hlt)
      by_cases hlong:65535<(l.getD i []).length
      ·have hL:=longL_yes hlt hlong
       rw[hL,if_neg (by simp),if_pos rfl]
       simp only[lp_vctr_0,vctSt,wal,stV,seval,iteOmega,toNatUp,reduceCtorEq,get_map,g1]
       exact qf2
      ·simp only[lp_vctr_0,vctSt,wal,stV,seval,iteOmega,toNatUp,reduceCtorEq,get_map,g1]
       refine lop_next (i+1) (by omega) ⟨by omega,fun j hj=>?_⟩ (ent_l (fun i=>i) ?_ ?_ rfl rfl)
       ·rcases Nat.lt_or_ge j i with h | h
        ·exact hok j h
        ·obtain rfl:j=i:=by omega
         omega
       all_goals simp only[wx,wex,wez,stV,seval,iteOmega,toNatUp,reduceCtorEq]
     ·have hL:=longL_no (l:=l) (fun j hj=>hok j (by omega))
      rw[hL,if_pos ⟨h,h2,rfl⟩,if_neg (by simp)]
      simp only[lp_vctr_0,vctSt,wal,stV,seval,iteOmega,toNatUp,reduceCtorEq]
      refine sD (vect_f G key l h h2 (longL_all hL)) ?_
      exact qf2
   ·rw[if_neg (by omega),if_neg (by omega),if_pos (by omega)]
    have h3:17<l.length:=by omega
    simp only[sf_vctr,putAll,wal,stV,seval,iteOmega,toNatUp,reduceCtorEq]
    refine sC (hx) ?_
    simp only[cdD,wal,stV,seval,iteOmega,toNatUp,reduceCtorEq]
    exact qf2
  ·have hv:cdV key=.agg [.sl [],.sl [],.sl []]:=if_neg h
   have he:keyE key=5:=if_pos h
   rw[hv,he] at hx
   rw[if_neg (by omega),if_pos h]
   simp only[sf_vctr,putAll,wal,stV,seval,iteOmega,toNatUp,reduceCtorEq]
   refine sD (hx) ?_
   exact qf2
end Go.Proofs.YtpbmdbahkpfkdaaGreatDoor
namespace Go.Proofs.YtpbmdbahkpfkdaaGreatDoor
open Go.RowKit IntWalk
set_option maxHeartbeats 6400000
theorem blockC_rk (key b:List UInt8):blockC key b=encK (rkK key) b:=rfl
def rcV (key b:List UInt8):Nat→V
  | 0=>.w (.c (.own 1 1 0 16))
  | i+1=>.w (.c (.d (.sl ((cbcM (rkK key) b (i+1)).map bD))))
def rcStM (key b:List UInt8) (last:Int) (i:Nat):St:=⟨ofL [(1,.w (.c (.d (.sl (b.map bD))))),(2,.w (.c (.rp ((macM4 key).map bD)))),(5,.w (.c (.d (.sl ((sub1 (rkK key)).map bD))))),(6,.w (.c (.d (.int .i64 last)))),(7,rcV key b i),(8,.w (.c (.d (.int .i64 ((16*i:Nat):Int)))))],hL [(1,.row 1 ((repL 16 (0:UInt8)).map bD))],uL [1]⟩
theorem slice16 (b:List UInt8) (i:Nat):(b.drop (16*i)).take (16*i+16-16*i)=(b.drop (16*i)).take 16:=by rw[show 16*i+16-16*i=16 by omega]
def lp_rmcc_0:SCode :=
 .seq (.seq (.reg [oM 24 8,
 oM 25 6,
 oO 26 (.bin .lss (.t 24) (.t 25))])
 (.cond (.t 26) (.skip)
 (.exit 0)))
 (.seq (.block 1 (.reg [oO 29 (.load (.ag 688) (.t 2)),
 oM 30 7,
 oM 31 1,
 oM 32 8,
 oM 33 8,
 oO 34 (.bin .add (.t 33) (kI 16)),
 oO 35 (.slice 1 (.t 31) (some (.t 32)) (some (.t 34)) none),
 oO 36 (.call 90 [(.t 30),(.t 35)] none),
 oO 37 (.call 72 [(.t 29),(.t 36)] none),
 oM 7 37]))
 (.reg [oM 27 8,
 oO 28 (.bin .add (.t 27) (kI 16)),
 oM 8 28]))
def sf_rmcc:SFn:=⟨2,61,
 .seq (.reg [oO 2 (.box .roBox (.t 0)),
 oO 4 (.mv (.k (.c .nil)))])
 (.seq (.reg [oO 10 (.load (.ag 688) (.t 2)),
 oO 11 (.make true 1 1 (.int .u8 0) (kI 16) (kI 16)),
 oO 12 (.call 72 [(.t 10),(.t 11)] none),
 oO 13 (.call 91 [(.t 12)] none),
 oM 5 13])
 (.seq (.reg [oM 14 1,
 oO 15 (.len (.t 14)),
 oO 16 (.bin .add (.t 15) (kI 15)),
 oO 17 (.bin .quo (.t 16) (kI 16)),
 oO 18 (.bin .mul (.t 17) (kI 16)),
 oO 19 (.bin .sub (.t 18) (kI 16)),
 oM 6 19])
 (.seq (.seq (.reg [oM 20 1,
 oO 21 (.len (.t 20)),
 oO 22 (.bin .eql (.t 21) (kI 0))])
 (.cond (.t 22) (.reg [oO 6 (.mv (kI 0))])
 (.skip)))
 (.seq (.reg [oO 23 (.make true 1 1 (.int .u8 0) (kI 16) (kI 16)),
 oM 7 23])
 (.seq (.seq (.reg [oO 8 (.mv (kI 0))])
 (.block 0 (.loop lp_rmcc_0)))
 (.seq (.reg [oM 38 1,
 oM 39 6,
 oO 40 (.slice 1 (.t 38) (some (.t 39)) none none),
 oO 41 (.bldSl false 1 1 (.sl []) [(0,(.t 40))]),
 oO 42 (.call 31 [(.t 41)] (some (0,1))),
 oM 9 42])
 (.seq (.seq (.reg [oM 43 9,
 oO 44 (.len (.t 43)),
 oO 45 (.bin .eql (.t 44) (kI 16))])
 (.cond (.t 45) (.reg [oM 46 9,
 oM 47 5,
 oO 48 (.call 90 [(.t 46),(.t 47)] none),
 oM 9 48])
 (.reg [oM 49 9,
 oO 50 (.bldSl false 1 1 (.int .u8 0) [(0,(.k (.c (.d (.int .u8 128)))))]),
 oO 51 (.app false 1 1 (.t 49) (.t 50)),
 oO 52 (.call 92 [(.t 51),(kI 16)] none),
 oM 53 5,
 oO 54 (.call 91 [(.t 53)] none),
 oO 55 (.call 90 [(.t 52),(.t 54)] none),
 oM 9 55])))
 (.seq (.reg [oO 56 (.load (.ag 688) (.t 2)),
 oM 57 7,
 oM 58 9,
 oO 59 (.call 90 [(.t 57),(.t 58)] none),
 oO 60 (.call 72 [(.t 56),(.t 59)] (some (0,1))),
 oM 4 60])
 (.ret))))))))),
 [(4,none)]⟩
theorem cf_rmcc:compFn Tryz.prog { own:=[42,60],comp:=[],frz:=[],nils:=[] } Tryz.f89=some sf_rmcc:=by kernel_rfl
set_option maxRecDepth 20000 in
theorem rmcc_f (G:Glob) (key b:List UInt8) (h:key.length=16) (hb:b.length≤70000):Den Tryz.prog G 89 [.agg ((macM4 key).map bD),.sl (b.map bD)] (.w (.c (.fr 1 ((macM (rkK key) b).map bD)))):=by
  refine den_walk Tryz.func89 cf_rmcc rfl rfl ?_
  have t0:(repL 16 (0:UInt8)).take 16=zero16:=rfl
  have hM:=macM4_len h
  have t1:(macM4 key).take 688=macM4 key:=List.take_of_length_le (by omega)
  have hah:aheadM b=(b.length+15) / 16-1:=rfl
  have hm:∀ i,i=aheadM b→macM (rkK key) b=encK (rkK key) (xorP (cbcM (rkK key) b i) (endM (rkK key) (b.drop (16*i)))):=fun i e=>by rw[e]; rfl
  have hr0:=renc_c G key zero16 h (by decide)
  have h1:=rdbb_c G (encK (rkK key) zero16) (by rw[encK_len]; decide)
  have s1:dblL (encK (rkK key) zero16)=sub1 (rkK key):=rfl
  rw[s1] at h1
  rw[blockC_rk] at hr0
  have td:Int.tdiv ((b.length:Int)+15) 16=(((b.length+15) / 16:Nat):Int):=rfl
  have step:∀ i,i<aheadM b→((b.drop (16*i)).take 16).length=16:=fun i hi=>by rw[List.length_take,List.length_drop]; omega
  simp only[sf_rmcc,putAll,wal,stV,seval,iteOmega,toNatUp,reduceCtorEq,z16,allDn_bs,len_map,hM,take_map,t1]
  refine st_call hr0 (by simp only[wal,stV,seval,iteOmega,toNatUp,reduceCtorEq,take_map,t0,repL_len]) (.inr (fl_b _ _)) ?_
  simp only[wal,stV,seval,iteOmega,toNatUp,reduceCtorEq]
  refine sC (h1) ?_
  simp only[td,z16,wal,stV,seval,iteOmega,toNatUp,reduceCtorEq]
  by_cases hb0:b.length=0
  ·have hz0:aheadM b=0:=by omega
   simp only[wal,stV,seval,iteOmega,toNatUp,reduceCtorEq,z16]
   refine loop_st (rcStM key b (0)) (fun i=>aheadM b-i) (fun i=>i≤aheadM b) 0 (Nat.zero_le _) ?_ ?_
   ·refine ent_l (fun i=>184) ?_ ?_ rfl rfl <;> simp only[wx,wex,wez,stV,seval,iteOmega,toNatUp,reduceCtorEq,rcV]
   ·intro i hi
    have hcl:(b.drop (16*i)).length=b.length-16*i:=List.length_drop
    have hsl:=slice16 b i
    by_cases hlt:i<aheadM b
    ·exact absurd hlt (by omega)
    ·rw[hm i (by omega)]
     have hie:16*(aheadM b:Int)=16*(i:Int):=by omega
     have hl16:(b.drop (16*i)).length≤16:=by omega
     have ht:(b.drop (16*i)).take (b.length-16*i)=b.drop (16*i):=List.take_of_length_le (by omega)
     have toN:(0:Int).toNat=16*i:=by omega
     have e1:=rjoin_c G [b.drop (16*i)] (by simp) (by simp; omega)
     have hf:[b.drop (16*i)].flatten=b.drop (16*i):=by simp
     rw[hf] at e1
     have k1:=rxor_c G (cbcM (rkK key) b i) (endM (rkK key) (b.drop (16*i))) (by rw[cbcM_len]; decide) (by rw[endM_len hl16]; decide)
     have k2:=renc_c G key (xorP (cbcM (rkK key) b i) (endM (rkK key) (b.drop (16*i)))) h (by rw[xorP_len,cbcM_len])
     rw[blockC_rk] at k2
     have ht2:(b.drop (16*i)).take b.length=b.drop (16*i):=List.take_of_length_le (by omega)
     generalize hc:b.drop (16*i)=c at *
     have tc:c.take c.length=c:=List.take_length
     by_cases h16:c.length=16
     ·have tc16:c.take 16=c:=by rw[← h16]; exact tc
      have q1:=rxor_c G c (sub1 (rkK key)) (by omega) (by rw[sub1_len]; decide)
      rw[endM_full _ h16] at k1 k2 ⊢
      rcases i with _ | i
      ·have hz:cbcM (rkK key) b 0=zero16:=rfl
       rw[hz] at k1 k2 ⊢
       simp only[lp_rmcc_0,rcStM,rcV,wal,stV,seval,iteOmega,toNatUp,reduceCtorEq,toN,hc,ht,ht2]
       refine sC (e1) ?_
       simp only[h16,wal,stV,seval,iteOmega,toNatUp,reduceCtorEq]
       refine st_call q1 (by simp only[wal,stV,seval,iteOmega,toNatUp,reduceCtorEq,take_map,tc16,h16]) (.inr (fl_b _ _)) ?_
       simp only[wal,stV,seval,iteOmega,toNatUp,reduceCtorEq,len_map,hM,take_map,t1]
       refine st_call k1 (by simp only[wal,stV,seval,iteOmega,toNatUp,reduceCtorEq,take_map,t0,repL_len]) (.inr (fl_b _ _)) ?_
       simp only[wal,stV,seval,iteOmega,toNatUp,reduceCtorEq]
       refine sD (k2) ?_
       exact qf1
      ·exact absurd hi (by omega)
     ·have p1:=rpad_c G (c++[128]) 16 (by simp; omega)
      rw[padN_16] at p1
      have p2:=rdbb_c G (sub1 (rkK key)) (by rw[sub1_len]; decide)
      have s2:dblL (sub1 (rkK key))=sub2 (rkK key):=rfl
      rw[s2] at p2
      have p3:=rxor_c G (padL (c++[128])) (sub2 (rkK key)) (by rw[padL_short (by omega)]; decide) (by rw[sub2_len]; decide)
      have b128:c.map bD++[D.int .u8 128]=(c++[128]).map bD:=by rw[List.map_append]; rfl
      have tc2:(c++[128]).take (c.length+1)=c++[128]:=List.take_of_length_le (by simp)
      rw[endM_part _ h16] at k1 k2 ⊢
      have lc:(c++[(128:UInt8)]).length=c.length+1:=by simp
      rcases i with _ | i
      ·have hz:cbcM (rkK key) b 0=zero16:=rfl
       rw[hz] at k1 k2 ⊢
       simp only[lp_rmcc_0,rcStM,rcV,wal,stV,seval,iteOmega,toNatUp,reduceCtorEq,toN,hc,ht,ht2]
       refine sC (e1) ?_
       simp only[srcV,b128,wal,stV,seval,iteOmega,toNatUp,reduceCtorEq]
       refine st_call p1 (by simp only[wal,stV,seval,iteOmega,toNatUp,reduceCtorEq,take_map,tc2,lc]) (.inr (fl_b _ _)) ?_
       simp only[wal,stV,seval,iteOmega,toNatUp,reduceCtorEq]
       refine sD (p2) ?_
       refine sC (p3) ?_
       simp only[len_map,hM,take_map,t1,wal,stV,seval,iteOmega,toNatUp,reduceCtorEq]
       refine st_call k1 (by simp only[wal,stV,seval,iteOmega,toNatUp,reduceCtorEq,take_map,t0,repL_len]) (.inr (fl_b _ _)) ?_
       simp only[wal,stV,seval,iteOmega,toNatUp,reduceCtorEq]
       refine sD (k2) ?_
       exact qf1
      ·exact absurd hi (by omega)
  ·have hp:0<b.length:=by omega
   simp only[wal,stV,seval,iteOmega,toNatUp,reduceCtorEq,z16]
   refine loop_st (rcStM key b (((((b.length+15) / 16:Nat):Int)*16-16))) (fun i=>aheadM b-i) (fun i=>i≤aheadM b) 0 (Nat.zero_le _) ?_ ?_
   ·refine ent_l (fun i=>184) ?_ ?_ rfl rfl <;> simp only[wx,wex,wez,stV,seval,iteOmega,toNatUp,reduceCtorEq,rcV]
   ·intro i hi
    have hcl:(b.drop (16*i)).length=b.length-16*i:=List.length_drop
    have hsl:=slice16 b i
    by_cases hlt:i<aheadM b
    ·have hT:=step i hlt
     have hstep:encK (rkK key) (xorP (cbcM (rkK key) b i) ((b.drop (16*i)).take 16))=cbcM (rkK key) b (i+1):=rfl
     have k1:=rxor_c G (cbcM (rkK key) b i) ((b.drop (16*i)).take 16) (by rw[cbcM_len]; decide) (by omega)
     have k2:=renc_c G key (xorP (cbcM (rkK key) b i) ((b.drop (16*i)).take 16)) h (by rw[xorP_len,cbcM_len])
     rw[blockC_rk,hstep] at k2
     rcases i with _ | i
     ·have hz:cbcM (rkK key) b 0=zero16:=rfl
      rw[hz] at k1 k2
      simp only[Nat.mul_zero,List.drop_zero,Nat.zero_add,Nat.sub_zero] at hsl
      simp only[lp_rmcc_0,rcStM,rcV,wal,stV,seval,iteOmega,toNatUp,reduceCtorEq,len_map,hM,take_map,t1,hsl]
      refine st_call k1 (by simp only[wal,stV,seval,iteOmega,toNatUp,reduceCtorEq,take_map,t0,repL_len]) (.inr (fl_b _ _)) ?_
      simp only[wal,stV,seval,iteOmega,toNatUp,reduceCtorEq]
      refine sD (k2) ?_
      refine lop_next (0+1) (by omega) (by omega) (ent_l (fun i=>i) ?_ ?_ rfl rfl) <;> simp only[wx,wex,wez,stV,seval,iteOmega,toNatUp,reduceCtorEq,rcV]
     ·simp only[lp_rmcc_0,rcStM,rcV,wal,stV,seval,iteOmega,toNatUp,reduceCtorEq,len_map,hM,take_map,t1,hsl]
      refine sD (k1) ?_
      refine sD (k2) ?_
      refine lop_next (i+1+1) (by omega) (by omega) (ent_l (fun i=>i) ?_ ?_ rfl rfl) <;> simp only[wx,wex,wez,stV,seval,iteOmega,toNatUp,reduceCtorEq,rcV]
      rw[show (16*((i:Int)+1)+16)=16*((i:Int)+1+1) by omega]
    ·rw[hm i (by omega)]
     have hie:16*(aheadM b:Int)=16*(i:Int):=by omega
     have hl16:(b.drop (16*i)).length≤16:=by omega
     have ht:(b.drop (16*i)).take (b.length-16*i)=b.drop (16*i):=List.take_of_length_le (by omega)
     have toN:(((((b.length+15) / 16:Nat):Int)*16-16):Int).toNat=16*i:=by omega
     have e1:=rjoin_c G [b.drop (16*i)] (by simp) (by simp; omega)
     have hf:[b.drop (16*i)].flatten=b.drop (16*i):=by simp
     rw[hf] at e1
     have k1:=rxor_c G (cbcM (rkK key) b i) (endM (rkK key) (b.drop (16*i))) (by rw[cbcM_len]; decide) (by rw[endM_len hl16]; decide)
     have k2:=renc_c G key (xorP (cbcM (rkK key) b i) (endM (rkK key) (b.drop (16*i)))) h (by rw[xorP_len,cbcM_len])
     rw[blockC_rk] at k2
     have ht2:(b.drop (16*i)).take b.length=b.drop (16*i):=List.take_of_length_le (by omega)
     generalize hc:b.drop (16*i)=c at *
     have tc:c.take c.length=c:=List.take_length
     by_cases h16:c.length=16
     ·have tc16:c.take 16=c:=by rw[← h16]; exact tc
      have q1:=rxor_c G c (sub1 (rkK key)) (by omega) (by rw[sub1_len]; decide)
      rw[endM_full _ h16] at k1 k2 ⊢
      rcases i with _ | i
      ·have hz:cbcM (rkK key) b 0=zero16:=rfl
       rw[hz] at k1 k2 ⊢
       simp only[lp_rmcc_0,rcStM,rcV,wal,stV,seval,iteOmega,toNatUp,reduceCtorEq,toN,hc,ht,ht2]
       refine sC (e1) ?_
       simp only[h16,wal,stV,seval,iteOmega,toNatUp,reduceCtorEq]
       refine st_call q1 (by simp only[wal,stV,seval,iteOmega,toNatUp,reduceCtorEq,take_map,tc16,h16]) (.inr (fl_b _ _)) ?_
       simp only[wal,stV,seval,iteOmega,toNatUp,reduceCtorEq,len_map,hM,take_map,t1]
       refine st_call k1 (by simp only[wal,stV,seval,iteOmega,toNatUp,reduceCtorEq,take_map,t0,repL_len]) (.inr (fl_b _ _)) ?_
       simp only[wal,stV,seval,iteOmega,toNatUp,reduceCtorEq]
       refine sD (k2) ?_
       exact qf1
      ·simp only[lp_rmcc_0,rcStM,rcV,wal,stV,seval,iteOmega,toNatUp,reduceCtorEq,toN,hc,ht,ht2]
       refine sC (e1) ?_
       simp only[h16,wal,stV,seval,iteOmega,toNatUp,reduceCtorEq]
       refine st_call q1 (by simp only[wal,stV,seval,iteOmega,toNatUp,reduceCtorEq,take_map,tc16,h16]) (.inr (fl_b _ _)) ?_
       simp only[wal,stV,seval,iteOmega,toNatUp,reduceCtorEq,len_map,hM,take_map,t1]
       refine sD (k1) ?_
       refine sD (k2) ?_
       exact qf1
     ·have p1:=rpad_c G (c++[128]) 16 (by simp; omega)
      rw[padN_16] at p1
      have p2:=rdbb_c G (sub1 (rkK key)) (by rw[sub1_len]; decide)
      have s2:dblL (sub1 (rkK key))=sub2 (rkK key):=rfl
      rw[s2] at p2
      have p3:=rxor_c G (padL (c++[128])) (sub2 (rkK key)) (by rw[padL_short (by omega)]; decide) (by rw[sub2_len]; decide)
      have b128:c.map bD++[D.int .u8 128]=(c++[128]).map bD:=by rw[List.map_append]; rfl
      have tc2:(c++[128]).take (c.length+1)=c++[128]:=List.take_of_length_le (by simp)
      rw[endM_part _ h16] at k1 k2 ⊢
      have lc:(c++[(128:UInt8)]).length=c.length+1:=by simp
      rcases i with _ | i
      ·have hz:cbcM (rkK key) b 0=zero16:=rfl
       rw[hz] at k1 k2 ⊢
       simp only[lp_rmcc_0,rcStM,rcV,wal,stV,seval,iteOmega,toNatUp,reduceCtorEq,toN,hc,ht,ht2]
       refine sC (e1) ?_
       simp only[srcV,b128,wal,stV,seval,iteOmega,toNatUp,reduceCtorEq]
       refine st_call p1 (by simp only[wal,stV,seval,iteOmega,toNatUp,reduceCtorEq,take_map,tc2,lc]) (.inr (fl_b _ _)) ?_
       simp only[wal,stV,seval,iteOmega,toNatUp,reduceCtorEq]
       refine sD (p2) ?_
       refine sC (p3) ?_
       simp only[len_map,hM,take_map,t1,wal,stV,seval,iteOmega,toNatUp,reduceCtorEq]
       refine st_call k1 (by simp only[wal,stV,seval,iteOmega,toNatUp,reduceCtorEq,take_map,t0,repL_len]) (.inr (fl_b _ _)) ?_
       simp only[wal,stV,seval,iteOmega,toNatUp,reduceCtorEq]
       refine sD (k2) ?_
       exact qf1
      ·simp only[lp_rmcc_0,rcStM,rcV,wal,stV,seval,iteOmega,toNatUp,reduceCtorEq,toN,hc,ht,ht2]
       refine sC (e1) ?_
       simp only[srcV,b128,wal,stV,seval,iteOmega,toNatUp,reduceCtorEq]
       refine st_call p1 (by simp only[wal,stV,seval,iteOmega,toNatUp,reduceCtorEq,take_map,tc2,lc]) (.inr (fl_b _ _)) ?_
       simp only[wal,stV,seval,iteOmega,toNatUp,reduceCtorEq]
       refine sD (p2) ?_
       refine sC (p3) ?_
       simp only[len_map,hM,take_map,t1,wal,stV,seval,iteOmega,toNatUp,reduceCtorEq]
       refine sD (k1) ?_
       refine sD (k2) ?_
       exact qf1
theorem rmcc_c (G:Glob) (key b:List UInt8) (h:key.length=16) (hb:b.length≤70000):Den Tryz.prog G 89 [.agg ((macM4 key).map bD),.sl (b.map bD)] (.w (.c (.d (.sl ((macM (rkK key) b).map bD))))):=den_ro (rmcc_f G key b h hb)
def rv0St (key:List UInt8) (l:List (List UInt8)) (i:Nat):St:=⟨ofL [(0,.w (.c (.d (.sl (key.map bD))))),(1,.w (.c (.d (.sl (l.map fun l=>D.sl (l.map bD)))))),(6,.w (.c (.d (.int .i64 (i:Int)))))],hL [],uL []⟩
def rv1St (key:List UInt8) (l:List (List UInt8)) (i:Nat):St:=⟨ofL [(1,.w (.c (.d (.sl (l.map fun l=>D.sl (l.map bD)))))),(7,.w (.c (.ptr 2 1 0 0))),(9,.w (.c (.d (.sl ((vecD (rkK key) l i).map bD))))),(10,.w (.c (.d (.int .i64 (i:Int)))))],hL [(1,.row 1 ((repL 16 (0:UInt8)).map bD)),(2,.box ((macM4 key).map bC))],uL [1,2]⟩
theorem one16:(repL 16 (0:UInt8)).set 15 1=putL 1 16:=by decide
theorem vecM_long (rk:List UInt8) {l:List (List UInt8)} {s d:List UInt8} (h:l.length≠0) (hs:l.getD (l.length-1) []=s) (hd:vecD rk l (l.length-1)=d) (h16:16≤s.length):vecM rk l=macM rk (s.take (s.length-16)++xorP (s.drop (s.length-16)) d):=by
  rw[vecM_some rk h,hs,hd,if_pos h16]
theorem vecM_short (rk:List UInt8) {l:List (List UInt8)} {s d:List UInt8} (h:l.length≠0) (hs:l.getD (l.length-1) []=s) (hd:vecD rk l (l.length-1)=d) (h16:s.length<16):vecM rk l=macM rk (xorP (dblL d) (padL (s++[128]))):=by
  rw[vecM_some rk h,hs,hd,if_neg (by omega)]
def lp_rvctr_0:SCode :=
 .seq (.seq (.reg [oM 19 6,
 oM 20 1,
 oO 21 (.len (.t 20)),
 oO 22 (.bin .lss (.t 19) (.t 21))])
 (.cond (.t 22) (.skip)
 (.exit 0)))
 (.seq (.block 1 (.seq (.reg [oM 25 1,
 oM 26 6,
 oO 27 (.idxSl 1 (.t 25) (.t 26)),
 oO 28 (.load .sc (.t 27)),
 oO 29 (.len (.t 28)),
 oO 30 (.bin .gtr (.t 29) (kI 65535))])
 (.cond (.t 30) (.seq (.reg [oO 4 (.mv (.k (.c .nil))),
 oO 5 (.mv (kI 2))])
 (.ret))
 (.skip))))
 (.reg [oM 23 6,
 oO 24 (.bin .add (.t 23) (kI 1)),
 oM 6 24]))
def lp_rvctr_1:SCode :=
 .seq (.seq (.reg [oM 45 10,
 oM 46 1,
 oO 47 (.len (.t 46)),
 oO 48 (.bin .sub (.t 47) (kI 1)),
 oO 49 (.bin .lss (.t 45) (.t 48))])
 (.cond (.t 49) (.skip)
 (.exit 2)))
 (.seq (.block 3 (.reg [oM 52 9,
 oO 53 (.call 91 [(.t 52)] none),
 oO 54 (.loadB (.ag 688) (.t 7)),
 oM 55 1,
 oM 56 10,
 oO 57 (.idxSl 1 (.t 55) (.t 56)),
 oO 58 (.load .sc (.t 57)),
 oO 59 (.call 89 [(.t 54),(.t 58)] none),
 oO 60 (.call 90 [(.t 53),(.t 59)] none),
 oM 9 60]))
 (.reg [oM 50 10,
 oO 51 (.bin .add (.t 50) (kI 1)),
 oM 10 51]))
def sf_rvctr:SFn:=⟨2,96,
 .seq (.reg [oO 4 (.mv (.k (.c .nil))),
 oO 5 (.mv (kI 0))])
 (.seq (.seq (.reg [oM 13 0,
 oO 14 (.len (.t 13)),
 oO 15 (.bin .neq (.t 14) (kI 16))])
 (.cond (.t 15) (.seq (.reg [oO 4 (.mv (.k (.c .nil))),
 oO 5 (.mv (kI 5))])
 (.ret))
 (.skip)))
 (.seq (.seq (.reg [oM 16 1,
 oO 17 (.len (.t 16)),
 oO 18 (.bin .gtr (.t 17) (kI 17))])
 (.cond (.t 18) (.seq (.reg [oO 4 (.mv (.k (.c .nil))),
 oO 5 (.mv (kI 8))])
 (.ret))
 (.skip)))
 (.seq (.seq (.reg [oO 6 (.mv (kI 0))])
 (.block 0 (.loop lp_rvctr_0)))
 (.seq (.reg [oM 31 0,
 oO 32 (.call 71 [(.t 31)] none),
 oO 7 (.alloc (repL 688 (.d (.int .u8 0)))),
 oN (.store (.ag 688) (.t 7) (.t 32))])
 (.seq (.reg [oO 33 (.make true 1 1 (.int .u8 0) (kI 16) (kI 16)),
 oM 8 33])
 (.seq (.seq (.reg [oM 34 1,
 oO 35 (.len (.t 34)),
 oO 36 (.bin .eql (.t 35) (kI 0))])
 (.cond (.t 36) (.seq (.reg [oM 37 8,
 oO 38 (.idxSl 1 (.t 37) (kI 15)),
 oN (.store .sc (.t 38) (.k (.c (.d (.int .u8 1)))))])
 (.seq (.reg [oO 39 (.loadB (.ag 688) (.t 7)),
 oM 40 8,
 oO 41 (.call 89 [(.t 39),(.t 40)] (some (0,1))),
 oM 4 41,
 oO 5 (.mv (kI 0))])
 (.ret)))
 (.skip)))
 (.seq (.reg [oO 42 (.loadB (.ag 688) (.t 7)),
 oM 43 8,
 oO 44 (.call 89 [(.t 42),(.t 43)] none),
 oM 9 44])
 (.seq (.seq (.reg [oO 10 (.mv (kI 0))])
 (.block 2 (.loop lp_rvctr_1)))
 (.seq (.reg [oM 61 1,
 oM 62 1,
 oO 63 (.len (.t 62)),
 oO 64 (.bin .sub (.t 63) (kI 1)),
 oO 65 (.idxSl 1 (.t 61) (.t 64)),
 oO 66 (.load .sc (.t 65)),
 oM 11 66])
 (.seq (.seq (.reg [oM 67 11,
 oO 68 (.len (.t 67)),
 oO 69 (.bin .geq (.t 68) (kI 16))])
 (.cond (.t 69) (.seq (.reg [oM 70 11,
 oO 71 (.len (.t 70)),
 oO 72 (.bin .sub (.t 71) (kI 16)),
 oM 12 72])
 (.seq (.reg [oO 73 (.loadB (.ag 688) (.t 7)),
 oM 74 11,
 oM 75 12,
 oO 76 (.slice 1 (.t 74) none (some (.t 75)) none),
 oM 77 11,
 oM 78 12,
 oO 79 (.slice 1 (.t 77) (some (.t 78)) none none),
 oM 80 9,
 oO 81 (.call 90 [(.t 79),(.t 80)] none),
 oO 82 (.bldSl false 2 1 (.sl []) [(0,(.t 76)),(1,(.t 81))]),
 oO 83 (.call 31 [(.t 82)] none),
 oO 84 (.call 89 [(.t 73),(.t 83)] (some (0,1))),
 oM 4 84,
 oO 5 (.mv (kI 0))])
 (.ret)))
 (.skip)))
 (.seq (.reg [oO 85 (.loadB (.ag 688) (.t 7)),
 oM 86 9,
 oO 87 (.call 91 [(.t 86)] none),
 oM 88 11,
 oO 89 (.bldSl false 1 1 (.sl []) [(0,(.t 88))]),
 oO 90 (.call 31 [(.t 89)] (some (0,1))),
 oO 91 (.bldSl false 1 1 (.int .u8 0) [(0,(.k (.c (.d (.int .u8 128)))))]),
 oO 92 (.app false 1 1 (.t 90) (.t 91)),
 oO 93 (.call 92 [(.t 92),(kI 16)] none),
 oO 94 (.call 90 [(.t 87),(.t 93)] none),
 oO 95 (.call 89 [(.t 85),(.t 94)] (some (0,1))),
 oM 4 95,
 oO 5 (.mv (kI 0))])
 (.ret)))))))))))),
 [(4,none),(5,none)]⟩
theorem cf_rvctr:compFn Tryz.prog { own:=[41,84,90,95],comp:=[],frz:=[],nils:=[],bx:=[39,42,54,73,85] } Tryz.f74=some sf_rvctr:=by kernel_rfl
set_option maxRecDepth 20000 in
theorem rvctr_f (G:Glob) (key:List UInt8) (l:List (List UInt8)) (hk:key.length≤9223372036854775807) (hl:l.length≤9223372036854775807) (hb:∀ x∈l,x.length≤9223372036854775807):Den Tryz.prog G 74 [.sl (key.map bD),.sl (l.map fun l=>D.sl (l.map bD))] (.tup [.c (.fr 1 ((vctV key l).map bD)),.c (.d (.int .i64 (vctE key l)))]):=by
  refine den_walk Tryz.func74 cf_rvctr rfl rfl ?_
  unfold vctV vctE
  by_cases h:key.length=16
  ·by_cases h2:l.length≤17
   ·rw[if_neg (by omega:¬ key.length≠16),if_neg (by omega:¬ 17<l.length)]
    simp only[sf_rvctr,putAll,wal,stV,seval,iteOmega,toNatUp,reduceCtorEq]
    refine loop_st (rv0St key l) (fun i=>l.length-i) (fun i=>i≤l.length∧∀ j,j<i→(l.getD j []).length≤65535) 0 ⟨Nat.zero_le _,fun j hj=>by omega⟩ ?_ ?_
    ·refine ent_l (fun i=>0) ?_ ?_ rfl rfl <;> simp only[wx,wex,wez,stV,seval,iteOmega,toNatUp,reduceCtorEq] <;> rfl
    ·rintro i ⟨hi,hok⟩
     by_cases hlt:i<l.length
     ·have g1:=getL_lt hlt
      have hx:=hb _ (getL_mem hlt)
      by_cases hlong:65535<(l.getD i []).length
      ·have hL:=longL_yes hlt hlong
       rw[hL,if_neg (by simp),if_pos rfl]
       simp only[lp_rvctr_0,rv0St,wal,stV,seval,iteOmega,toNatUp,reduceCtorEq,get_map,g1]
       exact qf2
      ·simp only[lp_rvctr_0,rv0St,wal,stV,seval,iteOmega,toNatUp,reduceCtorEq,get_map,g1]
       refine lop_next (i+1) (by omega) ⟨by omega,fun j hj=>?_⟩ (ent_l (fun i=>i) ?_ ?_ rfl rfl)
       ·rcases Nat.lt_or_ge j i with h | h
        ·exact hok j h
        ·obtain rfl:j=i:=by omega
         omega
       all_goals simp only[wx,wex,wez,stV,seval,iteOmega,toNatUp,reduceCtorEq]
     ·have hL:=longL_no (l:=l) (fun j hj=>hok j (by omega))
      rw[hL,if_pos ⟨h,h2,rfl⟩,if_neg (by simp)]
      have hall:=longL_all hL
      have hM:=macM4_len h
      have r4:List.drop 688 (repL 688 (0:UInt8))=[]:=List.drop_eq_nil_of_le (by rw[repL_len]; omega)
      have t0:(repL 16 (0:UInt8)).take 16=zero16:=rfl
      have t1:(macM4 key).take 688=macM4 key:=List.take_of_length_le (by omega)
      simp only[lp_rvctr_0,rv0St,wal,stV,seval,iteOmega,toNatUp,reduceCtorEq,repL_bC]
      have k0:=rmcc_f G key zero16 h (by decide)
      by_cases h0:l.length=0
      ·rw[vecM_none _ h0]
       have z3:15<(repL 16 (0:UInt8)).length:=by rw[repL_len]; decide
       have z4:((repL 16 (0:UInt8)).map bD).set 15 (D.int .u8 1)=(putL 1 16).map bD:=by rw[← one16]; exact set_map bD _ 15 1
       have z5:(putL 1 16).take 16=putL 1 16:=List.take_of_length_le (by rw[putL_length]; decide)
       have z6:(putL 1 16).length=16:=putL_length _ _
       refine sC (prep_c G key h) ?_
       simp only[len_map,hM,repL_len,map_C,drop_map,app_map,r4,List.append_nil,z16,stO_bs z3 (one_int _ _),z4,take_map,t1,allD_bs,wal,stV,seval,iteOmega,toNatUp,reduceCtorEq]
       have k1:=rmcc_f G key (putL 1 16) h (by rw[putL_length]; decide)
       refine st_call k1 (by simp only[wal,stV,seval,iteOmega,toNatUp,reduceCtorEq,take_map,z5,repL_len]) (.inr (fl_b _ _)) ?_
       simp only[wal,stV,seval,iteOmega,toNatUp,reduceCtorEq]
       exact qf2
      ·refine sC (prep_c G key h) ?_
       simp only[len_map,hM,repL_len,map_C,drop_map,app_map,r4,List.append_nil,z16,take_map,t1,allD_bs,wal,stV,seval,iteOmega,toNatUp,reduceCtorEq]
       refine st_call k0 (by simp only[wal,stV,seval,iteOmega,toNatUp,reduceCtorEq,take_map,t0,repL_len]) (.inr (fl_b _ _)) ?_
       simp only[wal,stV,seval,iteOmega,toNatUp,reduceCtorEq]
       refine loop_st (rv1St key l) (fun i=>l.length-1-i) (fun i=>i≤l.length-1) 0 (Nat.zero_le _) ?_ ?_
       ·refine ent_l (fun i=>if i=1 then 264 else 56) ?_ ?_ rfl (by simp[V.ids,W.ids,C.ids,Ob.ids,ids_bC]) <;> simp only[wx,wex,wez,stV,seval,iteOmega,toNatUp,reduceCtorEq,ren_bC,ids_bC,vecD] <;> rfl
       ·intro i hi
        have hd:=vecD_len (rkK key) l i
        by_cases hlt:i<l.length-1
        ·have g1:=getL_lt (l:=l) (j:=i) (by omega)
         have hx:=hall _ (getL_mem (l:=l) (j:=i) (by omega))
         have hs:xorP (dblL (vecD (rkK key) l i)) (macM (rkK key) (l.getD i []))=vecD (rkK key) l (i+1):=rfl
         have h1:=rdbb_c G (vecD (rkK key) l i) (by omega)
         have h2:=rmcc_c G key (l.getD i []) h (by omega)
         have h3:=rxor_c G (dblL (vecD (rkK key) l i)) (macM (rkK key) (l.getD i [])) (by rw[dblL_len hd]; decide) (by rw[macM_len]; decide)
         rw[hs] at h3
         simp only[lp_rvctr_1,rv1St,wal,stV,seval,iteOmega,toNatUp,reduceCtorEq,len_map,hM,take_map,t1,allD_bs,get_map,g1]
         refine sC (h1) ?_
         simp only[len_map,hM,take_map,t1,allD_bs,get_map,g1,wal,stV,seval,iteOmega,toNatUp,reduceCtorEq]
         refine sD (h2) ?_
         refine sD (h3) ?_
         refine lop_next (i+1) (by omega) (by omega) (ent_l (fun i=>i) ?_ ?_ rfl (by simp[V.ids,W.ids,C.ids,Ob.ids,ids_bC])) <;> simp only[wx,wex,wez,stV,seval,iteOmega,toNatUp,reduceCtorEq,ren_bC,ids_bC]
        ·obtain rfl:i=l.length-1:=by omega
         have g1:=getL_lt (l:=l) (j:=l.length-1) (by omega)
         have hx:=hall _ (getL_mem (l:=l) (j:=l.length-1) (by omega))
         have e1:(((l.length:Int)-1).toNat)=l.length-1:=by omega
         generalize hs:l.getD (l.length-1) []=s at *
         generalize hdd:vecD (rkK key) l (l.length-1)=d at *
         have e2:(((s.length:Int)-16).toNat)=s.length-16:=by omega
         by_cases h16:16≤s.length
         ·rw[vecM_long _ h0 hs hdd h16]
          have hl:(s.drop (s.length-16)).length=16:=by rw[List.length_drop]; omega
          have ht:(s.drop (s.length-16)).take (s.length-(s.length-16))=s.drop (s.length-16):=List.take_of_length_le (by omega)
          have hj:=rjoin_c G [s.take (s.length-16),xorP (s.drop (s.length-16)) d] (by simp) (by simp[xorP_len]; omega)
          have hf:[s.take (s.length-16),xorP (s.drop (s.length-16)) d].flatten=s.take (s.length-16)++xorP (s.drop (s.length-16)) d:=by simp
          rw[hf] at hj
          have k3:=rmcc_f G key (s.take (s.length-16)++xorP (s.drop (s.length-16)) d) h (by rw[List.length_append,xorP_len,← List.length_append,List.take_append_drop]; omega)
          simp only[lp_rvctr_1,rv1St,hdd,wal,stV,seval,iteOmega,toNatUp,reduceCtorEq,len_map,hM,take_map,t1,allD_bs,get_map,g1,e1,e2,ht]
          refine sD (rxor_c G (s.drop (s.length-16)) d (by omega) (by omega)) ?_
          refine sD (hj) ?_
          refine sD (k3) ?_
          exact qf2
         ·have h15:s.length<16:=by omega
          rw[vecM_short _ h0 hs hdd h15]
          have hj:=rjoin_c G [s] (by simp) (by simp; omega)
          have hf:[s].flatten=s:=by simp
          rw[hf] at hj
          have p1:=rpad_c G (s++[128]) 16 (by simp; omega)
          rw[padN_16] at p1
          have b128:s.map bD++[D.int .u8 128]=(s++[128]).map bD:=by rw[List.map_append]; rfl
          have tc2:(s++[128]).take (s.length+1)=s++[128]:=List.take_of_length_le (by simp)
          have lc:(s++[(128:UInt8)]).length=s.length+1:=by simp
          have p3:=rxor_c G (dblL d) (padL (s++[128])) (by rw[dblL_len hd]; decide) (by rw[padL_short h15]; decide)
          have k3:=rmcc_f G key (xorP (dblL d) (padL (s++[128]))) h (by rw[xorP_len,dblL_len hd]; decide)
          simp only[lp_rvctr_1,rv1St,hdd,wal,stV,seval,iteOmega,toNatUp,reduceCtorEq,len_map,hM,take_map,t1,allD_bs,get_map,g1,e1]
          refine sD (rdbb_c G d (by omega)) ?_
          refine sC (hj) ?_
          simp only[srcV,b128,wal,stV,seval,iteOmega,toNatUp,reduceCtorEq]
          refine st_call p1 (by simp only[wal,stV,seval,iteOmega,toNatUp,reduceCtorEq,take_map,tc2,lc]) (.inr (fl_b _ _)) ?_
          simp only[wal,stV,seval,iteOmega,toNatUp,reduceCtorEq]
          refine sD (p3) ?_
          refine sD (k3) ?_
          exact qf2
   ·rw[if_neg (by omega),if_neg (by omega),if_pos (by omega)]
    have h3:17<l.length:=by omega
    simp only[sf_rvctr,putAll,wal,stV,seval,iteOmega,toNatUp,reduceCtorEq]
    exact qf2
  ·rw[if_neg (by omega),if_pos h]
   simp only[sf_rvctr,putAll,wal,stV,seval,iteOmega,toNatUp,reduceCtorEq]
   exact qf2
end Go.Proofs.YtpbmdbahkpfkdaaGreatDoor
namespace Go.Proofs.YtpbmdbahkpfkdaaGreatDoor
open Go.RowKit IntWalk
theorem padC_get (rk c:List UInt8) {n k:Nat} (hk:k<16):∀ {m:Nat},n<m→(padC rk c m)[16*n+k]?=(encK rk (ctrC c n))[k]?
  | 0,h=>by omega
  | m+1,h=>by
    rw[padC]
    by_cases e:n=m
    ·subst e
     rw[List.getElem?_append_right (by rw[padC_len]; omega),padC_len,Nat.add_sub_cancel_left]
    ·rw[List.getElem?_append_left (by rw[padC_len]; omega)]
     exact padC_get rk c hk (by omega)
theorem strm_get (rk c b:List UInt8) {n k:Nat} (hk:k<16) (h:16*n+k<b.length):(strmC rk c b)[16*n+k]?=some (xorB (b.getD (16*n+k) 0) ((encK rk (ctrC c n)).getD k 0)):=by
  unfold strmC xorL
  rw[List.getElem?_zipWith,padC_get rk c hk (by omega),get_lt h,get_lt (by rw[encK_len]; exact hk)]
def oT (rk c b:List UInt8) (j:Nat):List UInt8:=(strmC rk c b).take j
theorem oT_len (rk c b:List UInt8) (j:Nat):(oT rk c b j).length=min j b.length:=by unfold oT; rw[List.length_take,strmC_len]
theorem oT_full (rk c b:List UInt8) {j:Nat} (h:b.length≤j):oT rk c b j=strmC rk c b:=List.take_of_length_le (by rw[strmC_len]; exact h)
theorem oT_step (rk c b:List UInt8) {n k:Nat} (hk:k<16) (h:16*n+k<b.length):oT rk c b (16*n+k)++[xorB (b.getD (16*n+k) 0) ((encK rk (ctrC c n)).getD k 0)]=oT rk c b (16*n+k+1):=by
  unfold oT; rw[List.take_add_one,strm_get rk c b hk h]; rfl
theorem ctrC_16 {c:List UInt8} (h:c.length=16) (n:Nat):(ctrC c n).length=16:=by rw[ctrC_len]; exact h
theorem nexV_ctr {c:List UInt8} (h:c.length=16) (n:Nat):nexV (ctrC c n)=ctrC c (n+1):=by unfold nexV; rw[if_pos (ctrC_16 h n)]; rfl
def strmE (key c b:List UInt8):Int:=if key.length≠16 then 5 else if c.length≠16 then 3 else if 65535<b.length then 2 else 0
def strmV (key c b:List UInt8):List UInt8:=if key.length=16∧c.length=16∧b.length≤65535 then strmC (rkK key) c b else []
theorem strmE_key {key:List UInt8} (c b:List UInt8) (h:key.length≠16):strmE key c b=5:=if_pos h
theorem strmE_ctr {key c:List UInt8} (b:List UInt8) (h:key.length=16) (h2:c.length≠16):strmE key c b=3:=by unfold strmE; rw[if_neg (by simp[h]),if_pos h2]
theorem strmE_long {key c b:List UInt8} (h:key.length=16) (h2:c.length=16) (h3:65535<b.length):strmE key c b=2:=by unfold strmE; rw[if_neg (by simp[h]),if_neg (by simp[h2]),if_pos h3]
theorem strmE_ok {key c b:List UInt8} (h:key.length=16) (h2:c.length=16) (h3:b.length≤65535):strmE key c b=0:=by unfold strmE; rw[if_neg (by simp[h]),if_neg (by simp[h2]),if_neg (by omega)]
theorem strmV_ok {key c b:List UInt8} (h:key.length=16) (h2:c.length=16) (h3:b.length≤65535):strmV key c b=strmC (rkK key) c b:=if_pos ⟨h,h2,h3⟩
theorem strmV_no {key c b:List UInt8} (h:¬ (key.length=16∧c.length=16∧b.length≤65535)):strmV key c b=[]:=if_neg h
theorem oT0 (rk c b:List UInt8):oT rk c b 0=[]:=List.take_zero
def rst1 (key c b:List UInt8) (n:Nat):St:=⟨ofL [(1,.w (.c (.d (.sl ((ctrC c n).map bD))))),(2,.w (.c (.d (.sl (b.map bD))))),(8,.w (.c (.ptr 2 1 0 0))),(9,.w (.c (.own 1 1 0 (oT (rkK key) c b (16*n)).length))),(10,.w (.c (.d (.int .i64 ((16*n:Nat):Int)))))],hL [(1,.row 1 ((oT (rkK key) c b (16*n)).map bD)),(2,.box ((macM4 key).map bC))],uL [1,2]⟩
def rst0 (key c b:List UInt8) (n k:Nat):St:=⟨ofL [(1,.w (.c (.d (.sl ((ctrC c n).map bD))))),(2,.w (.c (.d (.sl (b.map bD))))),(8,.w (.c (.ptr 2 1 0 0))),(9,.w (.c (.own 1 1 0 (oT (rkK key) c b (16*n+k)).length))),(10,.w (.c (.d (.int .i64 ((16*n:Nat):Int))))),(11,.w (.c (.d (.sl ((encK (rkK key) (ctrC c n)).map bD))))),(12,.w (.c (.d (.int .i64 (k:Int)))))],hL [(1,.row 1 ((oT (rkK key) c b (16*n+k)).map bD)),(2,.box ((macM4 key).map bC))],uL [1,2]⟩
def lp_rstm_0:SCode :=
 .seq (.seq (.reg [oM 34 12,
 oO 35 (.bin .lss (.t 34) (kI 16)),
 oM 36 35,
 oG 37 (.mv (.t 10)) 36 true,
 oG 38 (.mv (.t 12)) 36 true,
 oG 39 (.bin .add (.t 37) (.t 38)) 36 true,
 oG 40 (.mv (.t 2)) 36 true,
 oG 41 (.len (.t 40)) 36 true,
 oG 42 (.bin .lss (.t 39) (.t 41)) 36 true,
 oO 43 (.pick (.t 36) (.t 42) (.k (.c (.d (.bool false)))))])
 (.cond (.t 43) (.skip)
 (.exit 2)))
 (.seq (.block 3 (.reg [oM 46 9,
 oM 47 2,
 oM 48 10,
 oM 49 12,
 oO 50 (.bin .add (.t 48) (.t 49)),
 oO 51 (.idxSl 1 (.t 47) (.t 50)),
 oO 52 (.load .sc (.t 51)),
 oM 53 11,
 oM 54 12,
 oO 55 (.idxSl 1 (.t 53) (.t 54)),
 oO 56 (.load .sc (.t 55)),
 oO 57 (.bin .xor (.t 52) (.t 56)),
 oO 58 (.bldSl false 1 1 (.int .u8 0) [(0,(.t 57))]),
 oO 59 (.app false 1 1 (.t 46) (.t 58)),
 oM 9 59]))
 (.reg [oM 44 12,
 oO 45 (.bin .add (.t 44) (kI 1)),
 oM 12 45]))
def lp_rstm_1:SCode :=
 .seq (.seq (.reg [oM 25 10,
 oM 26 2,
 oO 27 (.len (.t 26)),
 oO 28 (.bin .lss (.t 25) (.t 27))])
 (.cond (.t 28) (.skip)
 (.exit 0)))
 (.seq (.block 1 (.seq (.reg [oO 31 (.load (.ag 688) (.t 8)),
 oM 32 1,
 oO 33 (.call 72 [(.t 31),(.t 32)] none),
 oM 11 33])
 (.seq (.seq (.reg [oO 12 (.mv (kI 0))])
 (.block 2 (.loop lp_rstm_0)))
 (.reg [oM 60 1,
 oO 61 (.call 73 [(.t 60)] none),
 oM 1 61]))))
 (.reg [oM 29 10,
 oO 30 (.bin .add (.t 29) (kI 16)),
 oM 10 30]))
def sf_rstm:SFn:=⟨3,63,
 .seq (.reg [oO 6 (.mv (.k (.c .nil))),
 oO 7 (.mv (kI 0))])
 (.seq (.seq (.reg [oM 13 0,
 oO 14 (.len (.t 13)),
 oO 15 (.bin .neq (.t 14) (kI 16))])
 (.cond (.t 15) (.seq (.reg [oO 6 (.mv (.k (.c .nil))),
 oO 7 (.mv (kI 5))])
 (.ret))
 (.skip)))
 (.seq (.seq (.reg [oM 16 1,
 oO 17 (.len (.t 16)),
 oO 18 (.bin .neq (.t 17) (kI 16))])
 (.cond (.t 18) (.seq (.reg [oO 6 (.mv (.k (.c .nil))),
 oO 7 (.mv (kI 3))])
 (.ret))
 (.skip)))
 (.seq (.seq (.reg [oM 19 2,
 oO 20 (.len (.t 19)),
 oO 21 (.bin .gtr (.t 20) (kI 65535))])
 (.cond (.t 21) (.seq (.reg [oO 6 (.mv (.k (.c .nil))),
 oO 7 (.mv (kI 2))])
 (.ret))
 (.skip)))
 (.seq (.reg [oM 22 0,
 oO 23 (.call 71 [(.t 22)] none),
 oO 8 (.alloc (repL 688 (.d (.int .u8 0)))),
 oN (.store (.ag 688) (.t 8) (.t 23))])
 (.seq (.reg [oO 24 (.bldSl true 0 1 (.int .u8 0) []),
 oM 9 24])
 (.seq (.seq (.reg [oO 10 (.mv (kI 0))])
 (.block 0 (.loop lp_rstm_1)))
 (.seq (.reg [oM 62 9,
 oM 6 62,
 oO 7 (.mv (kI 0))])
 (.ret)))))))),
 [(6,none),(7,none)]⟩
theorem cf_rstm:compFn Tryz.prog { own:=[24],comp:=[],frz:=[],nils:=[] } Tryz.f55=some sf_rstm:=by kernel_rfl
set_option maxRecDepth 20000 in
set_option maxHeartbeats 3200000 in
theorem rstm_f (G:Glob) (key c b:List UInt8) (hk:key.length≤9223372036854775807) (hc:c.length≤9223372036854775807) (hb:b.length≤9223372036854775807):Den Tryz.prog G 55 [.sl (key.map bD),.sl (c.map bD),.sl (b.map bD)] (.tup [.c (.fr 1 ((strmV key c b).map bD)),.c (.d (.int .i64 (strmE key c b)))]):=by
  refine den_walk Tryz.func55 cf_rstm rfl rfl ?_
  by_cases h:key.length=16
  ·by_cases h2:c.length=16
   ·by_cases h3:b.length≤65535
    ·have hM:=macM4_len h
     have r4:List.drop 688 (repL 688 (0:UInt8))=[]:=List.drop_eq_nil_of_le (by rw[repL_len]; omega)
     rw[strmE_ok h h2 h3,strmV_ok h h2 h3]
     simp only[sf_rstm,putAll,wal,stV,seval,iteOmega,toNatUp,reduceCtorEq,h,h2,repL_bC]
     refine sC (prep_c G key h) ?_
     simp only[len_map,hM,repL_len,map_C,drop_map,app_map,r4,List.append_nil,wal,stV,seval,iteOmega,toNatUp,reduceCtorEq]
     refine loop_st (rst1 key c b) (fun n=>(b.length+15) / 16-n) (fun n=>16*n<b.length+16) 0 (by omega) ?_ ?_
     ·refine ent_l (fun i=>if i=1 then 192 else 64) ?_ ?_ rfl (by simp[V.ids,W.ids,C.ids,Ob.ids,ids_bC]) <;> simp only[wx,wex,wez,stV,seval,iteOmega,toNatUp,reduceCtorEq,ren_bC,ids_bC,Nat.mul_zero,oT0,List.length_nil,List.map_nil] <;> rfl
     ·intro n hn
      have hT:=oT_len (rkK key) c b (16*n)
      by_cases hlt:16*n<b.length
      ·have t1:(macM4 key).take 688=macM4 key:=List.take_of_length_le (by omega)
       simp only[lp_rstm_1,rst1,wal,stV,seval,iteOmega,toNatUp,reduceCtorEq,len_map,hM,take_map,t1,allD_bs]
       refine sD (renc_c G key (ctrC c n) h (ctrC_16 h2 n)) ?_
       have hen:blockC key (ctrC c n)=encK (rkK key) (ctrC c n):=rfl
       rw[hen]
       refine loop_st (rst0 key c b n) (fun k=>16-k) (fun k=>k≤16∧16*n+k≤b.length) 0 ⟨by omega,by omega⟩ ?_ ?_
       ·refine ent_l (fun i=>i) ?_ ?_ rfl (by simp[V.ids,W.ids,C.ids,Ob.ids,ids_bC]) <;> simp only[wx,wex,wez,stV,seval,iteOmega,toNatUp,reduceCtorEq,ren_bC,ids_bC,Nat.add_zero]
       ·rintro k ⟨hk16,hkb⟩
        have hTk:=oT_len (rkK key) c b (16*n+k)
        have hTk1:=oT_len (rkK key) c b (16*n+k+1)
        by_cases hgo:k<16∧16*n+k<b.length
        ·obtain⟨hk1,hk2⟩:=hgo
         have g1:b[16*n+k]?=some (b.getD (16*n+k) 0):=get_lt hk2
         have hel:=encK_len (rkK key) (ctrC c n)
         have g2:(encK (rkK key) (ctrC c n))[k]?=some ((encK (rkK key) (ctrC c n)).getD k 0):=get_lt (by omega)
         have x1:=binV_xorB (b.getD (16*n+k) 0) ((encK (rkK key) (ctrC c n)).getD k 0)
         have ho:=oT_step (rkK key) c b hk1 hk2
         simp only[lp_rstm_0,rst0,wal,stV,seval,iteOmega,toNatUp,reduceCtorEq,get_map,g1,g2,x1,hel,srcV]
         refine lop_next (k+1) (by omega) ⟨by omega,by omega⟩ (ent_l (fun i=>if i=1 then 472 else i) ?_ ?_ rfl (by simp[V.ids,W.ids,C.ids,Ob.ids,ids_bC])) <;> simp only[wx,wex,wez,stV,seval,iteOmega,toNatUp,reduceCtorEq,ren_bC,ids_bC]
         ·rw[show 16*n+(k+1)=16*n+k+1 from rfl,hTk,hTk1,show min (16*n+k) b.length+1=min (16*n+k+1) b.length by omega]
         ·rw[← Nat.add_assoc,← ho,List.map_append]; rfl
        ·have e:oT (rkK key) c b (16*n+k)=oT (rkK key) c b (16*(n+1)):=by
           by_cases h16:k=16
           ·rw[h16,show 16*n+16=16*(n+1) by omega]
           ·rw[oT_full _ _ _ (by omega),oT_full _ _ _ (by omega)]
         have hx:=rnex_c G (ctrC c n) (by rw[ctrC_16 h2]; omega)
         rw[nexV_ctr h2] at hx
         by_cases h16:k<16
         ·have hnl:¬ 16*n+k<b.length:=by omega
          simp only[lp_rstm_0,rst0,e,wal,stV,seval,iteOmega,toNatUp,reduceCtorEq]
          refine sD (hx) ?_
          refine lop_next (n+1) (by omega) (by omega) (ent_l (fun i=>i) ?_ ?_ rfl (by simp[V.ids,W.ids,C.ids,Ob.ids,ids_bC])) <;> simp only[wx,wex,wez,stV,seval,iteOmega,toNatUp,reduceCtorEq,ren_bC,ids_bC]
          rw[show (16*(n:Int)+16)=16*((n:Int)+1) by omega]
         ·simp only[lp_rstm_0,rst0,e,wal,stV,seval,iteOmega,toNatUp,reduceCtorEq]
          refine sD (hx) ?_
          refine lop_next (n+1) (by omega) (by omega) (ent_l (fun i=>i) ?_ ?_ rfl (by simp[V.ids,W.ids,C.ids,Ob.ids,ids_bC])) <;> simp only[wx,wex,wez,stV,seval,iteOmega,toNatUp,reduceCtorEq,ren_bC,ids_bC]
          rw[show (16*(n:Int)+16)=16*((n:Int)+1) by omega]
      ·have e:=oT_full (rkK key) c b (j:=16*n) (by omega)
       have hl:=strmC_len (rkK key) c b
       simp only[lp_rstm_1,rst1,e,wal,stV,seval,iteOmega,toNatUp,reduceCtorEq,hl]
       have ht:(strmC (rkK key) c b).take b.length=strmC (rkK key) c b:=List.take_of_length_le (by omega)
       exact ret_f2 (by simp only[wal,stV,seval,iteOmega,toNatUp,reduceCtorEq,len_map,hl,take_map,ht]) (by simp only[wal,stV,seval,iteOmega,toNatUp,reduceCtorEq])
    ·rw[strmE_long h h2 (by omega),strmV_no (by omega)]
     simp only[sf_rstm,putAll,wal,stV,seval,iteOmega,toNatUp,reduceCtorEq,h,h2]
     exact qf2
   ·rw[strmE_ctr b h h2,strmV_no (by omega)]
    simp only[sf_rstm,putAll,wal,stV,seval,iteOmega,toNatUp,reduceCtorEq,h]
    exact qf2
  ·rw[strmE_key c b h,strmV_no (by omega)]
   simp only[sf_rstm,putAll,wal,stV,seval,iteOmega,toNatUp,reduceCtorEq]
   exact qf2
theorem rstm_c (G:Glob) (key c b:List UInt8) (hk:key.length≤9223372036854775807) (hc:c.length≤9223372036854775807) (hb:b.length≤9223372036854775807):Den Tryz.prog G 55 [.sl (key.map bD),.sl (c.map bD),.sl (b.map bD)] (.tup [.c (.d (.sl ((strmV key c b).map bD))),.c (.d (.int .i64 (strmE key c b)))]):=den_ro2 (rstm_f G key c b hk hc hb)
end Go.Proofs.YtpbmdbahkpfkdaaGreatDoor
namespace Go.Proofs.YtpbmdbahkpfkdaaGreatDoor
open Go.RowKit
theorem bD_ofNat {i:Nat} (h:i<256):bD (UInt8.ofNat i)=.int .u8 (i:Int):=by
  unfold bD; rw[UInt8.toNat_ofNat_of_lt' (by simpa [UInt8.size] using h)]
end Go.Proofs.YtpbmdbahkpfkdaaGreatDoor
namespace Go.Proofs.YtpbmdbahkpfkdaaGreatDoor
open Go.RowKit IntWalk
def sf_beq:SFn:=⟨2,10,
 .seq (.reg [oO 4 (.mv (.k (.c (.d (.bool false)))))])
 (.seq (.reg [oM 5 0,
 oO 6 (.b2s (.t 5)),
 oM 7 1,
 oO 8 (.b2s (.t 7)),
 oO 9 (.bin .eql (.t 6) (.t 8)),
 oM 4 9])
 (.ret)),
 [(4,none)]⟩
theorem cf_beq:compFn Tryz.prog { own:=[],comp:=[],frz:=[],nils:=[] } Tryz.f68=some sf_beq:=by kernel_rfl
theorem beq_c (G:Glob) (l m:List UInt8):Den Tryz.prog G 68 [.sl (l.map bD),.sl (m.map bD)] (.w (.c (.d (.bool (l==m))))):=by
  refine den_walk Tryz.func68 cf_beq rfl rfl ?_
  simp only[sf_beq,putAll,wx,stV,seval,iteOmega,toNatUp,reduceCtorEq,ofBs_map,binS_same]
  exact ret_d (by simp only[wx,stV,seval,iteOmega,toNatUp,reduceCtorEq])
def sf_same:SFn:=⟨2,8,
 .seq (.reg [oO 4 (.mv (.k (.c (.d (.bool false)))))])
 (.seq (.reg [oM 5 0,
 oM 6 1,
 oO 7 (.call 68 [(.t 5),(.t 6)] none),
 oM 4 7])
 (.ret)),
 [(4,none)]⟩
theorem cf_same:compFn Tryz.prog { own:=[],comp:=[],frz:=[],nils:=[] } Tryz.f51=some sf_same:=by kernel_rfl
theorem same_c (G:Glob) (l m:List UInt8):Den Tryz.prog G 51 [.sl (l.map bD),.sl (m.map bD)] (.w (.c (.d (.bool (l==m))))):=by
  refine den_walk Tryz.func51 cf_same rfl rfl ?_
  simp only[sf_same,putAll,wal,stV,seval,iteOmega,toNatUp,reduceCtorEq]
  refine sD (beq_c G l m) ?_
  exact qd1
end Go.Proofs.YtpbmdbahkpfkdaaGreatDoor
namespace Go.Proofs.YtpbmdbahkpfkdaaGreatDoor
open Go.RowKit
theorem putL_snoc (v k:Nat):putL v (k+1)=putL (v / 256) k++[UInt8.ofNat v]:=by
  unfold putL
  rw[List.range_succ,List.map_append]
  congr 1
  ·apply List.map_congr_left
   intro i hi
   have hi':i<k:=List.mem_range.1 hi
   rw[show k+1-1-i=(k-1-i)+1 by omega,Nat.pow_succ,Nat.mul_comm,← Nat.div_div_eq_div_mul]
  ·simp
theorem getN_one (a:List UInt8) (x:UInt8):getN (a++[x])=(getN a*256+x.toNat)%18446744073709551616:=by simp[getN]
theorem pow_le8 {k:Nat} (h:k≤8):256^k≤18446744073709551616:=Nat.le_trans (Nat.pow_le_pow_right (by decide) h) (by decide)
theorem get_put (k:Nat) (h:k≤8):∀ v,getN (putL v k)=v%256^k:=by
  induction k with
  | zero=>intro v; rw[Nat.pow_zero,Nat.mod_one]; rfl
  | succ k ih =>
    intro v
    have hp:=pow_le8 h
    have hv:v%256^(k+1)<256^(k+1):=Nat.mod_lt _ (Nat.pow_pos (by decide))
    have e:v%256^(k+1)=v%256+256*(v / 256%256^k):=by rw[Nat.pow_succ',Nat.mod_mul]
    rw[putL_snoc,getN_one,ih (by omega),UInt8.toNat_ofNat',Nat.mod_eq_of_lt (by omega)]
    omega
theorem getN_lt_pow:∀ (k:Nat) (l:List UInt8),l.length=k→k≤8→getN l<256^k∧putL (getN l) k=l:=by
  intro k
  induction k with
  | zero=>intro l h _; rw[List.eq_nil_of_length_eq_zero h]; exact⟨by decide,rfl⟩
  | succ k ih =>
    intro l h h8
    rcases List.eq_nil_or_concat l with rfl | ⟨a,x,rfl⟩
    ·simp at h
    ·rw[List.concat_eq_append] at *
     obtain⟨a1,a2⟩:=ih a (by simpa using h) (by omega)
     have hx:x.toNat<256:=x.toNat_lt
     have hp:=pow_le8 h8
     have e:getN (a++[x])=getN a*256+x.toNat:=by
       rw[getN_one,Nat.mod_eq_of_lt]
       rw[Nat.pow_succ] at hp; omega
     refine⟨by rw[e,Nat.pow_succ]; omega,?_⟩
     rw[e,putL_snoc,show (getN a*256+x.toNat) / 256=getN a by omega,a2]
     congr 2
     rw[← UInt8.toNat_inj,UInt8.toNat_ofNat']
     omega
structure Hd where
  lp:Int
  vr:Int
  md:Int
  st:Int
  pl:Int
  pr:Int
  rd:Nat
  rp:Nat
  ri:Nat
  rf:Nat
  og:Nat
  rc:Nat
  tr:Nat
def Hd.z:Hd:=⟨0,0,0,0,0,0,0,0,0,0,0,0,0⟩
def hdR (h:Hd):Prop:=0≤h.lp∧h.lp≤3∧(h.vr=3∨h.vr=4)∧0≤h.md∧h.md≤7∧0≤h.st∧h.st≤255∧-128≤h.pl∧h.pl≤127∧-128≤h.pr∧h.pr≤127
instance (h:Hd):Decidable (hdR h):=by unfold hdR; infer_instance
def cutN (l:List UInt8) (a n:Nat):List UInt8:=(l.drop a).take n
theorem cutN_len {l:List UInt8} {a n:Nat} (h:a+n≤l.length):(cutN l a n).length=n:=by
  unfold cutN; rw[List.length_take,List.length_drop]; omega
theorem cutN_hit (p q r:List UInt8):cutN (p++(q++r)) p.length q.length=q:=by
  unfold cutN; rw[List.drop_left,List.take_left]
end Go.Proofs.YtpbmdbahkpfkdaaGreatDoor
namespace Go.Proofs.YtpbmdbahkpfkdaaGreatDoor
open Go.RowKit
theorem putk_c (G:Glob) (v:Nat) (k:Int) (hk:0≤k∧k≤64):Den Tryz.prog G 32 [.int .u64 (v:Int),.int .i64 k] (.w (.c (.fr 1 ((putL v k.toNat).map bD)))):=by
  have c:=put_c G v k
  rw[show putN v k=putL v k.toNat from if_pos hk] at c
  exact c
theorem rputk_c (G:Glob) (v:Nat) (k:Int) (hk:0≤k∧k≤64):Den Tryz.prog G 44 [.int .u64 (v:Int),.int .i64 k] (.w (.c (.fr 1 ((putL v k.toNat).map bD)))):=by
  have c:=rput_c G v k
  rw[show putN v k=putL v k.toNat from if_pos hk] at c
  exact c
end Go.Proofs.YtpbmdbahkpfkdaaGreatDoor
namespace Go.Proofs.YtpbmdbahkpfkdaaGreatDoor
open Go.RowKit IntWalk
def rgetSt (l:List UInt8) (i:Nat):St:=⟨ofL [(0,.w (.c (.d (.sl (l.map bD))))),(3,.w (.c (.d (.int .u64 (getN (l.take i)))))),(4,.w (.c (.d (.int .i64 (i:Int)))))],hL [],uL []⟩
def lp_rget_0:SCode :=
 .seq (.seq (.reg [oM 5 4,
 oM 6 0,
 oO 7 (.len (.t 6)),
 oO 8 (.bin .lss (.t 5) (.t 7))])
 (.cond (.t 8) (.skip)
 (.exit 0)))
 (.seq (.block 1 (.reg [oM 11 3,
 oO 12 (.bin .shl (.t 11) (.k (.c (.d (.int .u64 8))))),
 oM 13 0,
 oM 14 4,
 oO 15 (.idxSl 1 (.t 13) (.t 14)),
 oO 16 (.load .sc (.t 15)),
 oO 17 (.conv .u64 (.t 16)),
 oO 18 (.bin .or (.t 12) (.t 17)),
 oM 3 18]))
 (.reg [oM 9 4,
 oO 10 (.bin .add (.t 9) (kI 1)),
 oM 4 10]))
def sf_rget:SFn:=⟨1,20,
 .seq (.reg [oO 2 (.mv (.k (.c (.d (.int .u64 0)))))])
 (.seq (.reg [oO 3 (.mv (.k (.c (.d (.int .u64 0)))))])
 (.seq (.seq (.reg [oO 4 (.mv (kI 0))])
 (.block 0 (.loop lp_rget_0)))
 (.seq (.reg [oM 19 3,
 oM 2 19])
 (.ret)))),
 [(2,none)]⟩
theorem cf_rget:compFn Tryz.prog { own:=[],comp:=[],frz:=[],nils:=[] } Tryz.f40=some sf_rget:=by kernel_rfl
set_option maxHeartbeats 400000 in
theorem rget_c (G:Glob) (l:List UInt8) (hl:l.length≤9223372036854775807):Den Tryz.prog G 40 [.sl (l.map bD)] (.w (.c (.d (.int .u64 (getN l))))):=by
  refine den_walk Tryz.func40 cf_rget rfl rfl ?_
  simp only[sf_rget,putAll,wal,stV,seval,iteOmega,toNatUp,reduceCtorEq]
  refine loop_st (rgetSt l) (fun i=>l.length-i) (fun i=>i≤l.length) 0 (Nat.zero_le _) ?_ ?_
  ·refine ent_l (fun i=>i) ?_ ?_ rfl rfl <;> simp only[wx,wex,wez,stV,seval,iteOmega,toNatUp,reduceCtorEq] <;> rfl
  ·intro i hi
   by_cases hlt:i<l.length
   ·have hb:=l[i].toNat_lt
    have e2:l[i]?=some l[i]:=List.getElem?_eq_getElem hlt
    have e3:IntKind.u64.wrap (l[i].toNat:Int)=(l[i].toNat:Int):=u64_in _ (by omega) (by omega)
    have e4:IntKind.i64.wrap ((i:Int)+1)=((i+1:Nat):Int):=by rw[IntWalk.i64_in _ (by omega)]; rfl
    have e5:=getN_take l i hlt
    simp only[lp_rget_0,rgetSt,wx,stV,seval,iteOmega,toNatUp,reduceCtorEq,get_map,e2,IntKind.bits,e3,e4]
    refine lop_next (i+1) (by omega) (by omega) (ent_l id ?_ ?_ rfl rfl) <;> simp only[wx,wex,stV,seval,iteOmega,toNatUp,reduceCtorEq,← e5]
   ·have:l.take i=l:=List.take_of_length_le (by omega)
    simp only[lp_rget_0,rgetSt,wx,stV,seval,iteOmega,toNatUp,reduceCtorEq,this]
    exact ret_d (by simp only[wx,stV,seval,iteOmega,toNatUp,reduceCtorEq])
end Go.Proofs.YtpbmdbahkpfkdaaGreatDoor
namespace Go.Proofs.YtpbmdbahkpfkdaaGreatDoor
open Go.RowKit IntWalk
set_option maxHeartbeats 1600000
theorem app_fill {k:List UInt8} (l:List D) (hl:l=List.replicate 64 (D.int .u8 0)):k.map bD++l.drop k.length=(fillK k).map bD:=by
  subst hl
  unfold fillK
  rw[List.drop_replicate,List.map_append,rep_b]
theorem len_fill {k:List UInt8} (hk:k.length≤64) (l:List D) (hl:l=List.replicate 64 (D.int .u8 0)):k.length+(l.drop k.length).length=64:=by
  subst hl
  rw[List.drop_replicate,List.length_replicate]; omega
def sf_blkof:SFn:=⟨1,13,
 .seq (.reg [oO 2 (.allocArr [(.int .u8 0),(.int .u8 0),(.int .u8 0),(.int .u8 0),(.int .u8 0),(.int .u8 0),(.int .u8 0),(.int .u8 0),(.int .u8 0),(.int .u8 0),(.int .u8 0),(.int .u8 0),(.int .u8 0),(.int .u8 0),(.int .u8 0),(.int .u8 0),(.int .u8 0),(.int .u8 0),(.int .u8 0),(.int .u8 0),(.int .u8 0),(.int .u8 0),(.int .u8 0),(.int .u8 0),(.int .u8 0),(.int .u8 0),(.int .u8 0),(.int .u8 0),(.int .u8 0),(.int .u8 0),(.int .u8 0),(.int .u8 0),(.int .u8 0),(.int .u8 0),(.int .u8 0),(.int .u8 0),(.int .u8 0),(.int .u8 0),(.int .u8 0),(.int .u8 0),(.int .u8 0),(.int .u8 0),(.int .u8 0),(.int .u8 0),(.int .u8 0),(.int .u8 0),(.int .u8 0),(.int .u8 0),(.int .u8 0),(.int .u8 0),(.int .u8 0),(.int .u8 0),(.int .u8 0),(.int .u8 0),(.int .u8 0),(.int .u8 0),(.int .u8 0),(.int .u8 0),(.int .u8 0),(.int .u8 0),(.int .u8 0),(.int .u8 0),(.int .u8 0),(.int .u8 0)])])
 (.seq (.seq (.reg [oM 4 0,
 oO 5 (.len (.t 4)),
 oO 6 (.bin .gtr (.t 5) (kI 64))])
 (.cond (.t 6) (.reg [oM 7 0,
 oO 8 (.call 77 [(.t 7)] none),
 oM 0 8])
 (.skip)))
 (.seq (.reg [oO 3 (.allocArr [(.int .u8 0),(.int .u8 0),(.int .u8 0),(.int .u8 0),(.int .u8 0),(.int .u8 0),(.int .u8 0),(.int .u8 0),(.int .u8 0),(.int .u8 0),(.int .u8 0),(.int .u8 0),(.int .u8 0),(.int .u8 0),(.int .u8 0),(.int .u8 0),(.int .u8 0),(.int .u8 0),(.int .u8 0),(.int .u8 0),(.int .u8 0),(.int .u8 0),(.int .u8 0),(.int .u8 0),(.int .u8 0),(.int .u8 0),(.int .u8 0),(.int .u8 0),(.int .u8 0),(.int .u8 0),(.int .u8 0),(.int .u8 0),(.int .u8 0),(.int .u8 0),(.int .u8 0),(.int .u8 0),(.int .u8 0),(.int .u8 0),(.int .u8 0),(.int .u8 0),(.int .u8 0),(.int .u8 0),(.int .u8 0),(.int .u8 0),(.int .u8 0),(.int .u8 0),(.int .u8 0),(.int .u8 0),(.int .u8 0),(.int .u8 0),(.int .u8 0),(.int .u8 0),(.int .u8 0),(.int .u8 0),(.int .u8 0),(.int .u8 0),(.int .u8 0),(.int .u8 0),(.int .u8 0),(.int .u8 0),(.int .u8 0),(.int .u8 0),(.int .u8 0),(.int .u8 0)])])
 (.seq (.reg [oO 9 (.sliceArr 1 64 (.t 3) none none),
 oM 10 0,
 oO 11 (.copy 1 (.t 9) (.t 10))])
 (.seq (.reg [oO 12 (.load (.ag 64) (.t 3)),
 oN (.store (.ag 64) (.t 2) (.t 12))])
 (.ret))))),
 [(2,(some (.ag 64)))]⟩
theorem cf_blkof:compFn Tryz.prog { own:=[],comp:=[],frz:=[],nils:=[] } Tryz.f76=some sf_blkof:=by kernel_rfl
theorem blkof_c (G:Glob) (hF:G.at 0=some (.ra (firstK.map wD))) (hG:G.at 1=some (.ra (constK.map wD))) (key:List UInt8) (hb:key.length≤140737488355328):Den Tryz.prog G 76 [.sl (key.map bD)] (.w (.c (.d (.agg ((blkK key).map bD))))):=by
  refine den_walk Tryz.func76 cf_blkof rfl rfl ?_
  by_cases h:64<key.length
  ·have e:blkK key=fillK (sumK key):=by unfold blkK keyK; rw[if_pos h]
   have hl:=sumK_len key
   rw[e]
   simp only[sf_blkof,putAll,wal,stV,seval,iteOmega,toNatUp,reduceCtorEq]
   refine sD (sum_c G hF hG key hb) ?_
   generalize sumK key=s at *
   have z:=app_fill (k:=s)
   have z2:=len_fill (k:=s) (by omega)
   have ht:s.take 64=s:=List.take_of_length_le (by omega)
   have hf:(fillK s).length=64:=fillK_len (by omega)
   simp only[wal,stV,seval,iteOmega,toNatUp,reduceCtorEq,ht,z,z2,hf]
   exact ret_d1 (by simp only[wal,stV,seval,iteOmega,toNatUp,reduceCtorEq,hf])
  ·have e:blkK key=fillK key:=by unfold blkK keyK; rw[if_neg h]
   rw[e]
   have z:=app_fill (k:=key)
   have z2:=len_fill (k:=key) (by omega)
   have ht:key.take 64=key:=List.take_of_length_le (by omega)
   have hf:(fillK key).length=64:=fillK_len (by omega)
   simp only[sf_blkof,putAll,wal,stV,seval,iteOmega,toNatUp,reduceCtorEq,ht,z,z2,hf]
   exact ret_d1 (by simp only[wal,stV,seval,iteOmega,toNatUp,reduceCtorEq,hf])
def maskL (l:List UInt8) (m:UInt8) (i:Nat):List UInt8:=(l.take i).map (fun b=>xorB b m)++l.drop i
theorem maskL_len (l:List UInt8) (m:UInt8) (i:Nat):(maskL l m i).length=l.length:=by
  unfold maskL; rw[List.length_append,List.length_map,← List.length_append,List.take_append_drop]
theorem maskL_get (l:List UInt8) (m:UInt8) (i:Nat) (h:i<l.length):(maskL l m i)[i]?=some l[i]:=by
  unfold maskL
  rw[List.getElem?_append_right (by rw[List.length_map,List.length_take]; omega),List.getElem?_drop,List.length_map,List.length_take]
  rw[show i+(i-min i l.length)=i by omega,List.getElem?_eq_getElem h]
theorem maskL_step (l:List UInt8) (m:UInt8) (i:Nat) (h:i<l.length):(maskL l m i).set i (xorB l[i] m)=maskL l m (i+1):=by
  unfold maskL
  rw[List.set_append_right _ _ (by rw[List.length_map,List.length_take]; omega),List.length_map,List.length_take,show i-min i l.length=0 by omega,List.drop_eq_getElem_cons h,List.set_cons_zero,List.take_succ_eq_append_getElem h,List.map_append,List.append_assoc]
  rfl
theorem maskL_zero (l:List UInt8) (m:UInt8):maskL l m 0=l:=by simp[maskL]
theorem maskL_full (l:List UInt8) (m:UInt8) (i:Nat) (h:l.length≤i):maskL l m i=l.map fun b=>xorB b m:=by
  unfold maskL
  rw[List.take_of_length_le h,List.drop_eq_nil_of_le h,List.append_nil]
def maskSt (l:List UInt8) (m:UInt8) (i:Nat):St:=⟨ofL [(1,.w (.c (.d (bD m)))),(2,.w (.c (.pa 1 1))),(6,.w (.c (.d (.int .i64 (i:Int)))))],hL [(1,.row 1 ((maskL l m i).map bD))],uL [1]⟩
def lp_masked_0:SCode :=
 .seq (.reg [oO 7 (.bin .lss (.t 6) (kI 64))])
 (.seq (.cond (.t 7) (.skip)
 (.exit 0))
 (.seq (.block 1 (.seq (.reg [oM 8 6,
 oM 5 8])
 (.reg [oM 9 5,
 oO 10 (.idxPa 1 64 (.t 2) (.t 9)),
 oO 11 (.load .sc (.t 10)),
 oM 12 1,
 oO 13 (.bin .xor (.t 11) (.t 12)),
 oO 14 (.idxPa 1 64 (.t 2) (.t 9)),
 oN (.store .sc (.t 14) (.t 13))])))
 (.reg [oO 15 (.bin .add (.t 6) (kI 1)),
 oM 6 15])))
def sf_masked:SFn:=⟨2,17,
 .seq (.reg [oO 2 (.box .ownArr (.t 0)),
 oO 4 (.mv (.k (.c .nil)))])
 (.seq (.seq (.reg [oO 6 (.mv (kI 0))])
 (.block 0 (.loop lp_masked_0)))
 (.seq (.reg [oO 16 (.sliceArr 1 64 (.t 2) none none),
 oM 4 16])
 (.ret))),
 [(4,none)]⟩
theorem cf_masked:compFn Tryz.prog { own:=[2],comp:=[],frz:=[],nils:=[] } Tryz.f78=some sf_masked:=by kernel_rfl
theorem masked_c (G:Glob) (l:List UInt8) (hl:l.length=64) (m:UInt8):Den Tryz.prog G 78 [.agg (l.map bD),bD m] (.w (.c (.fr 1 ((l.map fun b=>xorB b m).map bD)))):=by
  refine den_walk Tryz.func78 cf_masked rfl rfl ?_
  simp only[sf_masked,putAll,wal,stV,seval,iteOmega,toNatUp,reduceCtorEq]
  refine loop_st (maskSt l m) (fun i=>64-i) (fun i=>i≤64) 0 (Nat.zero_le _) ?_ ?_
  ·refine ent_l (fun _=>16) ?_ ?_ rfl rfl <;> simp only[wx,wex,wez,stV,seval,iteOmega,toNatUp,reduceCtorEq,maskL_zero]
  ·intro i hi
   have hm:=maskL_len l m i
   by_cases hlt:i<64
   ·have h1:=maskL_get l m i (by omega)
    have h2:=maskL_step l m i (by omega)
    have h3:i<(maskL l m i).length:=by omega
    simp only[lp_masked_0,maskSt,wal,stV,seval,iteOmega,toNatUp,reduceCtorEq,get_map,h1,binV_xorB,stO_bs h3 (one_b _),set_bs,h2]
    refine lop_next (i+1) (by omega) (by omega) (ent_l (fun _=>1) ?_ ?_ rfl rfl) <;> simp only[wx,wex,wez,stV,seval,iteOmega,toNatUp,reduceCtorEq]
   ·obtain rfl:i=64:=by omega
    have h1:=maskL_full l m 64 (by omega)
    simp only[lp_masked_0,maskSt,wal,stV,seval,iteOmega,toNatUp,reduceCtorEq,h1,hl]
    exact ret_own (id:=1) (n:=64) (s:=1) (by simp only[wx,stV,seval,iteOmega,toNatUp,reduceCtorEq]) (by simp only[wx,stV,seval,iteOmega,toNatUp,reduceCtorEq]) (by simp[hl])
def sf_mac:SFn:=⟨2,21,
 .seq (.reg [oO 4 (.mv (.k (.c .nil)))])
 (.seq (.reg [oM 7 0,
 oO 8 (.call 76 [(.t 7)] none),
 oO 5 (.allocArr [(.int .u8 0),(.int .u8 0),(.int .u8 0),(.int .u8 0),(.int .u8 0),(.int .u8 0),(.int .u8 0),(.int .u8 0),(.int .u8 0),(.int .u8 0),(.int .u8 0),(.int .u8 0),(.int .u8 0),(.int .u8 0),(.int .u8 0),(.int .u8 0),(.int .u8 0),(.int .u8 0),(.int .u8 0),(.int .u8 0),(.int .u8 0),(.int .u8 0),(.int .u8 0),(.int .u8 0),(.int .u8 0),(.int .u8 0),(.int .u8 0),(.int .u8 0),(.int .u8 0),(.int .u8 0),(.int .u8 0),(.int .u8 0),(.int .u8 0),(.int .u8 0),(.int .u8 0),(.int .u8 0),(.int .u8 0),(.int .u8 0),(.int .u8 0),(.int .u8 0),(.int .u8 0),(.int .u8 0),(.int .u8 0),(.int .u8 0),(.int .u8 0),(.int .u8 0),(.int .u8 0),(.int .u8 0),(.int .u8 0),(.int .u8 0),(.int .u8 0),(.int .u8 0),(.int .u8 0),(.int .u8 0),(.int .u8 0),(.int .u8 0),(.int .u8 0),(.int .u8 0),(.int .u8 0),(.int .u8 0),(.int .u8 0),(.int .u8 0),(.int .u8 0),(.int .u8 0)]),
 oN (.store (.ag 64) (.t 5) (.t 8))])
 (.seq (.reg [oO 9 (.load (.ag 64) (.t 5)),
 oO 10 (.call 78 [(.t 9),(.k (.c (.d (.int .u8 54))))] none),
 oM 11 1,
 oO 12 (.bldSl false 2 1 (.sl []) [(0,(.t 10)),(1,(.t 11))]),
 oO 13 (.call 30 [(.t 12)] none),
 oO 14 (.call 77 [(.t 13)] none),
 oM 6 14])
 (.seq (.reg [oO 15 (.load (.ag 64) (.t 5)),
 oO 16 (.call 78 [(.t 15),(.k (.c (.d (.int .u8 92))))] none),
 oM 17 6,
 oO 18 (.bldSl false 2 1 (.sl []) [(0,(.t 16)),(1,(.t 17))]),
 oO 19 (.call 30 [(.t 18)] none),
 oO 20 (.call 77 [(.t 19)] (some (0,1))),
 oM 4 20])
 (.ret)))),
 [(4,none)]⟩
theorem cf_mac:compFn Tryz.prog { own:=[20],comp:=[],frz:=[],nils:=[] } Tryz.f62=some sf_mac:=by kernel_rfl
theorem mac_c (G:Glob) (hF:G.at 0=some (.ra (firstK.map wD))) (hG:G.at 1=some (.ra (constK.map wD))) (key b:List UInt8) (hk:key.length≤140737488355328) (hb:b.length≤70368744177664):Den Tryz.prog G 62 [.sl (key.map bD),.sl (b.map bD)] (.w (.c (.fr 1 ((macK key b).map bD)))):=by
  refine den_walk Tryz.func62 cf_mac rfl rfl ?_
  have h1:=join_c G [mixK key 54,b] (by simp) (by simp[mixK_len]; omega)
  have h2:=join_c G [mixK key 92,sumK (mixK key 54++b)] (by simp) (by simp[mixK_len,sumK_len])
  have f1:[mixK key 54,b].flatten=mixK key 54++b:=by simp
  have f2:[mixK key 92,sumK (mixK key 54++b)].flatten=mixK key 92++sumK (mixK key 54++b):=by simp
  rw[f1] at h1
  rw[f2] at h2
  have hl:=blkK_len key
  have hm1:(mixK key 54++b).length≤140737488355328:=by rw[List.length_append,mixK_len]; omega
  have hm2:(mixK key 92++sumK (mixK key 54++b)).length≤140737488355328:=by rw[List.length_append,mixK_len,sumK_len]; decide
  have hs:=sumK_len (mixK key 92++sumK (mixK key 54++b))
  have hmac:macK key b=sumK (mixK key 92++sumK (mixK key 54++b)):=rfl
  rw[hmac]
  simp only[sf_mac,putAll,wal,stV,seval,iteOmega,toNatUp,reduceCtorEq]
  refine sD (blkof_c G hF hG key hk) ?_
  refine sD (masked_c G (blkK key) hl 54) ?_
  refine sD (h1) ?_
  refine sD (sum_c G hF hG _ hm1) ?_
  refine sD (masked_c G (blkK key) hl 92) ?_
  refine sD (h2) ?_
  refine sD (sum_c G hF hG _ hm2) ?_
  exact qf1
def mixS (k:List UInt8) (x:UInt8) (i:Nat):List UInt8:=((fillK k).take i).map (fun b=>xorB b x)++List.replicate (64-i) 0
theorem mixS_len {k:List UInt8} (hk:k.length≤64) (x:UInt8) (i:Nat) (hi:i≤64):(mixS k x i).length=64:=by
  unfold mixS
  rw[List.length_append,List.length_map,List.length_take,fillK_len hk,List.length_replicate]; omega
theorem mixS_get {k:List UInt8} (hk:k.length≤64) (x:UInt8) (i:Nat) (hi:i<64):(mixS k x i)[i]?=some 0:=by
  unfold mixS
  rw[List.getElem?_append_right (by rw[List.length_map,List.length_take]; omega),List.length_map,List.length_take,fillK_len hk,List.getElem?_replicate,if_pos (by omega)]
theorem mixS_step {k:List UInt8} (hk:k.length≤64) (x a:UInt8) (i:Nat) (hi:i<64) (ha:(fillK k)[i]?=some a):(mixS k x i).set i (xorB a x)=mixS k x (i+1):=by
  have h:=set_next (((fillK k).take i).map (fun b=>xorB b x)) 0 (xorB a x) (64-i) (by omega)
  have hl:(((fillK k).take i).map (fun b=>xorB b x)).length=i:=by rw[List.length_map,List.length_take,fillK_len hk]; omega
  rw[hl] at h
  unfold mixS
  rw[h,List.take_add_one,ha,List.map_append]
  rfl
theorem fill_lo (k:List UInt8) (i:Nat) (h:i<k.length):(fillK k)[i]?=some k[i]:=by
  unfold fillK
  rw[List.getElem?_append_left h,List.getElem?_eq_getElem h]
theorem fill_hi (k:List UInt8) (i:Nat) (h:k.length≤i) (h2:i<64):(fillK k)[i]?=some 0:=by
  unfold fillK
  rw[List.getElem?_append_right h,List.getElem?_replicate,if_pos (by omega)]
theorem mixS_zero (k:List UInt8) (x:UInt8):mixS k x 0=List.replicate 64 0:=by simp[mixS]
theorem mixS_full {k:List UInt8} (hk:k.length≤64) (x:UInt8):mixS k x 64=(fillK k).map fun b=>xorB b x:=by
  unfold mixS
  rw[List.take_of_length_le (by rw[fillK_len hk]; exact Nat.le_refl _),Nat.sub_self,List.replicate_zero,List.append_nil]
def mixSt (k:List UInt8) (x:UInt8) (i:Nat):St:=⟨ofL [(0,.w (.c (.d (.sl (k.map bD))))),(1,.w (.c (.d (bD x)))),(5,.w (.c (.own 1 1 0 64))),(6,.w (.c (.d (.int .i64 (i:Int)))))],hL [(1,.row 1 ((mixS k x i).map bD))],uL [1]⟩
def lp_mixed_0:SCode :=
 .seq (.seq (.reg [oM 13 6,
 oO 14 (.bin .lss (.t 13) (kI 64))])
 (.cond (.t 14) (.skip)
 (.exit 0)))
 (.seq (.block 1 (.seq (.seq (.reg [oM 17 6,
 oM 18 0,
 oO 19 (.len (.t 18)),
 oO 20 (.bin .lss (.t 17) (.t 19))])
 (.cond (.t 20) (.reg [oM 21 5,
 oM 22 6,
 oM 23 0,
 oM 24 6,
 oO 25 (.idxSl 1 (.t 23) (.t 24)),
 oO 26 (.load .sc (.t 25)),
 oO 27 (.idxSl 1 (.t 21) (.t 22)),
 oN (.store .sc (.t 27) (.t 26))])
 (.skip)))
 (.reg [oM 28 5,
 oM 29 6,
 oM 30 5,
 oM 31 6,
 oO 32 (.idxSl 1 (.t 30) (.t 31)),
 oO 33 (.load .sc (.t 32)),
 oM 34 1,
 oO 35 (.bin .xor (.t 33) (.t 34)),
 oO 36 (.idxSl 1 (.t 28) (.t 29)),
 oN (.store .sc (.t 36) (.t 35))])))
 (.reg [oM 15 6,
 oO 16 (.bin .add (.t 15) (kI 1)),
 oM 6 16]))
def sf_mixed:SFn:=⟨2,38,
 .seq (.reg [oO 4 (.mv (.k (.c .nil)))])
 (.seq (.seq (.reg [oM 7 0,
 oO 8 (.len (.t 7)),
 oO 9 (.bin .gtr (.t 8) (kI 64))])
 (.cond (.t 9) (.reg [oM 10 0,
 oO 11 (.call 43 [(.t 10)] none),
 oM 0 11])
 (.skip)))
 (.seq (.reg [oO 12 (.make true 1 1 (.int .u8 0) (kI 64) (kI 64)),
 oM 5 12])
 (.seq (.seq (.reg [oO 6 (.mv (kI 0))])
 (.block 0 (.loop lp_mixed_0)))
 (.seq (.reg [oM 37 5,
 oM 4 37])
 (.ret))))),
 [(4,none)]⟩
theorem cf_mixed:compFn Tryz.prog { own:=[],comp:=[],frz:=[],nils:=[] } Tryz.f63=some sf_mixed:=by kernel_rfl
theorem mixed_l (G:Glob) (k:List UInt8) (hk:k.length≤64) (x:UInt8) (Q:AX→St→Prop) (σ:St) (he:Ent σ (mixSt k x 0)) (hq:∀ f,f 5=.w (.c (.own 1 1 0 64))→Q (.ex 0) ⟨f,hL [(1,.row 1 (((fillK k).map fun b=>xorB b x).map bD))],uL [1]⟩):awp Tryz.prog G (.loop lp_mixed_0) Q σ:=by
  refine loop_st (mixSt k x) (fun i=>64-i) (fun i=>i≤64) 0 (Nat.zero_le _) he ?_
  intro i hi
  have hl:=mixS_len hk x i hi
  by_cases hlt:i<64
  ·have h1:=mixS_get hk x i hlt
   have h3:i<(mixS k x i).length:=by omega
   by_cases hkl:i<k.length
   ·have h2:=mixS_step hk x k[i] i hlt (fill_lo k i hkl)
    have e2:k[i]?=some k[i]:=List.getElem?_eq_getElem hkl
    have h4:((mixS k x i).set i k[i])[i]?=some k[i]:=by rw[List.getElem?_set_self h3]
    have h5:i<((mixS k x i).set i k[i]).length:=by rw[List.length_set]; exact h3
    simp only[lp_mixed_0,mixSt,wal,stV,seval,iteOmega,toNatUp,reduceCtorEq,get_map,h1,e2,stO_bs h3 (one_b _),set_bs,h4,stO_bs h5 (one_b _),List.set_set,h2]
    refine lop_next (i+1) (by omega) (by omega) (ent_l (fun _=>1) ?_ ?_ rfl rfl) <;> simp only[wx,wex,wez,stV,seval,iteOmega,toNatUp,reduceCtorEq]
   ·have h2:=mixS_step hk x 0 i hlt (fill_hi k i (by omega) hlt)
    simp only[lp_mixed_0,mixSt,wal,stV,seval,iteOmega,toNatUp,reduceCtorEq,get_map,h1,stO_bs h3 (one_b _),set_bs,h2]
    refine lop_next (i+1) (by omega) (by omega) (ent_l (fun _=>1) ?_ ?_ rfl rfl) <;> simp only[wx,wex,wez,stV,seval,iteOmega,toNatUp,reduceCtorEq]
  ·obtain rfl:i=64:=by omega
   simp only[lp_mixed_0,mixSt,wal,stV,seval,iteOmega,toNatUp,reduceCtorEq,mixS_full hk x]
   exact hq _ (by simp only[wal,stV,seval,iteOmega,toNatUp,reduceCtorEq])
theorem mixed_c (G:Glob) (key:List UInt8) (hb:key.length≤140737488355328) (x:UInt8):Den Tryz.prog G 63 [.sl (key.map bD),bD x] (.w (.c (.fr 1 ((mixK key x).map bD)))):=by
  refine den_walk Tryz.func63 cf_mixed rfl rfl ?_
  by_cases h:64<key.length
  ·have e:mixK key x=(fillK (sumK key)).map fun b=>xorB b x:=by unfold mixK blkK keyK; rw[if_pos h]
   have hl:=sumK_len key
   rw[e]
   simp only[sf_mixed,putAll,wal,stV,seval,iteOmega,toNatUp,reduceCtorEq]
   refine sD (rsum_c G key hb) ?_
   generalize sumK key=s at *
   refine mixed_l G s (by omega) x _ _ (ent_l (fun _=>96) ?_ ?_ rfl rfl) fun f hf=>?_
   ·simp only[wx,wex,wez,stV,seval,iteOmega,toNatUp,reduceCtorEq]
   ·simp only[wx,wex,wez,stV,seval,iteOmega,toNatUp,reduceCtorEq,mixS_zero]
    rfl
   ·simp only[wal,stV,seval,iteOmega,toNatUp,reduceCtorEq,hf]
    exact ret_own (id:=1) (n:=64) (s:=1) (by simp only[wx,stV,seval,iteOmega,toNatUp,reduceCtorEq,hf]) (by simp only[wx,stV,seval,iteOmega,toNatUp,reduceCtorEq]) (by rw[List.length_map,List.length_map,fillK_len (by omega)])
  ·have e:mixK key x=(fillK key).map fun b=>xorB b x:=by unfold mixK blkK keyK; rw[if_neg h]
   rw[e]
   simp only[sf_mixed,putAll,wal,stV,seval,iteOmega,toNatUp,reduceCtorEq]
   refine mixed_l G key (by omega) x _ _ (ent_l (fun _=>96) ?_ ?_ rfl rfl) fun f hf=>?_
   ·simp only[wx,wex,wez,stV,seval,iteOmega,toNatUp,reduceCtorEq]
   ·simp only[wx,wex,wez,stV,seval,iteOmega,toNatUp,reduceCtorEq,mixS_zero]
    rfl
   ·simp only[wal,stV,seval,iteOmega,toNatUp,reduceCtorEq,hf]
    exact ret_own (id:=1) (n:=64) (s:=1) (by simp only[wx,stV,seval,iteOmega,toNatUp,reduceCtorEq,hf]) (by simp only[wx,stV,seval,iteOmega,toNatUp,reduceCtorEq]) (by rw[List.length_map,List.length_map,fillK_len (by omega)])
end Go.Proofs.YtpbmdbahkpfkdaaGreatDoor
namespace Go.Proofs.YtpbmdbahkpfkdaaGreatDoor
open Go.RowKit IntWalk
set_option maxHeartbeats 1600000
def sf_rmac:SFn:=⟨2,16,
 .seq (.reg [oO 4 (.mv (.k (.c .nil)))])
 (.seq (.reg [oM 5 0,
 oO 6 (.call 63 [(.t 5),(.k (.c (.d (.int .u8 92))))] none),
 oM 7 0,
 oO 8 (.call 63 [(.t 7),(.k (.c (.d (.int .u8 54))))] none),
 oM 9 1,
 oO 10 (.bldSl false 2 1 (.sl []) [(0,(.t 8)),(1,(.t 9))]),
 oO 11 (.call 31 [(.t 10)] none),
 oO 12 (.call 43 [(.t 11)] none),
 oO 13 (.bldSl false 2 1 (.sl []) [(0,(.t 6)),(1,(.t 12))]),
 oO 14 (.call 31 [(.t 13)] none),
 oO 15 (.call 43 [(.t 14)] (some (0,1))),
 oM 4 15])
 (.ret)),
 [(4,none)]⟩
theorem cf_rmac:compFn Tryz.prog { own:=[15],comp:=[],frz:=[],nils:=[] } Tryz.f46=some sf_rmac:=by kernel_rfl
theorem rmac_c (G:Glob) (key b:List UInt8) (hk:key.length≤140737488355328) (hb:b.length≤70368744177664):Den Tryz.prog G 46 [.sl (key.map bD),.sl (b.map bD)] (.w (.c (.fr 1 ((macK key b).map bD)))):=by
  refine den_walk Tryz.func46 cf_rmac rfl rfl ?_
  have h1:=rjoin_c G [mixK key 54,b] (by simp) (by simp[mixK_len]; omega)
  have h2:=rjoin_c G [mixK key 92,sumK (mixK key 54++b)] (by simp) (by simp[mixK_len,sumK_len])
  have f1:[mixK key 54,b].flatten=mixK key 54++b:=by simp
  have f2:[mixK key 92,sumK (mixK key 54++b)].flatten=mixK key 92++sumK (mixK key 54++b):=by simp
  rw[f1] at h1
  rw[f2] at h2
  have hm1:(mixK key 54++b).length≤140737488355328:=by rw[List.length_append,mixK_len]; omega
  have hm2:(mixK key 92++sumK (mixK key 54++b)).length≤140737488355328:=by rw[List.length_append,mixK_len,sumK_len]; decide
  have hs:=sumK_len (mixK key 92++sumK (mixK key 54++b))
  have hmac:macK key b=sumK (mixK key 92++sumK (mixK key 54++b)):=rfl
  rw[hmac]
  simp only[sf_rmac,putAll,wal,stV,seval,iteOmega,toNatUp,reduceCtorEq]
  refine sD (mixed_c G key hk 92) ?_
  refine sD (mixed_c G key hk 54) ?_
  refine sD (h1) ?_
  refine sD (rsum_c G _ hm1) ?_
  refine sD (h2) ?_
  refine sD (rsum_c G _ hm2) ?_
  exact qf1
def expE (n:Int):Int:=if 0≤n∧n≤8160 then 0 else 4
def expL (key info:List UInt8) (n:Int):List UInt8:=if 0≤n∧n≤8160 then expK key info n.toNat else []
theorem expE_in {n:Int} (h:0≤n∧n≤8160):expE n=0:=if_pos h
theorem expL_in (key info:List UInt8) {n:Int} (h:0≤n∧n≤8160):expL key info n=expK key info n.toNat:=if_pos h
theorem expE_out {n:Int} (h:¬ (0≤n∧n≤8160)):expE n=4:=if_neg h
theorem expL_out (key info:List UInt8) {n:Int} (h:¬ (0≤n∧n≤8160)):expL key info n=[]:=if_neg h
def cutA (key info:List UInt8) (n i:Nat):List UInt8:=(allK key info i).take n
theorem cutA_len (key info:List UInt8) (n i:Nat):(cutA key info n i).length=min n (32*i):=by
  unfold cutA; rw[List.length_take,allK_len]
theorem cutA_step (key info:List UInt8) (n i:Nat) (h:32*i≤n):cutA key info n i++(partK key info (i+1)).take (n-32*i)=cutA key info n (i+1):=by
  unfold cutA
  rw[allK,List.take_append,allK_len]
theorem part_next (key info:List UInt8) (i:Nat):macK key (partK key info i++info++[UInt8.ofNat (i+1)])=partK key info (i+1):=rfl
theorem put1 (v:Nat):putL v 1=[UInt8.ofNat v]:=by simp[putL]
def partV (key info:List UInt8):Nat→V
  | 0=>.w (.c .nil)
  | i+1=>.w (.c (.d (.sl ((partK key info (i+1)).map bD))))
theorem min_two (a b:Nat):List.foldl (fun x y:Int=>if y<x then y else x) (a:Int) [(b:Int)]=((min a b:Nat):Int):=by
  simp only[List.foldl_cons,List.foldl_nil]
  split <;> omega
def expSt (key info:List UInt8) (n i:Nat):St:=⟨ofL [(0,.w (.c (.d (.sl (key.map bD))))),(1,.w (.c (.d (.sl (info.map bD))))),(2,.w (.c (.d (.int .i64 (n:Int))))),(8,.w (.c (.own 1 1 0 (cutA key info n i).length))),(9,partV key info i),(10,.w (.c (.d (.int .u64 ((i+1:Nat):Int)))))],hL [(1,.row 1 ((cutA key info n i).map bD))],uL [1]⟩
def lp_exp_0:SCode :=
 .seq (.seq (.reg [oM 19 8,
 oO 20 (.len (.t 19)),
 oM 21 2,
 oO 22 (.bin .lss (.t 20) (.t 21))])
 (.cond (.t 22) (.skip)
 (.exit 0)))
 (.seq (.block 1 (.seq (.reg [oM 25 0,
 oM 26 9,
 oM 27 1,
 oM 28 10,
 oO 29 (.call 32 [(.t 28),(kI 1)] none),
 oO 30 (.bldSl false 3 1 (.sl []) [(0,(.t 26)),(1,(.t 27)),(2,(.t 29))]),
 oO 31 (.call 30 [(.t 30)] none),
 oO 32 (.call 62 [(.t 25),(.t 31)] none),
 oM 9 32])
 (.reg [oM 33 8,
 oM 34 9,
 oM 35 9,
 oO 36 (.len (.t 35)),
 oM 37 2,
 oM 38 8,
 oO 39 (.len (.t 38)),
 oO 40 (.bin .sub (.t 37) (.t 39)),
 oO 41 (.min [(.t 36),(.t 40)]),
 oO 42 (.slice 1 (.t 34) none (some (.t 41)) none),
 oO 43 (.app false 1 1 (.t 33) (.t 42)),
 oM 8 43])))
 (.reg [oM 23 10,
 oO 24 (.bin .add (.t 23) (.k (.c (.d (.int .u64 1))))),
 oM 10 24]))
def sf_exp:SFn:=⟨3,45,
 .seq (.reg [oO 6 (.mv (.k (.c .nil))),
 oO 7 (.mv (kI 0))])
 (.seq (.seq (.reg [oM 11 2,
 oO 12 (.bin .lss (.t 11) (kI 0)),
 oM 13 12,
 oG 14 (.mv (.t 2)) 13 false,
 oG 15 (.bin .gtr (.t 14) (kI 8160)) 13 false,
 oO 16 (.pick (.t 13) (.k (.c (.d (.bool true)))) (.t 15))])
 (.cond (.t 16) (.seq (.reg [oO 6 (.mv (.k (.c .nil))),
 oO 7 (.mv (kI 4))])
 (.ret))
 (.skip)))
 (.seq (.reg [oM 17 2,
 oO 18 (.make true 1 1 (.int .u8 0) (kI 0) (.t 17)),
 oM 8 18])
 (.seq (.reg [oO 9 (.mv (.k (.c .nil)))])
 (.seq (.seq (.reg [oO 10 (.mv (.k (.c (.d (.int .u64 1)))))])
 (.block 0 (.loop lp_exp_0)))
 (.seq (.reg [oM 44 8,
 oM 6 44,
 oO 7 (.mv (kI 0))])
 (.ret)))))),
 [(6,none),(7,none)]⟩
theorem cf_exp:compFn Tryz.prog { own:=[],comp:=[],frz:=[],nils:=[] } Tryz.f45=some sf_exp:=by kernel_rfl
theorem exp_c (G:Glob) (hF:G.at 0=some (.ra (firstK.map wD))) (hG:G.at 1=some (.ra (constK.map wD))) (key info:List UInt8) (hk:key.length≤140737488355328) (hb:info.length≤35184372088832) (n:Int) (hn1:-9223372036854775808≤n) (hn2:n≤9223372036854775807):Den Tryz.prog G 45 [.sl (key.map bD),.sl (info.map bD),.int .i64 n] (.tup [.c (.d (.sl ((expL key info n).map bD))),.c (.d (.int .i64 (expE n)))]):=by
  refine den_walk Tryz.func45 cf_exp rfl rfl ?_
  by_cases h0:n<0
  ·have hc:¬ (0≤n∧n≤8160):=by omega
   rw[expE_out hc,expL_out key info hc]
   simp only[sf_exp,putAll,wal,stV,seval,iteOmega,toNatUp,reduceCtorEq]
   exact qd2
  ·by_cases h1:8160<n
   ·have hc:¬ (0≤n∧n≤8160):=by omega
    rw[expE_out hc,expL_out key info hc]
    simp only[sf_exp,putAll,wal,stV,seval,iteOmega,toNatUp,reduceCtorEq]
    exact qd2
   ·have hc:0≤n∧n≤8160:=by omega
    rw[expE_in hc,expL_in key info hc]
    obtain⟨m,rfl⟩:=Int.eq_ofNat_of_zero_le hc.1
    rw[Int.toNat_natCast]
    simp only[sf_exp,putAll,wal,stV,seval,iteOmega,toNatUp,reduceCtorEq]
    refine loop_st (expSt key info m) (fun i=>(m+31) / 32-i) (fun i=>i≤(m+31) / 32) 0 (Nat.zero_le _) ?_ ?_
    ·refine ent_l (fun _=>144) ?_ ?_ rfl rfl <;> simp only[wx,wex,wez,stV,seval,iteOmega,toNatUp,reduceCtorEq,cutA,allK,partV]
    ·intro i hi
     have hl:=cutA_len key info m i
     have hp:=partK_len key info i
     by_cases hlt:i<(m+31) / 32
     ·have h32:32*i≤m:=by omega
      have hl:(cutA key info m i).length=32*i:=by omega
      have hj:=join_c G [partK key info i,info,putL (i+1) 1] (by simp) (by simp[putL_length]; omega)
      have hf:[partK key info i,info,putL (i+1) 1].flatten=partK key info i++info++[UInt8.ofNat (i+1)]:=by simp[put1]
      rw[hf] at hj
      have hm:=mac_c G hF hG key (partK key info i++info++[UInt8.ofNat (i+1)]) hk (by simp; omega)
      rw[part_next] at hm
      have hl2:(partK key info (i+1)).length=32:=macK_len _ _
      have hs:=cutA_step key info m i h32
      have hs2:=cutA_len key info m (i+1)
      have hmin:=min_two 32 (m-32*i)
      rw[show ((m-32*i:Nat):Int)=(m:Int)-32*(i:Int) by omega] at hmin
      have hs':cutA key info m i++(partK key info (i+1)).take (min 32 (m-32*i))=cutA key info m (i+1):=by
        rw[← hs]; congr 1
        rw[Nat.min_comm,← List.take_take,List.take_of_length_le (l:=partK key info (i+1)) (by omega)]
      have hlt2:((cutA key info m i).length:Int)<(m:Int):=by omega
      have hmm:min 32 (m-32*i)≤32:=by omega
      have hml:((partK key info (i+1)).take (min 32 (m-32*i))).length=min 32 (m-32*i):=by rw[List.length_take,hl2]; omega
      have hcl:(cutA key info m (i+1)).length=32*i+min 32 (m-32*i):=by omega
      generalize hq:min 32 (m-32*i)=q at *
      rcases i with _ | i
      ·simp only[Int.cast_ofNat_Int,Int.natCast_add,Int.natCast_one,Int.natCast_zero,Int.mul_zero,Int.sub_zero,Nat.mul_zero,Nat.zero_add] at hmin hl hl2 hs' hml hcl
       simp only[lp_exp_0,expSt,partV,wal,stV,seval,iteOmega,toNatUp,reduceCtorEq]
       refine sD (put_in G (0+1) 1 (by decide)) ?_
       refine sD (hj) ?_
       refine sD (hm) ?_
       simp only[wal,stV,seval,iteOmega,toNatUp,reduceCtorEq,hl2,hl,hmin,hml,hs',srcV,Int.sub_zero]
       refine lop_next (0+1) (by omega) (by omega) (ent_l (fun _=>344) ?_ ?_ rfl rfl) <;> simp only[wx,wex,wez,stV,seval,iteOmega,toNatUp,reduceCtorEq,partV,hcl]
      ·simp only[Int.cast_ofNat_Int,Int.natCast_add,Int.natCast_one,Int.natCast_zero] at hmin
       simp only[lp_exp_0,expSt,partV,wal,stV,seval,iteOmega,toNatUp,reduceCtorEq]
       refine sD (put_in G (i+1+1) 1 (by decide)) ?_
       refine sD (hj) ?_
       refine sD (hm) ?_
       simp only[wal,stV,seval,iteOmega,toNatUp,reduceCtorEq,hl2,hl,hmin,hml,hs',srcV]
       refine lop_next (i+1+1) (by omega) (by omega) (ent_l (fun _=>344) ?_ ?_ rfl rfl) <;> simp only[wx,wex,wez,stV,seval,iteOmega,toNatUp,reduceCtorEq,partV,hcl]
     ·obtain rfl:i=(m+31) / 32:=by omega
      have hlt2:¬ ((cutA key info m ((m+31) / 32)).length:Int)<(m:Int):=by omega
      have he:cutA key info m ((m+31) / 32)=expK key info m:=rfl
      rw[he] at hlt2
      simp only[lp_exp_0,expSt,wal,stV,seval,iteOmega,toNatUp,reduceCtorEq,he]
      exact qd2
def rexpSt (key info:List UInt8) (n i:Nat):St:=⟨ofL [(0,.w (.c (.d (.sl (key.map bD))))),(1,.w (.c (.d (.sl (info.map bD))))),(2,.w (.c (.d (.int .i64 (n:Int))))),(8,.w (.c (.own 1 1 0 (allK key info i).length))),(9,partV key info i),(10,.w (.c (.d (.int .i64 ((i+1:Nat):Int)))))],hL [(1,.row 1 ((allK key info i).map bD))],uL [1]⟩
def lp_rexp_0:SCode :=
 .seq (.seq (.reg [oM 19 8,
 oO 20 (.len (.t 19)),
 oM 21 2,
 oO 22 (.bin .lss (.t 20) (.t 21))])
 (.cond (.t 22) (.skip)
 (.exit 0)))
 (.seq (.block 1 (.seq (.reg [oM 25 0,
 oM 26 9,
 oM 27 1,
 oM 28 10,
 oO 29 (.conv .u8 (.t 28)),
 oO 30 (.bldSl false 1 1 (.int .u8 0) [(0,(.t 29))]),
 oO 31 (.bldSl false 3 1 (.sl []) [(0,(.t 26)),(1,(.t 27)),(2,(.t 30))]),
 oO 32 (.call 31 [(.t 31)] none),
 oO 33 (.call 46 [(.t 25),(.t 32)] none),
 oM 9 33])
 (.reg [oM 34 8,
 oM 35 9,
 oO 36 (.app false 1 1 (.t 34) (.t 35)),
 oM 8 36])))
 (.reg [oM 23 10,
 oO 24 (.bin .add (.t 23) (kI 1)),
 oM 10 24]))
def sf_rexp:SFn:=⟨3,40,
 .seq (.reg [oO 6 (.mv (.k (.c .nil))),
 oO 7 (.mv (kI 0))])
 (.seq (.seq (.reg [oM 11 2,
 oO 12 (.bin .lss (.t 11) (kI 0)),
 oM 13 12,
 oG 14 (.mv (.t 2)) 13 false,
 oG 15 (.bin .gtr (.t 14) (kI 8160)) 13 false,
 oO 16 (.pick (.t 13) (.k (.c (.d (.bool true)))) (.t 15))])
 (.cond (.t 16) (.seq (.reg [oO 6 (.mv (.k (.c .nil))),
 oO 7 (.mv (kI 4))])
 (.ret))
 (.skip)))
 (.seq (.reg [oO 17 (.bldSl true 0 1 (.int .u8 0) []),
 oO 18 (.bldSl false 0 1 (.int .u8 0) []),
 oM 8 17,
 oM 9 18])
 (.seq (.seq (.reg [oO 10 (.mv (kI 1))])
 (.block 0 (.loop lp_rexp_0)))
 (.seq (.reg [oM 37 8,
 oM 38 2,
 oO 39 (.slice 1 (.t 37) none (some (.t 38)) none),
 oM 6 39,
 oO 7 (.mv (kI 0))])
 (.ret))))),
 [(6,none),(7,none)]⟩
theorem cf_rexp:compFn Tryz.prog { own:=[17],comp:=[],frz:=[],nils:=[] } Tryz.f29=some sf_rexp:=by kernel_rfl
theorem rexp_c (G:Glob) (key info:List UInt8) (hk:key.length≤140737488355328) (hb:info.length≤35184372088832) (n:Int) (hn1:-9223372036854775808≤n) (hn2:n≤9223372036854775807):Den Tryz.prog G 29 [.sl (key.map bD),.sl (info.map bD),.int .i64 n] (.tup [.c (.d (.sl ((expL key info n).map bD))),.c (.d (.int .i64 (expE n)))]):=by
  refine den_walk Tryz.func29 cf_rexp rfl rfl ?_
  by_cases h0:n<0
  ·have hc:¬ (0≤n∧n≤8160):=by omega
   rw[expE_out hc,expL_out key info hc]
   simp only[sf_rexp,putAll,wal,stV,seval,iteOmega,toNatUp,reduceCtorEq]
   exact qd2
  ·by_cases h1:8160<n
   ·have hc:¬ (0≤n∧n≤8160):=by omega
    rw[expE_out hc,expL_out key info hc]
    simp only[sf_rexp,putAll,wal,stV,seval,iteOmega,toNatUp,reduceCtorEq]
    exact qd2
   ·have hc:0≤n∧n≤8160:=by omega
    rw[expE_in hc,expL_in key info hc]
    obtain⟨m,rfl⟩:=Int.eq_ofNat_of_zero_le hc.1
    rw[Int.toNat_natCast]
    simp only[sf_rexp,putAll,wal,stV,seval,iteOmega,toNatUp,reduceCtorEq]
    refine loop_st (rexpSt key info m) (fun i=>(m+31) / 32-i) (fun i=>i≤(m+31) / 32) 0 (Nat.zero_le _) ?_ ?_
    ·refine ent_l (fun _=>136) ?_ ?_ rfl rfl <;> simp only[wx,wex,wez,stV,seval,iteOmega,toNatUp,reduceCtorEq,allK,partV]
    ·intro i hi
     have hl:=allK_len key info i
     have hp:=partK_len key info i
     by_cases hlt:i<(m+31) / 32
     ·have hj:=rjoin_c G [partK key info i,info,[UInt8.ofNat (i+1)]] (by simp) (by simp; omega)
      have hf:[partK key info i,info,[UInt8.ofNat (i+1)]].flatten=partK key info i++info++[UInt8.ofNat (i+1)]:=by simp
      rw[hf] at hj
      have hm:=rmac_c G key (partK key info i++info++[UInt8.ofNat (i+1)]) hk (by simp; omega)
      rw[part_next] at hm
      have hl2:(partK key info (i+1)).length=32:=macK_len _ _
      have hs':allK key info i++partK key info (i+1)=allK key info (i+1):=rfl
      have hcl:(allK key info (i+1)).length=32*i+32:=by rw[allK_len]; omega
      rcases i with _ | i
      ·simp only[Int.cast_ofNat_Int,Int.natCast_add,Int.natCast_one,Int.natCast_zero,Int.mul_zero,Int.sub_zero,Nat.mul_zero,Nat.zero_add] at hl hl2 hs' hcl
       simp only[lp_rexp_0,rexpSt,partV,wal,stV,seval,iteOmega,toNatUp,reduceCtorEq]
       refine sD (hj) ?_
       refine sD (hm) ?_
       simp only[wal,stV,seval,iteOmega,toNatUp,reduceCtorEq,hl2,hl,hs',srcV,Int.sub_zero]
       refine lop_next (0+1) (by omega) (by omega) (ent_l (fun _=>288) ?_ ?_ rfl rfl) <;> simp only[wx,wex,wez,stV,seval,iteOmega,toNatUp,reduceCtorEq,partV,hcl]
      ·have hby:D.int .u8 ((i:Int)+1+1)=bD (UInt8.ofNat (i+1+1)):=by rw[← byte_of,IntWalk.u8_in _ (by omega)]; rfl
       simp only[lp_rexp_0,rexpSt,partV,wal,stV,seval,iteOmega,toNatUp,reduceCtorEq,hby]
       refine sD (hj) ?_
       refine sD (hm) ?_
       simp only[wal,stV,seval,iteOmega,toNatUp,reduceCtorEq,hl2,hl,hs',srcV]
       refine lop_next (i+1+1) (by omega) (by omega) (ent_l (fun _=>288) ?_ ?_ rfl rfl) <;> simp only[wx,wex,wez,stV,seval,iteOmega,toNatUp,reduceCtorEq,partV,hcl]
     ·obtain rfl:i=(m+31) / 32:=by omega
      have he:(allK key info ((m+31) / 32)).take m=expK key info m:=rfl
      have hle:m≤(allK key info ((m+31) / 32)).length:=by omega
      simp only[lp_rexp_0,rexpSt,wal,stV,seval,iteOmega,toNatUp,reduceCtorEq]
      exact ret_d2 (by simp only[wal,stV,seval,iteOmega,toNatUp,reduceCtorEq,he]) (by simp only[wal,stV,seval,iteOmega,toNatUp,reduceCtorEq])
end Go.Proofs.YtpbmdbahkpfkdaaGreatDoor
namespace Go.Proofs.YtpbmdbahkpfkdaaGreatDoor
open Go.RowKit IntWalk
def chgI (b:List UInt8) (at':Int):Nat:=(withinN at' b.length).toNat
def chgB (by':Int):UInt8:=UInt8.ofNat (1+(withinN by' 255).toNat)
def changedL (b:List UInt8) (at' by':Int):List UInt8:=b.set (chgI b at') (xorB (b.getD (chgI b at') 0) (chgB by'))
theorem changedL_len (b:List UInt8) (at' by':Int):(changedL b at' by').length=b.length:=List.length_set
theorem chgI_lt {b:List UInt8} (h:0<b.length) (at':Int):chgI b at'<b.length:=by
  have:=withinN_range at' b.length (by omega)
  unfold chgI; omega
def sf_chg:SFn:=⟨3,25,
 .seq (.reg [oO 6 (.mv (.k (.c .nil)))])
 (.seq (.reg [oM 8 0,
 oO 9 (.bldSl false 1 1 (.sl []) [(0,(.t 8))]),
 oO 10 (.call 31 [(.t 9)] (some (0,1))),
 oM 7 10])
 (.seq (.reg [oM 11 7,
 oM 12 1,
 oM 13 7,
 oO 14 (.len (.t 13)),
 oO 15 (.call 23 [(.t 12),(.t 14)] none),
 oO 16 (.idxSl 1 (.t 11) (.t 15)),
 oO 17 (.load .sc (.t 16)),
 oM 18 2,
 oO 19 (.call 23 [(.t 18),(kI 255)] none),
 oO 20 (.bin .add (kI 1) (.t 19)),
 oO 21 (.conv .u8 (.t 20)),
 oO 22 (.bin .xor (.t 17) (.t 21)),
 oO 23 (.idxSl 1 (.t 11) (.t 15)),
 oN (.store .sc (.t 23) (.t 22))])
 (.seq (.reg [oM 24 7,
 oM 6 24])
 (.ret)))),
 [(6,none)]⟩
theorem cf_chg:compFn Tryz.prog { own:=[10],comp:=[],frz:=[],nils:=[] } Tryz.f26=some sf_chg:=by kernel_rfl
set_option maxHeartbeats 1600000 in
theorem chg_c (G:Glob) (b:List UInt8) (at' by':Int) (h:0<b.length) (hb:b.length≤140737488355328):Den Tryz.prog G 26 [.sl (b.map bD),.int .i64 at',.int .i64 by'] (.w (.c (.fr 1 ((changedL b at' by').map bD)))):=by
  refine den_walk Tryz.func26 cf_chg rfl rfl ?_
  have hj:=rjoin_c G [b] (by simp) (by simp; omega)
  have hf:[b].flatten=b:=by simp
  rw[hf] at hj
  have hw:=withinN_range at' b.length (by omega)
  have hw2:=withinN_range by' 255 (by decide)
  have hi:=chgI_lt h at'
  have ei:((chgI b at':Nat):Int)=withinN at' b.length:=by unfold chgI; omega
  have eb:bD (chgB by')=.int .u8 (1+withinN by' 255):=by
    unfold chgB
    rw[bD_ofNat (by omega)]
    congr 1; omega
  have g1:b[chgI b at']?=some (b.getD (chgI b at') 0):=by rw[List.getD_eq_getElem?_getD,List.getElem?_eq_getElem hi]; rfl
  have x1:=binV_xorB (b.getD (chgI b at') 0) (chgB by')
  rw[eb] at x1
  have hs:b.set (chgI b at') (xorB (b.getD (chgI b at') 0) (chgB by'))=changedL b at' by':=rfl
  have e1:=within_c G at' b.length (by omega)
  have e2:=within_c G by' 255 (by decide)
  rw[← ei] at e1 hw
  generalize withinN by' 255=y at *
  generalize chgI b at'=i at *
  simp only[sf_chg,putAll,wal,stV,seval,iteOmega,toNatUp,reduceCtorEq]
  refine sD (hj) ?_
  refine sC (e1) ?_
  simp only[get_map,g1,wal,stV,seval,iteOmega,toNatUp,reduceCtorEq]
  refine sC (e2) ?_
  simp only[x1,stO_bs hi (one_b _),set_bs,hs,wal,stV,seval,iteOmega,toNatUp,reduceCtorEq]
  exact ret_own (id:=80) (n:=b.length) (s:=1) (by simp only[wx,stV,seval,iteOmega,toNatUp,reduceCtorEq]) (by simp only[wx,stV,seval,iteOmega,toNatUp,reduceCtorEq]) (by simp[changedL_len])
def sf_wkey:SFn:=⟨1,5,
 .seq (.reg [oO 2 (.mv (.k (.c .nil)))])
 (.seq (.reg [oM 3 0,
 oO 4 (.call 25 [(.t 3),(kI 32)] none),
 oM 2 4])
 (.ret)),
 [(2,none)]⟩
theorem cf_wkey:compFn Tryz.prog { own:=[],comp:=[],frz:=[],nils:=[] } Tryz.f42=some sf_wkey:=by kernel_rfl
theorem wkey_c (G:Glob) (seed:Int):Den Tryz.prog G 42 [.int .i64 seed] (.w (.c (.d (.sl ((bytesK seed 32).map bD))))):=by
  refine den_walk Tryz.func42 cf_wkey rfl rfl ?_
  simp only[sf_wkey,putAll,wal,stV,seval,iteOmega,toNatUp,reduceCtorEq]
  refine sD (wbytes_c G seed 32 (by decide)) ?_
  exact qd1
end Go.Proofs.YtpbmdbahkpfkdaaGreatDoor
namespace Go.Proofs.YtpbmdbahkpfkdaaGreatDoor
open Go.RowKit IntWalk
def sf_cut:SFn:=⟨2,25,
 .seq (.reg [oO 4 (.mv (.k (.c .nil))),
 oO 5 (.mv (.k (.c .nil))),
 oO 6 (.mv (.k (.c (.d (.bool false)))))])
 (.seq (.seq (.reg [oM 7 1,
 oO 8 (.bin .lss (.t 7) (kI 0)),
 oM 9 8,
 oG 10 (.mv (.t 1)) 9 false,
 oG 11 (.mv (.t 0)) 9 false,
 oG 12 (.len (.t 11)) 9 false,
 oG 13 (.bin .gtr (.t 10) (.t 12)) 9 false,
 oO 14 (.pick (.t 9) (.k (.c (.d (.bool true)))) (.t 13))])
 (.cond (.t 14) (.seq (.reg [oO 4 (.mv (.k (.c .nil))),
 oO 5 (.mv (.k (.c .nil))),
 oO 6 (.mv (.k (.c (.d (.bool false)))))])
 (.ret))
 (.skip)))
 (.seq (.reg [oM 15 0,
 oM 16 1,
 oO 17 (.slice 1 (.t 15) none (some (.t 16)) none),
 oO 18 (.bldSl false 1 1 (.sl []) [(0,(.t 17))]),
 oO 19 (.call 30 [(.t 18)] none),
 oM 20 0,
 oM 21 1,
 oO 22 (.slice 1 (.t 20) (some (.t 21)) none none),
 oO 23 (.bldSl false 1 1 (.sl []) [(0,(.t 22))]),
 oO 24 (.call 30 [(.t 23)] none),
 oM 4 19,
 oM 5 24,
 oO 6 (.mv (.k (.c (.d (.bool true)))))])
 (.ret))),
 [(4,none),(5,none),(6,none)]⟩
theorem cf_cut:compFn Tryz.prog { own:=[],comp:=[],frz:=[],nils:=[] } Tryz.f53=some sf_cut:=by kernel_rfl
set_option maxHeartbeats 800000 in
theorem cut_in (G:Glob) (b:List UInt8) (n:Nat) (h:n≤b.length) (hb:b.length≤1099511627776):Den Tryz.prog G 53 [.sl (b.map bD),.int .i64 (n:Int)] (.tup [.c (.d (.sl ((b.take n).map bD))),.c (.d (.sl ((b.drop n).map bD))),.c (.d (.bool true))]):=by
  refine den_walk Tryz.func53 cf_cut rfl rfl ?_
  have c1:=join_c G [b.take n] (by simp) (by simp; omega)
  have c2:=join_c G [b.drop n] (by simp) (by simp; omega)
  simp only[List.map_cons,List.map_nil,List.flatten_cons,List.flatten_nil,List.append_nil] at c1 c2
  have et:(b.drop n).take (b.length-n)=b.drop n:=List.take_of_length_le (by simp)
  have g:((n:Int)>(b.length:Int))=False:=eq_false (by omega)
  simp only[sf_cut,putAll,wal,stV,seval,iteOmega,toNatUp,reduceCtorEq,g]
  refine sC (c1) ?_
  simp only[et,wal,stV,seval,iteOmega,toNatUp,reduceCtorEq]
  refine sC (c2) ?_
  simp only[et,wal,stV,seval,iteOmega,toNatUp,reduceCtorEq]
  exact qd3
end Go.Proofs.YtpbmdbahkpfkdaaGreatDoor
