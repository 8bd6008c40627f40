/- Texts of one's own, merged: from: Layer 18,without code: packets as data,and what the functions return. Own work. -/
import Derived.Test.YtcikhnjfkfigjaaMg316
import Derived.Test.YtcikhnjfkfigjaaMg311
import Derived.Test.YtcikhnjfkfigjaaMg313
import Derived.Test.YtcikhnjfkfigjaaMg39
set_option linter.unusedVariables false
set_option linter.unusedSimpArgs false
namespace Go.Proofs.Ytcikhnjfkfigjaa
open Go.RowKit
structure Pkt where
  hd:Hd
  pl:List Fd
  se:List Fd
  gu:Bool
def pkZ:Pkt:=⟨Hd.z,[],[],false⟩
def pkD (p:Pkt):D:=.agg [.int .i64 p.hd.lp,.int .i64 p.hd.vr,.int .i64 p.hd.md,.int .i64 p.hd.st,.int .i64 p.hd.pl,.int .i64 p.hd.pr,.int .u32 (p.hd.rd:Int),.int .u32 (p.hd.rp:Int),.int .u32 (p.hd.ri:Int),.int .u64 (p.hd.rf:Int),.int .u64 (p.hd.og:Int),.int .u64 (p.hd.rc:Int),.int .u64 (p.hd.tr:Int),.sl (p.pl.map fdD),.sl (p.se.map fdD),.bool p.gu]
def unE (p:Pkt):Int:=if hdE p.hd=0 then xeE p.pl else hdE p.hd
def unX (p:Pkt):List UInt8:=hdB p.hd++xall p.pl
def unB (p:Pkt):List UInt8:=if unE p=0 then unX p else []
def brE (p:Pkt):Int:=if unE p=0 then (if p.se.length=0∧p.gu=false then 0 else 3) else unE p
def brB (p:Pkt):List UInt8:=if brE p=0 then unX p else []
def pkRE (b:List UInt8):Int:=if decE b=0 then eaE (b.drop 48) else decE b
def pkRP (b:List UInt8):Pkt:=if pkRE b=0 then ⟨hdG b,xdL (b.drop 48),[],false⟩ else pkZ
def grD (n s:List UInt8):List UInt8:=putL n.length 2++(putL s.length 2++(padN n 4++padN s 4))
def gdF (n s:List UInt8):Fd:=⟨1028,grD n s⟩
def ptS (key:List UInt8) (p:Pkt) (n:List UInt8):List UInt8:=sealV key [unX p,n] (xall p.se)
def ptG (key:List UInt8) (p:Pkt) (n:List UInt8):Fd:=gdF n (ptS key p n)
def ptE (key:List UInt8) (p:Pkt) (n:List UInt8):Int :=
  if key.length≠32 then 5 else if n.length<16∨32<n.length then 4 else if unE p≠0 then unE p else if xeE p.se≠0 then xeE p.se else if (fnL p.pl 1028).length≠0 then 3 else if p.pl.length=24 then 8 else if xeE [ptG key p n]≠0∨1280<(unX p).length+xtot [ptG key p n] then 2 else 0
def ptB (key:List UInt8) (p:Pkt) (n:List UInt8):List UInt8:=if ptE key p n=0 then unX p++xall [ptG key p n] else []
def pnN (d:List UInt8):Nat:=getN (cutN d 0 2)
def pmN (d:List UInt8):Nat:=getN (cutN d 2 2)
def pfN (d:List UInt8):Nat:=4+(pnN d+3) / 4*4
def pnB (d:List UInt8):List UInt8:=cutN d 4 (pnN d)
def psB (d:List UInt8):List UInt8:=cutN d (pfN d) (pmN d)
def prR (d:List UInt8):Prop:=4≤d.length∧16≤pnN d∧pnN d≤32∧pfN d+pmN d≤d.length∧grD (pnB d) (psB d)=d
instance (d:List UInt8):Decidable (prR d):=by unfold prR; infer_instance
def prN (d:List UInt8):List UInt8:=if prR d then pnB d else []
def prS (d:List UInt8):List UInt8:=if prR d then psB d else []
def opL (b:List UInt8):Nat:=(xdL (b.drop 48)).length-1
def opG (b:List UInt8):List UInt8:=((xdL (b.drop 48)).getD (opL b) default).da
def opA (b:List UInt8):List UInt8:=b.take (48+plN (b.drop 48) (opL b))
def opX (key b:List UInt8):Int:=opnE key [opA b,pnB (opG b)] (psB (opG b))
def opV (key b:List UInt8):List UInt8:=opnV key [opA b,pnB (opG b)] (psB (opG b))
def opE (key b:List UInt8):Int :=
  if key.length≠32 then 5 else if pkRE b≠0 then pkRE b else if (fnL (xdL (b.drop 48)) 1028).length=0 then 10 else if (fnL (xdL (b.drop 48)) 1028).getD 0 0≠(opL b:Int)∨¬ prR (opG b) then 3 else if opX key b≠0 then 6 else eaE (opV key b)
def opP (key b:List UInt8):Pkt:=if opE key b=0 then ⟨hdG b,(xdL (b.drop 48)).take (opL b),xdL (opV key b),true⟩ else pkZ
def szT (n:Int):Nat:=max 16 ((n.toNat+7) / 4*4)
def szsS (l:List Int):Nat:=(l.map szT).sum
def unf (n:Int):Bool:=decide (n<0∨1280<n)
def lnA (p s:List Int):Nat:=48+szsS p+(24+(szsS s+19) / 4*4)
def lnE (p s:List Int):Int:=if (p.any unf || s.any unf)=true then 4 else if 1232<szsS p∨1232<szsS s∨1280<lnA p s then 2 else 0
def lnN (p s:List Int):Nat:=if lnE p s=0 then lnA p s else 0
theorem padN4 (b:List UInt8):padN b 4=b++List.replicate (padC0 b.length 4) 0:=padN_in b (n:=4) (by decide)
theorem padC4 (n:Nat):n+padC0 n 4=(n+3) / 4*4:=by unfold padC0; omega
theorem padN4_len (b:List UInt8):(padN b 4).length=(b.length+3) / 4*4:=by rw[padN4,List.length_append,List.length_replicate,padC4]
theorem grD_len (n s:List UInt8):(grD n s).length=4+(n.length+3) / 4*4+(s.length+3) / 4*4:=by
  unfold grD
  simp only[List.length_append,putL_length,padN4_len]; omega
theorem gdF_T {n s:List UInt8} (h:12≤(grD n s).length):xsT (gdF n s)=4+(grD n s).length:=by
  have:=grD_len n s
  unfold xsT gdF
  dsimp only
  omega
theorem gdF_pad {n s:List UInt8} (h:12≤(grD n s).length):padF (gdF n s)=gdF n s:=by
  unfold padF
  rw[gdF_T h]
  have:(gdF n s).da=grD n s:=rfl
  rw[this,show 4+(grD n s).length-4-(grD n s).length=0 by omega,List.replicate_zero,List.append_nil]
  rfl
theorem gdF_E {n s:List UInt8} (h:12≤(grD n s).length) (h2:4+(grD n s).length≤1232):xsE (gdF n s)=0:=xsE_of (by show (0:Int)≤1028; decide) (by show (1028:Int)≤65535; decide) (by rw[gdF_T h]; exact h2)
theorem gr_ge {n s:List UInt8} (h:16≤n.length):20≤(grD n s).length:=by rw[grD_len]; omega
theorem gr_parts {n s:List UInt8} (h1:16≤n.length) (h2:n.length≤32) (h3:s.length<65536):prR (grD n s)∧pnB (grD n s)=n∧psB (grD n s)=s:=by
  have hl:=grD_len n s
  have a1:pnN (grD n s)=n.length:=by
    unfold pnN grD
    have:=cutN_hit [] (putL n.length 2) (putL s.length 2++(padN n 4++padN s 4))
    rw[List.nil_append,putL_length] at this
    rw[show ([]:List UInt8).length=0 from rfl] at this
    rw[this,get_put 2 (by decide)]; omega
  have a2:pmN (grD n s)=s.length:=by
    unfold pmN grD
    have:=cutN_hit (putL n.length 2) (putL s.length 2) (padN n 4++padN s 4)
    rw[putL_length,putL_length] at this
    rw[this,get_put 2 (by decide)]; omega
  have a3:pfN (grD n s)=4+(n.length+3) / 4*4:=by unfold pfN; rw[a1]
  have b1:pnB (grD n s)=n:=by
    unfold pnB
    have:=cutN_hit (putL n.length 2++putL s.length 2) n (List.replicate (padC0 n.length 4) 0++padN s 4)
    rw[List.length_append,putL_length,putL_length] at this
    rw[a1]
    unfold grD
    rw[← List.append_assoc,padN4 n,List.append_assoc n]
    exact this
  have b2:psB (grD n s)=s:=by
    unfold psB
    rw[a2,a3]
    unfold grD
    rw[← List.append_assoc,← List.append_assoc]
    have:=cutN_hit (putL n.length 2++putL s.length 2++padN n 4) s (List.replicate (padC0 s.length 4) 0)
    rw[List.length_append,List.length_append,putL_length,putL_length,padN4_len] at this
    rw[padN4 s]
    exact this
  refine⟨⟨by omega,by omega,by omega,by omega,by rw[b1,b2]⟩,b1,b2⟩
theorem fnN_app (l r:List Fd) (k:Int):∀ n,n≤l.length→fnN (l++r) k n=fnN l k n
  | 0,_=>rfl
  | n+1,h=>by
    rw[fnN,fnN,fnN_app l r k n (by omega)]
    have:(l++r).getD n default=l.getD n default:=by
      rw[List.getD_eq_getElem?_getD,List.getD_eq_getElem?_getD,List.getElem?_append_left (by omega)]
    rw[this]
theorem fnN_pad (l:List Fd) (k:Int):∀ n,n≤l.length→fnN (l.map padF) k n=fnN l k n
  | 0,_=>rfl
  | n+1,h=>by
    rw[fnN,fnN,fnN_pad l k n (by omega)]
    have:((l.map padF).getD n default).ty=(l.getD n default).ty:=by
      rw[List.getD_eq_getElem?_getD,List.getD_eq_getElem?_getD,List.getElem?_map]
      rw[List.getElem?_eq_getElem (by omega)]
      rfl
    rw[this]
theorem fnN_none {l:List Fd} {k:Int} (h:∀ f∈l,f.ty≠k):∀ n,n≤l.length→fnN l k n=[]
  | 0,_=>rfl
  | n+1,hn=>by
    rw[fnN_f (h _ (getF_mem (by omega))),fnN_none h n (by omega)]
theorem fnL_snoc {l:List Fd} {f:Fd} {k:Int} (h:(fnL l k).length=0) (hf:f.ty=k):fnL (l++[f]) k=[(l.length:Int)]:=by
  unfold fnL
  rw[List.length_append,List.length_singleton,fnN_t (by simp[hf]),fnN_app l [f] k _ (Nat.le_refl _)]
  have:fnN l k l.length=[]:=List.eq_nil_of_length_eq_zero h
  rw[this,List.nil_append]
theorem hdE_0 {h:Hd}:hdE h=0↔hdOk h=true:=by
  unfold hdE
  split <;> simp_all
theorem unE_0 {p:Pkt} (h:unE p=0):hdOk p.hd=true∧hdE p.hd=0∧xeE p.pl=0:=by
  unfold unE at h
  split at h
  ·rename_i h0; exact⟨hdE_0.1 h0,h0,h⟩
  ·rename_i h0; exact absurd h h0
theorem xeE_0 {l:List Fd} (h:xeE l=0):(∀ f∈l,xsE f=0)∧l.length≤24∧xtot l≤1232∧xeB l=xall l:=by
  have hB:xeB l=xall l:=if_pos h
  unfold xeE at h
  split at h
  ·rename_i h0
   split at h
   ·cases h
   ·split at h
    ·cases h
    ·exact⟨xfE_0.1 h0,by omega,by omega,hB⟩
  ·rename_i h0; exact absurd h h0
theorem xeE_of {l:List Fd} (h1:∀ f∈l,xsE f=0) (h2:l.length≤24) (h3:xtot l≤1232):xeE l=0:=(xeE_fit (xfE_0.2 h1) h2 h3).1
theorem unX_len (p:Pkt):(unX p).length=48+xtot p.pl:=by unfold unX; rw[List.length_append,hdB_len,xall_len]
theorem ae_two {key a n:List UInt8} {m:Int} (hk:key.length=32) (ha:a.length≤65519) (hn:n.length≤65519) (hm:m≤65519):aeE key [a,n] m=0:=aeE_zero hk (by simp) (fun x hx=>by simp at hx; rcases hx with rfl | rfl <;> assumption) hm
structure PtOk (key:List UInt8) (p:Pkt) (n:List UInt8):Prop where
  ky:key.length=32
  n1:16≤n.length
  n2:n.length≤32
  un:unE p=0
  se:xeE p.se=0
  no:(fnL p.pl 1028).length=0
  lt:p.pl.length≤23
  gd:xsE (ptG key p n)=0
  all:48+xtot p.pl+xsT (ptG key p n)≤1280
theorem ptE_of {key:List UInt8} {p:Pkt} {n:List UInt8} (h:PtOk key p n):ptE key p n=0∧ptB key p n=unX p++xall [ptG key p n]:=by
  have ht:xtot [ptG key p n]=xsT (ptG key p n):=by simp[xtot]
  have hx:xeE [ptG key p n]=0:=xeE_of (fun f hf=>by simp at hf; subst hf; exact h.gd) (by simp) (by rw[ht]; exact (xsE_0 h.gd).2.2)
  have e:ptE key p n=0:=by
    unfold ptE
    have a:=h.ky; have b:=h.n1; have c:=h.n2; have d:=h.lt; have f:=h.all
    rw[if_neg (by omega),if_neg (by omega),if_neg (by simp[h.un]),if_neg (by simp[h.se]),if_neg (by simp[h.no]),if_neg (by omega),if_neg]
    rw[unX_len,ht]
    rintro (k | k)
    ·exact k hx
    ·omega
  exact⟨e,if_pos e⟩
theorem ptS_len {key:List UInt8} {p:Pkt} {n:List UInt8} (h:PtOk key p n):aeE key [unX p,n] ((xall p.se).length:Int)=0∧(ptS key p n).length=16+xtot p.se∧xtot p.se≤1232:=by
  have h1:=(xeE_0 h.se).2.2.1
  have h2:=(xeE_0 (unE_0 h.un).2.2).2.2.1
  have h3:=h.n2
  have ha:aeE key [unX p,n] ((xall p.se).length:Int)=0:=ae_two h.ky (by rw[unX_len]; omega) (by omega) (by rw[xall_len]; omega)
  refine⟨ha,?_,h1⟩
  unfold ptS
  rw[sealV_ok ha,List.length_append,tagM_len,strS_len,xall_len]
theorem open_pt {key:List UInt8} {p:Pkt} {n:List UInt8} (fit:hdF p.hd) (h:PtOk key p n):pkRE (ptB key p n)=0∧pkRP (ptB key p n)=⟨p.hd,p.pl.map padF++[ptG key p n],[],false⟩∧opE key (ptB key p n)=0∧opP key (ptB key p n)=⟨p.hd,p.pl.map padF,p.se.map padF,true⟩:=by
  obtain⟨k0,k1⟩:=ptE_of h
  obtain⟨u1,u2,u3⟩:=unE_0 h.un
  obtain⟨f1,f2,f3,f4⟩:=xeE_0 u3
  obtain⟨s1,s2,s3⟩:=ptS_len h
  have hR:hdR p.hd:=of_decide_eq_true u1
  have hn:=h.n1; have hn2:=h.n2; have hlt:=h.lt; have hall:=h.all
  have g1:20≤(grD n (ptS key p n)).length:=gr_ge hn
  have gp:padF (ptG key p n)=ptG key p n:=gdF_pad (by omega)
  obtain⟨q1,q2,q3⟩:=gr_parts (n:=n) (s:=ptS key p n) hn hn2 (by omega)
  have hG:xall (p.pl++[ptG key p n])=xall p.pl++xall [ptG key p n]:=xall_app _ _
  have hB:ptB key p n=hdB p.hd++xall (p.pl++[ptG key p n]):=by rw[k1,unX,List.append_assoc,hG]
  have hT:xtot (p.pl++[ptG key p n])=xtot p.pl+xsT (ptG key p n):=by rw[xtot_app]; simp[xtot]
  have ok:∀ f∈p.pl++[ptG key p n],xsE f=0:=fun f hf=>by
    rcases List.mem_append.1 hf with hf | hf
    ·exact f1 f hf
    ·rw[List.mem_singleton.1 hf]; exact h.gd
  have e0:xeE (p.pl++[ptG key p n])=0:=xeE_of ok (by simp; omega) (by omega)
  obtain⟨d1,d2,_⟩:=dec_enc e0
  have hbk:=hd_back hR fit (xall (p.pl++[ptG key p n]))
  have hdr:(ptB key p n).drop 48=xall (p.pl++[ptG key p n]):=by
    have:=List.drop_left (l₁:=hdB p.hd) (l₂:=xall (p.pl++[ptG key p n]))
    rw[hdB_len] at this
    rw[hB]; exact this
  have hlen:(ptB key p n).length=48+(xtot p.pl+xsT (ptG key p n)):=by rw[hB,List.length_append,hdB_len,xall_len,hT]
  have hde:decE (ptB key p n)=0:=by
    unfold decE
    rw[if_neg (by omega),if_neg (by omega),hB,hbk,if_pos hR.2.2.1]
  have hg:hdG (ptB key p n)=p.hd:=by rw[hB,hbk]
  rw[List.map_append,List.map_singleton,gp] at d2
  have r0:pkRE (ptB key p n)=0:=by unfold pkRE; rw[if_pos hde,hdr,d1]
  have lL:opL (ptB key p n)=p.pl.length:=by unfold opL; rw[hdr,d2]; simp
  have hgd:opG (ptB key p n)=grD n (ptS key p n):=by
    unfold opG
    rw[lL,hdr,d2]
    simp[ptG,gdF]
  have hpl:plN (xall (p.pl++[ptG key p n])) p.pl.length=xtot p.pl:=by
    rw[pl_all _ ok _ (by simp),List.take_left]
  have hA:opA (ptB key p n)=unX p:=by
    unfold opA
    rw[lL,hdr,hpl,k1,← unX_len,List.take_left]
  obtain⟨o1,o2⟩:=opn_seal s1
  rw[← sealV_ok s1] at o1 o2
  have x1:opX key (ptB key p n)=0:=by unfold opX; rw[hA,hgd,q2,q3]; exact o1
  have x2:opV key (ptB key p n)=xall p.se:=by unfold opV; rw[hA,hgd,q2,q3]; exact o2
  obtain⟨t1,t2,_⟩:=dec_enc h.se
  have hfn:fnL (p.pl.map padF++[ptG key p n]) 1028=[(p.pl.length:Int)]:=by
    have:=fnL_snoc (l:=p.pl.map padF) (f:=ptG key p n) (k:=1028) (by
      unfold fnL
      rw[List.length_map,fnN_pad _ _ _ (Nat.le_refl _)]
      exact h.no) rfl
    rw[List.length_map] at this
    exact this
  have o0:opE key (ptB key p n)=0:=by
    unfold opE
    rw[if_neg (by simp[h.ky]),if_neg (by simp[r0]),hdr,d2,hfn,lL,hgd,x1,x2,t1]
    simp[q1]
  refine⟨r0,?_,o0,?_⟩
  ·unfold pkRP
   rw[if_pos r0,hg,hdr,d2]
  ·unfold opP
   rw[if_pos o0,hg,hdr,d2,lL,x2,t2]
   congr 1
   have:=List.take_left (l₁:=p.pl.map padF) (l₂:=[ptG key p n])
   rw[List.length_map] at this
   exact this
end Go.Proofs.Ytcikhnjfkfigjaa
namespace Go.Proofs.Ytcikhnjfkfigjaa
open Go.RowKit IntWalk
set_option maxHeartbeats 3200000
def sf_pfit:SFn:=⟨1,9,
 .seq (.reg [⟨some 2,.mv (.k (.c (.d (.bool false)))),none⟩])
 (.seq (.reg [⟨some 3,.mv (.t 0),none⟩,
 ⟨some 4,.bin .leq (.k (.c (.d (.int .i64 16)))) (.t 3),none⟩,
 ⟨some 5,.mv (.t 4),none⟩,
 ⟨some 6,.mv (.t 0),some (5,true)⟩,
 ⟨some 7,.bin .leq (.t 6) (.k (.c (.d (.int .i64 32)))),some (5,true)⟩,
 ⟨some 8,.pick (.t 5) (.t 7) (.k (.c (.d (.bool false)))),none⟩,
 ⟨some 2,.mv (.t 8),none⟩])
 (.ret)),
 [(2,none)]⟩
theorem cf_pfit:compFn Try.prog { own:=[],comp:=[],frz:=[],nils:=[] } Try.f37=some sf_pfit:=by kernel_rfl
theorem pfit_c (G:Glob) (n:Int):Den Try.prog G 37 [.int .i64 n] (.w (.c (.d (.bool (decide (16≤n∧n≤32)))))):=by
  refine den_walk Try.func37 cf_pfit rfl rfl ?_
  by_cases h1:16≤n
  ·by_cases h2:n≤32
   ·rw[decide_eq_true ⟨h1,h2⟩]
    simp only[sf_pfit,putAll,wx,wy,wz,stV,seval,iteOmega,toNatUp,reduceCtorEq]
    exact ret_d1 (by simp only[wx,wy,wz,stV,seval,iteOmega,toNatUp,reduceCtorEq])
   ·rw[decide_eq_false (fun h=>h2 h.2)]
    simp only[sf_pfit,putAll,wx,wy,wz,stV,seval,iteOmega,toNatUp,reduceCtorEq]
    exact ret_d1 (by simp only[wx,wy,wz,stV,seval,iteOmega,toNatUp,reduceCtorEq])
  ·rw[decide_eq_false (fun h=>h1 h.1)]
   simp only[sf_pfit,putAll,wx,wy,wz,stV,seval,iteOmega,toNatUp,reduceCtorEq]
   exact ret_d1 (by simp only[wx,wy,wz,stV,seval,iteOmega,toNatUp,reduceCtorEq])
theorem ret_mx {σ:St} {p:Nat×Option Kd} {t:Int} {id n s:Nat} {es:List D}
    (h1:resW σ p=some (.mix [.d (.int .i64 t),.own id 1 0 n])) (e:σ.h id=some (.row s es)) (hn:n=es.length) :
    RetOk σ [p] (.w (.mix [.d (.int .i64 t),.fr 1 es])):=by
  refine⟨[.mix [.d (.int .i64 t),.own id 1 0 n]],by simp[allSome,h1],.inl ⟨?_,?_⟩⟩
  ·simp[W.ids,C.ids]
  ·refine .cons rfl (.cons ⟨rfl,rfl,?_⟩ .nil)
   rw[e]
   exact⟨by simp[obSl,hn],trivial⟩
theorem gr_flat (n s:List UInt8):([putL n.length 2,putL s.length 2,padN n 4,padN s 4]:List (List UInt8)).flatten=grD n s:=by
  unfold grD
  simp only[List.flatten_cons,List.flatten_nil,List.append_nil]
def sf_grd:SFn:=⟨2,20,
 .seq (.reg [⟨some 4,.alloc [(.d (.int .i64 0)),.nil],none⟩])
 (.seq (.reg [⟨some 5,.mv (.t 0),none⟩,
 ⟨some 6,.len (.t 5),none⟩,
 ⟨some 7,.conv .u64 (.t 6),none⟩,
 ⟨some 8,.call 54 [(.t 7),(.k (.c (.d (.int .i64 2))))] none,none⟩,
 ⟨some 9,.mv (.t 1),none⟩,
 ⟨some 10,.len (.t 9),none⟩,
 ⟨some 11,.conv .u64 (.t 10),none⟩,
 ⟨some 12,.call 54 [(.t 11),(.k (.c (.d (.int .i64 2))))] none,none⟩,
 ⟨some 13,.mv (.t 0),none⟩,
 ⟨some 14,.call 55 [(.t 13),(.k (.c (.d (.int .i64 4))))] none,none⟩,
 ⟨some 15,.mv (.t 1),none⟩,
 ⟨some 16,.call 55 [(.t 15),(.k (.c (.d (.int .i64 4))))] none,none⟩,
 ⟨some 17,.bldSl false 4 1 (.sl []) [(0,(.t 8)),(1,(.t 12)),(2,(.t 14)),(3,(.t 16))],none⟩,
 ⟨some 18,.call 40 [(.t 17)] none,none⟩,
 ⟨some 19,.build [(.d (.int .i64 0)),.nil] [(0,1,(.k (.c (.d (.int .i64 1028))))),(1,1,(.t 18))],none⟩,
 ⟨none,.store (.ag 2) (.t 4) (.t 19),none⟩])
 (.ret)),
 [(4,(some (.ag 2)))]⟩
theorem cf_grd:compFn Try.prog { own:=[],comp:=[],frz:=[],nils:=[] } Try.f34=some sf_grd:=by kernel_rfl
theorem grd_c (G:Glob) (n s:List UInt8) (hn:n.length≤1000000) (hs:s.length≤1000000):Den Try.prog G 34 [.sl (n.map bD),.sl (s.map bD)] (.w (.c (.d (fdD (gdF n s))))):=by
  refine den_walk Try.func34 cf_grd rfl rfl ?_
  have c1:=putk_c G n.length 2 (by decide)
  have c2:=putk_c G s.length 2 (by decide)
  rw[show (2:Int).toNat=2 from rfl] at c1 c2
  have c3:=pad_c G n 4 (by omega)
  have c4:=pad_c G s 4 (by omega)
  have cj:=join_c G [putL n.length 2,putL s.length 2,padN n 4,padN s 4] (by simp) (by simp[putL_length,padN4_len]; omega)
  rw[gr_flat] at cj
  unfold gdF fdD
  generalize grD n s=B at *
  generalize putL n.length 2=B1 at *
  generalize putL s.length 2=B2 at *
  generalize padN n 4=B3 at *
  generalize padN s 4=B4 at *
  simp only[List.map_cons,List.map_nil] at cj
  simp only[sf_grd,putAll,wx,wy,wz,stV,seval,iteOmega,toNatUp,reduceCtorEq]
  refine st_call (c1) rfl (.inl rfl) ?_
  simp only[wx,wy,wz,stV,seval,iteOmega,toNatUp,reduceCtorEq]
  refine st_call (c2) rfl (.inl rfl) ?_
  simp only[wx,wy,wz,stV,seval,iteOmega,toNatUp,reduceCtorEq]
  refine st_call (c3) rfl (.inl rfl) ?_
  simp only[wx,wy,wz,stV,seval,iteOmega,toNatUp,reduceCtorEq]
  refine st_call (c4) rfl (.inl rfl) ?_
  simp only[wx,wy,wz,stV,seval,iteOmega,toNatUp,reduceCtorEq]
  refine st_call (cj) rfl (.inl rfl) ?_
  simp only[wx,wy,wz,stV,seval,iteOmega,toNatUp,reduceCtorEq]
  exact ret_d1 (by simp only[wx,wy,wz,stV,seval,iteOmega,toNatUp,reduceCtorEq])
def sf_grdf:SFn:=⟨2,20,
 .seq (.reg [⟨some 4,.alloc [(.d (.int .i64 0)),.nil],none⟩])
 (.seq (.reg [⟨some 5,.mv (.t 0),none⟩,
 ⟨some 6,.len (.t 5),none⟩,
 ⟨some 7,.conv .u64 (.t 6),none⟩,
 ⟨some 8,.call 54 [(.t 7),(.k (.c (.d (.int .i64 2))))] none,none⟩,
 ⟨some 9,.mv (.t 1),none⟩,
 ⟨some 10,.len (.t 9),none⟩,
 ⟨some 11,.conv .u64 (.t 10),none⟩,
 ⟨some 12,.call 54 [(.t 11),(.k (.c (.d (.int .i64 2))))] none,none⟩,
 ⟨some 13,.mv (.t 0),none⟩,
 ⟨some 14,.call 55 [(.t 13),(.k (.c (.d (.int .i64 4))))] none,none⟩,
 ⟨some 15,.mv (.t 1),none⟩,
 ⟨some 16,.call 55 [(.t 15),(.k (.c (.d (.int .i64 4))))] none,none⟩,
 ⟨some 17,.bldSl false 4 1 (.sl []) [(0,(.t 8)),(1,(.t 12)),(2,(.t 14)),(3,(.t 16))],none⟩,
 ⟨some 18,.call 40 [(.t 17)] (some (0,1)),none⟩,
 ⟨some 19,.build [(.d (.int .i64 0)),.nil] [(0,1,(.k (.c (.d (.int .i64 1028))))),(1,1,(.t 18))],none⟩,
 ⟨none,.store (.ag 2) (.t 4) (.t 19),none⟩])
 (.ret)),
 [(4,(some (.ag 2)))]⟩
theorem cf_grdf:compFn Try.prog { own:=[18],comp:=[],frz:=[],nils:=[] } Try.f34=some sf_grdf:=by kernel_rfl
theorem grdf_f (G:Glob) (n s:List UInt8) (hn:n.length≤1000000) (hs:s.length≤1000000):Den Try.prog G 34 [.sl (n.map bD),.sl (s.map bD)] (.w (.mix [.d (.int .i64 1028),.fr 1 ((grD n s).map bD)])):=by
  refine den_walk Try.func34 cf_grdf rfl rfl ?_
  have c1:=putk_c G n.length 2 (by decide)
  have c2:=putk_c G s.length 2 (by decide)
  rw[show (2:Int).toNat=2 from rfl] at c1 c2
  have c3:=pad_c G n 4 (by omega)
  have c4:=pad_c G s 4 (by omega)
  have cj:=join_c G [putL n.length 2,putL s.length 2,padN n 4,padN s 4] (by simp) (by simp[putL_length,padN4_len]; omega)
  rw[gr_flat] at cj
  generalize grD n s=B at *
  generalize putL n.length 2=B1 at *
  generalize putL s.length 2=B2 at *
  generalize padN n 4=B3 at *
  generalize padN s 4=B4 at *
  simp only[List.map_cons,List.map_nil] at cj
  simp only[sf_grdf,putAll,wx,wy,wz,stV,seval,iteOmega,toNatUp,reduceCtorEq]
  refine st_call (c1) rfl (.inl rfl) ?_
  simp only[wx,wy,wz,stV,seval,iteOmega,toNatUp,reduceCtorEq]
  refine st_call (c2) rfl (.inl rfl) ?_
  simp only[wx,wy,wz,stV,seval,iteOmega,toNatUp,reduceCtorEq]
  refine st_call (c3) rfl (.inl rfl) ?_
  simp only[wx,wy,wz,stV,seval,iteOmega,toNatUp,reduceCtorEq]
  refine st_call (c4) rfl (.inl rfl) ?_
  simp only[wx,wy,wz,stV,seval,iteOmega,toNatUp,reduceCtorEq]
  refine st_call (cj) rfl (.inl rfl) ?_
  simp only[wx,wy,wz,stV,seval,iteOmega,toNatUp,reduceCtorEq]
  exact ret_mx (by simp only[wx,wy,wz,stV,seval,iteOmega,toNatUp,reduceCtorEq] <;> rfl) (by simp only[wx,wy,wz,stV,seval,iteOmega,toNatUp,reduceCtorEq] <;> rfl) (by simp only[wx,wy,wz,stV,seval,iteOmega,toNatUp,reduceCtorEq,List.length_map])
def sf_prts:SFn:=⟨1,70,
 .seq (.reg [⟨some 2,.mv (.k (.c .nil)),none⟩,
 ⟨some 3,.mv (.k (.c .nil)),none⟩,
 ⟨some 4,.mv (.k (.c (.d (.bool false)))),none⟩])
 (.seq (.reg [⟨some 10,.mv (.t 0),none⟩,
 ⟨some 11,.call 62 [(.t 10),(.k (.c (.d (.int .i64 4))))] none,none⟩,
 ⟨some 9,.mv (.t 11),none⟩,
 ⟨some 12,.extract (.t 9) 0,none⟩,
 ⟨some 13,.extract (.t 9) 1,none⟩,
 ⟨some 14,.extract (.t 9) 2,none⟩,
 ⟨some 5,.mv (.t 12),none⟩,
 ⟨some 6,.mv (.t 13),none⟩,
 ⟨some 4,.mv (.t 14),none⟩])
 (.seq (.seq (.reg [⟨some 15,.mv (.t 4),none⟩,
 ⟨some 16,.un .not (.t 15),none⟩])
 (.cond (.t 16) (.seq (.reg [⟨some 2,.mv (.k (.c .nil)),none⟩,
 ⟨some 3,.mv (.k (.c .nil)),none⟩,
 ⟨some 4,.mv (.k (.c (.d (.bool false)))),none⟩])
 (.ret))
 (.skip)))
 (.seq (.reg [⟨some 17,.mv (.t 5),none⟩,
 ⟨some 18,.slice 1 (.t 17) none (some (.k (.c (.d (.int .i64 2))))) none,none⟩,
 ⟨some 19,.call 63 [(.t 18)] none,none⟩,
 ⟨some 20,.conv .i64 (.t 19),none⟩,
 ⟨some 21,.mv (.t 5),none⟩,
 ⟨some 22,.slice 1 (.t 21) (some (.k (.c (.d (.int .i64 2))))) none none,none⟩,
 ⟨some 23,.call 63 [(.t 22)] none,none⟩,
 ⟨some 24,.conv .i64 (.t 23),none⟩,
 ⟨some 7,.mv (.t 20),none⟩,
 ⟨some 8,.mv (.t 24),none⟩])
 (.seq (.reg [⟨some 26,.mv (.t 6),none⟩,
 ⟨some 27,.mv (.t 7),none⟩,
 ⟨some 28,.call 62 [(.t 26),(.t 27)] none,none⟩,
 ⟨some 25,.mv (.t 28),none⟩,
 ⟨some 29,.extract (.t 25) 0,none⟩,
 ⟨some 30,.extract (.t 25) 1,none⟩,
 ⟨some 31,.extract (.t 25) 2,none⟩,
 ⟨some 2,.mv (.t 29),none⟩,
 ⟨some 4,.mv (.t 31),none⟩])
 (.seq (.seq (.reg [⟨some 32,.mv (.t 4),none⟩,
 ⟨some 33,.un .not (.t 32),none⟩,
 ⟨some 34,.mv (.t 33),none⟩,
 ⟨some 35,.mv (.t 7),some (34,false)⟩,
 ⟨some 36,.call 37 [(.t 35)] none,some (34,false)⟩,
 ⟨some 37,.un .not (.t 36),some (34,false)⟩,
 ⟨some 38,.pick (.t 34) (.k (.c (.d (.bool true)))) (.t 37),none⟩])
 (.cond (.t 38) (.seq (.reg [⟨some 2,.mv (.k (.c .nil)),none⟩,
 ⟨some 3,.mv (.k (.c .nil)),none⟩,
 ⟨some 4,.mv (.k (.c (.d (.bool false)))),none⟩])
 (.ret))
 (.skip)))
 (.seq (.reg [⟨some 40,.mv (.t 6),none⟩,
 ⟨some 41,.mv (.t 2),none⟩,
 ⟨some 42,.call 55 [(.t 41),(.k (.c (.d (.int .i64 4))))] none,none⟩,
 ⟨some 43,.len (.t 42),none⟩,
 ⟨some 44,.call 62 [(.t 40),(.t 43)] none,none⟩,
 ⟨some 39,.mv (.t 44),none⟩,
 ⟨some 45,.extract (.t 39) 0,none⟩,
 ⟨some 46,.extract (.t 39) 1,none⟩,
 ⟨some 47,.extract (.t 39) 2,none⟩,
 ⟨some 6,.mv (.t 46),none⟩,
 ⟨some 4,.mv (.t 47),none⟩])
 (.seq (.seq (.reg [⟨some 48,.mv (.t 4),none⟩,
 ⟨some 49,.un .not (.t 48),none⟩])
 (.cond (.t 49) (.seq (.reg [⟨some 2,.mv (.k (.c .nil)),none⟩,
 ⟨some 3,.mv (.k (.c .nil)),none⟩,
 ⟨some 4,.mv (.k (.c (.d (.bool false)))),none⟩])
 (.ret))
 (.skip)))
 (.seq (.reg [⟨some 51,.mv (.t 6),none⟩,
 ⟨some 52,.mv (.t 8),none⟩,
 ⟨some 53,.call 62 [(.t 51),(.t 52)] none,none⟩,
 ⟨some 50,.mv (.t 53),none⟩,
 ⟨some 54,.extract (.t 50) 0,none⟩,
 ⟨some 55,.extract (.t 50) 1,none⟩,
 ⟨some 56,.extract (.t 50) 2,none⟩,
 ⟨some 3,.mv (.t 54),none⟩,
 ⟨some 4,.mv (.t 56),none⟩])
 (.seq (.seq (.reg [⟨some 57,.mv (.t 4),none⟩,
 ⟨some 58,.un .not (.t 57),none⟩,
 ⟨some 59,.mv (.t 58),none⟩,
 ⟨some 60,.mv (.t 2),some (59,false)⟩,
 ⟨some 61,.mv (.t 3),some (59,false)⟩,
 ⟨some 62,.call 34 [(.t 60),(.t 61)] none,some (59,false)⟩,
 ⟨some 63,.field 1 .sc (.t 62),some (59,false)⟩,
 ⟨some 64,.mv (.t 0),some (59,false)⟩,
 ⟨some 65,.call 64 [(.t 63),(.t 64)] none,some (59,false)⟩,
 ⟨some 66,.un .not (.t 65),some (59,false)⟩,
 ⟨some 67,.pick (.t 59) (.k (.c (.d (.bool true)))) (.t 66),none⟩])
 (.cond (.t 67) (.seq (.reg [⟨some 2,.mv (.k (.c .nil)),none⟩,
 ⟨some 3,.mv (.k (.c .nil)),none⟩,
 ⟨some 4,.mv (.k (.c (.d (.bool false)))),none⟩])
 (.ret))
 (.skip)))
 (.seq (.reg [⟨some 68,.mv (.t 2),none⟩,
 ⟨some 69,.mv (.t 3),none⟩,
 ⟨some 2,.mv (.t 68),none⟩,
 ⟨some 3,.mv (.t 69),none⟩,
 ⟨some 4,.mv (.k (.c (.d (.bool true)))),none⟩])
 (.ret))))))))))),
 [(2,none),(3,none),(4,none)]⟩
theorem cf_prts:compFn Try.prog { own:=[],comp:=[],frz:=[],nils:=[] } Try.f42=some sf_prts:=by kernel_rfl
theorem prts_c (G:Glob) (d:List UInt8) (hd:d.length≤100000):Den Try.prog G 42 [.sl (d.map bD)] (.tup [.c (.d (.sl ((prN d).map bD))),.c (.d (.sl ((prS d).map bD))),.c (.d (.bool (decide (prR d))))]):=by
  refine den_walk Try.func42 cf_prts rfl rfl ?_
  unfold prN prS
  rcases Nat.lt_or_ge d.length 4 with h4 | h4
  ·have hno:¬ prR d:=fun h=>by have:=h.1; omega
   rw[if_neg hno,if_neg hno,decide_eq_false hno]
   have c1:=cut_no G d 4 (.inr (by omega))
   simp only[sf_prts,putAll,wx,wy,wz,stV,seval,iteOmega,toNatUp,reduceCtorEq]
   refine st_call (c1) rfl (.inl rfl) ?_
   simp only[wx,wy,wz,stV,seval,iteOmega,toNatUp,reduceCtorEq]
   exact ret_d3 (by simp only[wx,wy,wz,stV,seval,iteOmega,toNatUp,reduceCtorEq] <;> rfl) (by simp only[wx,wy,wz,stV,seval,iteOmega,toNatUp,reduceCtorEq] <;> rfl) (by simp only[wx,wy,wz,stV,seval,iteOmega,toNatUp,reduceCtorEq])
  ·have c1:=cut_in G d 4 h4 (by omega)
   rw[show ((4:Nat):Int)=4 from rfl] at c1
   have t1:(d.take 4).take 2=cutN d 0 2:=by rw[List.take_take]; rfl
   have t2:(d.take 4).drop 2=cutN d 2 2:=by rw[List.drop_take]; rfl
   have c2:=get_c G (cutN d 0 2) (by rw[cutN_len (by omega)]; decide)
   have c3:=get_c G (cutN d 2 2) (by rw[cutN_len (by omega)]; decide)
   have b1:=(getN_lt_pow 2 (cutN d 0 2) (cutN_len (by omega)) (by decide)).1
   have b2:=(getN_lt_pow 2 (cutN d 2 2) (cutN_len (by omega)) (by decide)).1
   have hl1:(cutN d 0 2).length=2:=cutN_len (by omega)
   have hl2:(cutN d 2 2).length=2:=cutN_len (by omega)
   have hl4:(d.take 4).length=4:=by simp; omega
   have hld:(d.drop 4).length=d.length-4:=by simp
   have t3:(cutN d 2 2).take 2=cutN d 2 2:=List.take_of_length_le (by omega)
   rw[show getN (cutN d 0 2)=pnN d from rfl] at c2 b1
   rw[show getN (cutN d 2 2)=pmN d from rfl] at c3 b2
   have cf:=pfit_c G (pnN d:Int)
   rcases Nat.lt_or_ge (d.length-4) (pnN d) with h5 | h5
   ·have hno:¬ prR d:=fun h=>by have:=h.2.2.2.1; unfold pfN at this; omega
    rw[if_neg hno,if_neg hno,decide_eq_false hno]
    clear hno
    have c4:=cut_no G (d.drop 4) (pnN d:Int) (.inr (by omega))
    generalize pnN d=n at *
    generalize pmN d=m at *
    simp only[sf_prts,putAll,wx,wy,wz,stV,seval,iteOmega,toNatUp,reduceCtorEq]
    refine st_call (c1) rfl (.inl rfl) ?_
    simp only[t1,t2,t3,hl4,wx,wy,wz,stV,seval,iteOmega,toNatUp,reduceCtorEq]
    refine st_call (c2) rfl (.inl rfl) ?_
    simp only[t1,t2,t3,hl4,wx,wy,wz,stV,seval,iteOmega,toNatUp,reduceCtorEq]
    refine st_call (c3) rfl (.inl rfl) ?_
    simp only[wx,wy,wz,stV,seval,iteOmega,toNatUp,reduceCtorEq]
    refine st_call (c4) rfl (.inl rfl) ?_
    simp only[wx,wy,wz,stV,seval,iteOmega,toNatUp,reduceCtorEq]
    exact ret_d3 (by simp only[wx,wy,wz,stV,seval,iteOmega,toNatUp,reduceCtorEq] <;> rfl) (by simp only[wx,wy,wz,stV,seval,iteOmega,toNatUp,reduceCtorEq] <;> rfl) (by simp only[wx,wy,wz,stV,seval,iteOmega,toNatUp,reduceCtorEq])
   ·have c4:=cut_in G (d.drop 4) (pnN d) (by omega) (by omega)
    have e4:(d.drop 4).take (pnN d)=pnB d:=rfl
    have hlB:(pnB d).length=pnN d:=cutN_len (by omega)
    rw[e4] at c4
    by_cases h6:16≤pnN d∧pnN d≤32
    ·have h6':16≤(pnN d:Int)∧(pnN d:Int)≤32:=by omega
     rw[decide_eq_true h6'] at cf
     have c5:=den_ro (pad_c G (pnB d) 4 (by omega))
     have hlp:=padN4_len (pnB d)
     rw[hlB] at hlp
     rcases Nat.lt_or_ge (d.length-4) ((pnN d+3) / 4*4) with h7 | h7
     ·have hno:¬ prR d:=fun h=>by have:=h.2.2.2.1; unfold pfN at this; omega
      rw[if_neg hno,if_neg hno,decide_eq_false hno]
      clear hno
      have c6:=cut_no G (d.drop 4) ((padN (pnB d) 4).length:Int) (.inr (by omega))
      generalize padN (pnB d) 4=B4 at *
      generalize pnB d=B3 at *
      generalize pnN d=n at *
      generalize pmN d=m at *
      simp only[sf_prts,putAll,wx,wy,wz,stV,seval,iteOmega,toNatUp,reduceCtorEq]
      refine st_call (c1) rfl (.inl rfl) ?_
      simp only[t1,t2,t3,hl4,wx,wy,wz,stV,seval,iteOmega,toNatUp,reduceCtorEq]
      refine st_call (c2) rfl (.inl rfl) ?_
      simp only[t1,t2,t3,hl4,wx,wy,wz,stV,seval,iteOmega,toNatUp,reduceCtorEq]
      refine st_call (c3) rfl (.inl rfl) ?_
      simp only[wx,wy,wz,stV,seval,iteOmega,toNatUp,reduceCtorEq]
      refine st_call (c4) rfl (.inl rfl) ?_
      simp only[wx,wy,wz,stV,seval,iteOmega,toNatUp,reduceCtorEq]
      refine st_call (cf) rfl (.inl rfl) ?_
      simp only[wx,wy,wz,stV,seval,iteOmega,toNatUp,reduceCtorEq]
      refine st_call (c5) rfl (.inl rfl) ?_
      simp only[wx,wy,wz,stV,seval,iteOmega,toNatUp,reduceCtorEq]
      refine st_call (c6) rfl (.inl rfl) ?_
      simp only[wx,wy,wz,stV,seval,iteOmega,toNatUp,reduceCtorEq]
      exact ret_d3 (by simp only[wx,wy,wz,stV,seval,iteOmega,toNatUp,reduceCtorEq] <;> rfl) (by simp only[wx,wy,wz,stV,seval,iteOmega,toNatUp,reduceCtorEq] <;> rfl) (by simp only[wx,wy,wz,stV,seval,iteOmega,toNatUp,reduceCtorEq])
     ·have c6:=cut_in G (d.drop 4) (padN (pnB d) 4).length (by omega) (by omega)
      have e6:(d.drop 4).drop (padN (pnB d) 4).length=d.drop (pfN d):=by rw[List.drop_drop,hlp]; rfl
      rw[e6] at c6
      have hl6:(d.drop (pfN d)).length=d.length-pfN d:=by simp
      have hpf:pfN d=4+(pnN d+3) / 4*4:=rfl
      rcases Nat.lt_or_ge (d.length-pfN d) (pmN d) with h8 | h8
      ·have hno:¬ prR d:=fun h=>by have:=h.2.2.2.1; omega
       rw[if_neg hno,if_neg hno,decide_eq_false hno]
       clear hno
       have c7:=cut_no G (d.drop (pfN d)) (pmN d:Int) (.inr (by omega))
       generalize d.drop (pfN d)=D2 at *
       generalize padN (pnB d) 4=B4 at *
       generalize pnB d=B3 at *
       generalize pnN d=n at *
       generalize pmN d=m at *
       simp only[sf_prts,putAll,wx,wy,wz,stV,seval,iteOmega,toNatUp,reduceCtorEq]
       refine st_call (c1) rfl (.inl rfl) ?_
       simp only[t1,t2,t3,hl4,wx,wy,wz,stV,seval,iteOmega,toNatUp,reduceCtorEq]
       refine st_call (c2) rfl (.inl rfl) ?_
       simp only[t1,t2,t3,hl4,wx,wy,wz,stV,seval,iteOmega,toNatUp,reduceCtorEq]
       refine st_call (c3) rfl (.inl rfl) ?_
       simp only[wx,wy,wz,stV,seval,iteOmega,toNatUp,reduceCtorEq]
       refine st_call (c4) rfl (.inl rfl) ?_
       simp only[wx,wy,wz,stV,seval,iteOmega,toNatUp,reduceCtorEq]
       refine st_call (cf) rfl (.inl rfl) ?_
       simp only[wx,wy,wz,stV,seval,iteOmega,toNatUp,reduceCtorEq]
       refine st_call (c5) rfl (.inl rfl) ?_
       simp only[wx,wy,wz,stV,seval,iteOmega,toNatUp,reduceCtorEq]
       refine st_call (c6) rfl (.inl rfl) ?_
       simp only[wx,wy,wz,stV,seval,iteOmega,toNatUp,reduceCtorEq]
       refine st_call (c7) rfl (.inl rfl) ?_
       simp only[wx,wy,wz,stV,seval,iteOmega,toNatUp,reduceCtorEq]
       exact ret_d3 (by simp only[wx,wy,wz,stV,seval,iteOmega,toNatUp,reduceCtorEq] <;> rfl) (by simp only[wx,wy,wz,stV,seval,iteOmega,toNatUp,reduceCtorEq] <;> rfl) (by simp only[wx,wy,wz,stV,seval,iteOmega,toNatUp,reduceCtorEq])
      ·have c7:=cut_in G (d.drop (pfN d)) (pmN d) (by omega) (by omega)
       have e7:(d.drop (pfN d)).take (pmN d)=psB d:=rfl
       rw[e7] at c7
       have hlS:(psB d).length=pmN d:=cutN_len (by omega)
       have c8:=grd_c G (pnB d) (psB d) (by omega) (by omega)
       unfold gdF fdD at c8
       have c9:=same_c G (grD (pnB d) (psB d)) d
       by_cases hq:grD (pnB d) (psB d)=d
       ·have hok:prR d:=⟨h4,h6.1,h6.2,by omega,hq⟩
        rw[if_pos hok,if_pos hok,decide_eq_true hok]
        clear hok
        rw[hq,beq_self_eq_true] at c9
        rw[hq] at c8
        clear hq
        generalize d.drop (pfN d)=D2 at *
        generalize padN (pnB d) 4=B4 at *
        generalize psB d=B5 at *
        generalize pnB d=B3 at *
        generalize pnN d=n at *
        generalize pmN d=m at *
        simp only[sf_prts,putAll,wx,wy,wz,stV,seval,iteOmega,toNatUp,reduceCtorEq]
        refine st_call (c1) rfl (.inl rfl) ?_
        simp only[t1,t2,t3,hl4,wx,wy,wz,stV,seval,iteOmega,toNatUp,reduceCtorEq]
        refine st_call (c2) rfl (.inl rfl) ?_
        simp only[t1,t2,t3,hl4,wx,wy,wz,stV,seval,iteOmega,toNatUp,reduceCtorEq]
        refine st_call (c3) rfl (.inl rfl) ?_
        simp only[wx,wy,wz,stV,seval,iteOmega,toNatUp,reduceCtorEq]
        refine st_call (c4) rfl (.inl rfl) ?_
        simp only[wx,wy,wz,stV,seval,iteOmega,toNatUp,reduceCtorEq]
        refine st_call (cf) rfl (.inl rfl) ?_
        simp only[wx,wy,wz,stV,seval,iteOmega,toNatUp,reduceCtorEq]
        refine st_call (c5) rfl (.inl rfl) ?_
        simp only[wx,wy,wz,stV,seval,iteOmega,toNatUp,reduceCtorEq]
        refine st_call (c6) rfl (.inl rfl) ?_
        simp only[wx,wy,wz,stV,seval,iteOmega,toNatUp,reduceCtorEq]
        refine st_call (c7) rfl (.inl rfl) ?_
        simp only[wx,wy,wz,stV,seval,iteOmega,toNatUp,reduceCtorEq]
        refine st_call (c8) rfl (.inl rfl) ?_
        simp only[wx,wy,wz,stV,seval,iteOmega,toNatUp,reduceCtorEq]
        refine st_call (c9) rfl (.inl rfl) ?_
        simp only[wx,wy,wz,stV,seval,iteOmega,toNatUp,reduceCtorEq]
        exact ret_d3 (by simp only[wx,wy,wz,stV,seval,iteOmega,toNatUp,reduceCtorEq]) (by simp only[wx,wy,wz,stV,seval,iteOmega,toNatUp,reduceCtorEq]) (by simp only[wx,wy,wz,stV,seval,iteOmega,toNatUp,reduceCtorEq])
       ·have hno:¬ prR d:=fun h=>hq h.2.2.2.2
        rw[if_neg hno,if_neg hno,decide_eq_false hno]
        clear hno
        have e9:(grD (pnB d) (psB d)==d)=false:=by simpa using hq
        rw[e9] at c9
        clear hq e9
        generalize grD (pnB d) (psB d)=B6 at *
        generalize d.drop (pfN d)=D2 at *
        generalize padN (pnB d) 4=B4 at *
        generalize psB d=B5 at *
        generalize pnB d=B3 at *
        generalize pnN d=n at *
        generalize pmN d=m at *
        simp only[sf_prts,putAll,wx,wy,wz,stV,seval,iteOmega,toNatUp,reduceCtorEq]
        refine st_call (c1) rfl (.inl rfl) ?_
        simp only[t1,t2,t3,hl4,wx,wy,wz,stV,seval,iteOmega,toNatUp,reduceCtorEq]
        refine st_call (c2) rfl (.inl rfl) ?_
        simp only[t1,t2,t3,hl4,wx,wy,wz,stV,seval,iteOmega,toNatUp,reduceCtorEq]
        refine st_call (c3) rfl (.inl rfl) ?_
        simp only[wx,wy,wz,stV,seval,iteOmega,toNatUp,reduceCtorEq]
        refine st_call (c4) rfl (.inl rfl) ?_
        simp only[wx,wy,wz,stV,seval,iteOmega,toNatUp,reduceCtorEq]
        refine st_call (cf) rfl (.inl rfl) ?_
        simp only[wx,wy,wz,stV,seval,iteOmega,toNatUp,reduceCtorEq]
        refine st_call (c5) rfl (.inl rfl) ?_
        simp only[wx,wy,wz,stV,seval,iteOmega,toNatUp,reduceCtorEq]
        refine st_call (c6) rfl (.inl rfl) ?_
        simp only[wx,wy,wz,stV,seval,iteOmega,toNatUp,reduceCtorEq]
        refine st_call (c7) rfl (.inl rfl) ?_
        simp only[wx,wy,wz,stV,seval,iteOmega,toNatUp,reduceCtorEq]
        refine st_call (c8) rfl (.inl rfl) ?_
        simp only[wx,wy,wz,stV,seval,iteOmega,toNatUp,reduceCtorEq]
        refine st_call (c9) rfl (.inl rfl) ?_
        simp only[wx,wy,wz,stV,seval,iteOmega,toNatUp,reduceCtorEq]
        exact ret_d3 (by simp only[wx,wy,wz,stV,seval,iteOmega,toNatUp,reduceCtorEq] <;> rfl) (by simp only[wx,wy,wz,stV,seval,iteOmega,toNatUp,reduceCtorEq] <;> rfl) (by simp only[wx,wy,wz,stV,seval,iteOmega,toNatUp,reduceCtorEq])
    ·have hno:¬ prR d:=fun h=>h6 ⟨h.2.1,h.2.2.1⟩
     rw[if_neg hno,if_neg hno,decide_eq_false hno]
     clear hno
     have h6':¬ (16≤(pnN d:Int)∧(pnN d:Int)≤32):=by omega
     rw[decide_eq_false h6'] at cf
     clear h6 h6'
     generalize pnB d=B3 at *
     generalize pnN d=n at *
     generalize pmN d=m at *
     simp only[sf_prts,putAll,wx,wy,wz,stV,seval,iteOmega,toNatUp,reduceCtorEq]
     refine st_call (c1) rfl (.inl rfl) ?_
     simp only[t1,t2,t3,hl4,wx,wy,wz,stV,seval,iteOmega,toNatUp,reduceCtorEq]
     refine st_call (c2) rfl (.inl rfl) ?_
     simp only[t1,t2,t3,hl4,wx,wy,wz,stV,seval,iteOmega,toNatUp,reduceCtorEq]
     refine st_call (c3) rfl (.inl rfl) ?_
     simp only[wx,wy,wz,stV,seval,iteOmega,toNatUp,reduceCtorEq]
     refine st_call (c4) rfl (.inl rfl) ?_
     simp only[wx,wy,wz,stV,seval,iteOmega,toNatUp,reduceCtorEq]
     refine st_call (cf) rfl (.inl rfl) ?_
     simp only[wx,wy,wz,stV,seval,iteOmega,toNatUp,reduceCtorEq]
     exact ret_d3 (by simp only[wx,wy,wz,stV,seval,iteOmega,toNatUp,reduceCtorEq] <;> rfl) (by simp only[wx,wy,wz,stV,seval,iteOmega,toNatUp,reduceCtorEq] <;> rfl) (by simp only[wx,wy,wz,stV,seval,iteOmega,toNatUp,reduceCtorEq])
end Go.Proofs.Ytcikhnjfkfigjaa
namespace Go.Proofs.Ytcikhnjfkfigjaa
open Go.RowKit IntWalk
set_option maxHeartbeats 3200000
theorem unB_0 {p:Pkt} (h:unE p=0):unB p=unX p:=if_pos h
theorem unB_no {p:Pkt} (h:unE p≠0):unB p=[]:=if_neg h
theorem encB_ok {h:Hd} (e:hdE h=0):encB h=hdB h:=if_pos (hdE_0.1 e)
theorem unE_hd {p:Pkt} (h:hdE p.hd≠0):unE p=hdE p.hd:=if_neg h
theorem unE_pl {p:Pkt} (h:hdE p.hd=0):unE p=xeE p.pl:=if_pos h
theorem unX_le {p:Pkt} (h:unE p=0):(unX p).length≤1280:=by
  have:=(xeE_0 (unE_0 h).2.2).2.2.1
  rw[unX_len]; omega
def sf_unsl:SFn:=⟨1,29,
 .seq (.reg [⟨some 1,.box .roBox (.t 0),none⟩,
 ⟨some 2,.mv (.k (.c .nil)),none⟩,
 ⟨some 3,.mv (.k (.c (.d (.int .i64 0)))),none⟩])
 (.seq (.reg [⟨some 8,.fieldAddr 0 (.t 1),none⟩,
 ⟨some 9,.load (.ag 13) (.t 8),none⟩,
 ⟨some 10,.call 57 [(.t 9)] none,none⟩,
 ⟨some 7,.mv (.t 10),none⟩,
 ⟨some 11,.extract (.t 7) 0,none⟩,
 ⟨some 12,.extract (.t 7) 1,none⟩,
 ⟨some 4,.mv (.t 11),none⟩,
 ⟨some 5,.mv (.t 12),none⟩])
 (.seq (.seq (.reg [⟨some 13,.mv (.t 5),none⟩,
 ⟨some 14,.bin .neq (.t 13) (.k (.c (.d (.int .i64 0)))),none⟩])
 (.cond (.t 14) (.seq (.reg [⟨some 15,.mv (.t 5),none⟩,
 ⟨some 2,.mv (.k (.c .nil)),none⟩,
 ⟨some 3,.mv (.t 15),none⟩])
 (.ret))
 (.skip)))
 (.seq (.reg [⟨some 17,.fieldAddr 13 (.t 1),none⟩,
 ⟨some 18,.load .sc (.t 17),none⟩,
 ⟨some 19,.call 23 [(.t 18)] none,none⟩,
 ⟨some 16,.mv (.t 19),none⟩,
 ⟨some 20,.extract (.t 16) 0,none⟩,
 ⟨some 21,.extract (.t 16) 1,none⟩,
 ⟨some 6,.mv (.t 20),none⟩,
 ⟨some 5,.mv (.t 21),none⟩])
 (.seq (.seq (.reg [⟨some 22,.mv (.t 5),none⟩,
 ⟨some 23,.bin .neq (.t 22) (.k (.c (.d (.int .i64 0)))),none⟩])
 (.cond (.t 23) (.seq (.reg [⟨some 24,.mv (.t 5),none⟩,
 ⟨some 2,.mv (.k (.c .nil)),none⟩,
 ⟨some 3,.mv (.t 24),none⟩])
 (.ret))
 (.skip)))
 (.seq (.reg [⟨some 25,.mv (.t 4),none⟩,
 ⟨some 26,.mv (.t 6),none⟩,
 ⟨some 27,.bldSl false 2 1 (.sl []) [(0,(.t 25)),(1,(.t 26))],none⟩,
 ⟨some 28,.call 40 [(.t 27)] none,none⟩,
 ⟨some 2,.mv (.t 28),none⟩,
 ⟨some 3,.mv (.k (.c (.d (.int .i64 0)))),none⟩])
 (.ret)))))),
 [(2,none),(3,none)]⟩
theorem cf_unsl:compFn Try.prog { own:=[],comp:=[],frz:=[],nils:=[] } Try.f38=some sf_unsl:=by kernel_rfl
theorem unsl_c (G:Glob) (p:Pkt) (hf:hdF p.hd) (hl:p.pl.length≤1000000) (hd:∀ f∈p.pl,f.da.length≤8000000000000000000):Den Try.prog G 38 [pkD p] (.tup [.c (.d (.sl ((unB p).map bD))),.c (.d (.int .i64 (unE p)))]):=by
  refine den_walk Try.func38 cf_unsl rfl rfl ?_
  have c1:=penc_c G p.hd hf
  have c2:=xenc_c G p.pl hl hd
  by_cases h1:hdE p.hd=0
  ·rw[encB_ok h1,h1] at c1
   by_cases h2:xeE p.pl=0
   ·have h0:unE p=0:=by rw[unE_pl h1,h2]
    have hle:=unX_le h0
    have cj:=join_c G [hdB p.hd,xall p.pl] (by simp) (by
      have:[hdB p.hd,xall p.pl].flatten=unX p:=by simp[unX]
      rw[this]; omega)
    have hX:[hdB p.hd,xall p.pl].flatten=unX p:=by simp[unX]
    rw[hX] at cj
    simp only[List.map_cons,List.map_nil] at cj
    rw[(xeE_0 h2).2.2.2,h2] at c2
    rw[h0,unB_0 h0]
    clear hX hle h0 h1 h2
    generalize unX p=X at *
    generalize hdB p.hd=B1 at *
    generalize xall p.pl=B2 at *
    unfold pkD
    unfold hdD at c1
    simp only[sf_unsl,putAll,wx,wy,wz,stV,seval,iteOmega,toNatUp,reduceCtorEq]
    refine st_call (c1) rfl (.inl rfl) ?_
    simp only[wx,wy,wz,stV,seval,iteOmega,toNatUp,reduceCtorEq]
    refine st_call (c2) rfl (.inl rfl) ?_
    simp only[wx,wy,wz,stV,seval,iteOmega,toNatUp,reduceCtorEq]
    refine st_call (cj) rfl (.inl rfl) ?_
    simp only[wx,wy,wz,stV,seval,iteOmega,toNatUp,reduceCtorEq]
    exact ret_d2 (by simp only[wx,wy,wz,stV,seval,iteOmega,toNatUp,reduceCtorEq]) (by simp only[wx,wy,wz,stV,seval,iteOmega,toNatUp,reduceCtorEq])
   ·have h0:unE p≠0:=by rw[unE_pl h1]; exact h2
    have g:(unE p=0)=False:=eq_false h0
    rw[unB_no h0]
    rw[show xeE p.pl=unE p from (unE_pl h1).symm] at c2
    clear h0 h1 h2
    generalize unE p=e at *
    generalize hdB p.hd=B1 at *
    generalize xeB p.pl=B2 at *
    unfold pkD
    unfold hdD at c1
    simp only[sf_unsl,putAll,wx,wy,wz,stV,seval,iteOmega,toNatUp,reduceCtorEq]
    refine st_call (c1) rfl (.inl rfl) ?_
    simp only[wx,wy,wz,stV,seval,iteOmega,toNatUp,reduceCtorEq]
    refine st_call (c2) rfl (.inl rfl) ?_
    simp only[g,wx,wy,wz,stV,seval,iteOmega,toNatUp,reduceCtorEq]
    exact ret_d2 (by simp only[wx,wy,wz,stV,seval,iteOmega,toNatUp,reduceCtorEq]) (by simp only[wx,wy,wz,stV,seval,iteOmega,toNatUp,reduceCtorEq])
  ·have h0:unE p≠0:=by rw[unE_hd h1]; exact h1
   have g:(unE p=0)=False:=eq_false h0
   rw[unB_no h0]
   rw[show hdE p.hd=unE p from (unE_hd h1).symm] at c1
   clear h0 h1 c2
   generalize unE p=e at *
   generalize encB p.hd=B1 at *
   unfold pkD
   unfold hdD at c1
   simp only[sf_unsl,putAll,wx,wy,wz,stV,seval,iteOmega,toNatUp,reduceCtorEq]
   refine st_call (c1) rfl (.inl rfl) ?_
   simp only[g,wx,wy,wz,stV,seval,iteOmega,toNatUp,reduceCtorEq]
   exact ret_d2 (by simp only[wx,wy,wz,stV,seval,iteOmega,toNatUp,reduceCtorEq]) (by simp only[wx,wy,wz,stV,seval,iteOmega,toNatUp,reduceCtorEq])
def sf_bare:SFn:=⟨1,23,
 .seq (.reg [⟨some 1,.box .roBox (.t 0),none⟩,
 ⟨some 2,.mv (.k (.c .nil)),none⟩,
 ⟨some 3,.mv (.k (.c (.d (.int .i64 0)))),none⟩])
 (.seq (.reg [⟨some 7,.load (.ag 16) (.t 1),none⟩,
 ⟨some 8,.call 38 [(.t 7)] none,none⟩,
 ⟨some 6,.mv (.t 8),none⟩,
 ⟨some 9,.extract (.t 6) 0,none⟩,
 ⟨some 10,.extract (.t 6) 1,none⟩,
 ⟨some 4,.mv (.t 9),none⟩,
 ⟨some 5,.mv (.t 10),none⟩])
 (.seq (.seq (.reg [⟨some 11,.mv (.t 5),none⟩,
 ⟨some 12,.bin .neq (.t 11) (.k (.c (.d (.int .i64 0)))),none⟩])
 (.cond (.t 12) (.seq (.reg [⟨some 13,.mv (.t 5),none⟩,
 ⟨some 2,.mv (.k (.c .nil)),none⟩,
 ⟨some 3,.mv (.t 13),none⟩])
 (.ret))
 (.skip)))
 (.seq (.seq (.reg [⟨some 14,.fieldAddr 14 (.t 1),none⟩,
 ⟨some 15,.load .sc (.t 14),none⟩,
 ⟨some 16,.len (.t 15),none⟩,
 ⟨some 17,.bin .gtr (.t 16) (.k (.c (.d (.int .i64 0)))),none⟩,
 ⟨some 18,.mv (.t 17),none⟩,
 ⟨some 19,.fieldAddr 15 (.t 1),some (18,false)⟩,
 ⟨some 20,.load .sc (.t 19),some (18,false)⟩,
 ⟨some 21,.pick (.t 18) (.k (.c (.d (.bool true)))) (.t 20),none⟩])
 (.cond (.t 21) (.seq (.reg [⟨some 2,.mv (.k (.c .nil)),none⟩,
 ⟨some 3,.mv (.k (.c (.d (.int .i64 3)))),none⟩])
 (.ret))
 (.skip)))
 (.seq (.reg [⟨some 22,.mv (.t 4),none⟩,
 ⟨some 2,.mv (.t 22),none⟩,
 ⟨some 3,.mv (.k (.c (.d (.int .i64 0)))),none⟩])
 (.ret))))),
 [(2,none),(3,none)]⟩
theorem cf_bare:compFn Try.prog { own:=[],comp:=[],frz:=[],nils:=[] } Try.f21=some sf_bare:=by kernel_rfl
theorem bare_c (G:Glob) (p:Pkt) (hf:hdF p.hd) (hl:p.pl.length≤1000000) (hd:∀ f∈p.pl,f.da.length≤8000000000000000000):Den Try.prog G 21 [pkD p] (.tup [.c (.d (.sl ((brB p).map bD))),.c (.d (.int .i64 (brE p)))]):=by
  refine den_walk Try.func21 cf_bare rfl rfl ?_
  have c1:=unsl_c G p hf hl hd
  by_cases h0:unE p=0
  ·have e:brE p=if p.se.length=0∧p.gu=false then 0 else 3:=if_pos h0
   rw[unB_0 h0,h0] at c1
   rcases Nat.eq_zero_or_pos p.se.length with h1 | h1
   ·have s0:p.se=[]:=List.eq_nil_of_length_eq_zero h1
    cases h2:p.gu
    ·have e0:brE p=0:=by rw[e,if_pos ⟨h1,h2⟩]
     have eB:brB p=unX p:=if_pos e0
     rw[e0,eB]
     clear e e0 eB h0 h1
     generalize unX p=X at *
     unfold pkD at *
     rw[h2,s0] at *
     simp only[sf_bare,putAll,wx,wy,wz,stV,seval,iteOmega,toNatUp,reduceCtorEq]
     refine st_call (c1) rfl (.inl rfl) ?_
     simp only[wx,wy,wz,stV,seval,iteOmega,toNatUp,reduceCtorEq]
     exact ret_d2 (by simp only[wx,wy,wz,stV,seval,iteOmega,toNatUp,reduceCtorEq]) (by simp only[wx,wy,wz,stV,seval,iteOmega,toNatUp,reduceCtorEq])
    ·have e0:brE p=3:=by rw[e,if_neg (by rw[h2]; simp)]
     have eB:brB p=[]:=if_neg (by rw[e0]; decide)
     rw[e0,eB]
     clear e e0 eB h0 h1
     generalize unX p=X at *
     unfold pkD at *
     rw[h2,s0] at *
     simp only[sf_bare,putAll,wx,wy,wz,stV,seval,iteOmega,toNatUp,reduceCtorEq]
     refine st_call (c1) rfl (.inl rfl) ?_
     simp only[wx,wy,wz,stV,seval,iteOmega,toNatUp,reduceCtorEq]
     exact ret_d2 (by simp only[wx,wy,wz,stV,seval,iteOmega,toNatUp,reduceCtorEq]) (by simp only[wx,wy,wz,stV,seval,iteOmega,toNatUp,reduceCtorEq])
   ·have e0:brE p=3:=by rw[e,if_neg (by omega)]
    have eB:brB p=[]:=if_neg (by rw[e0]; decide)
    rw[e0,eB]
    clear e e0 eB h0
    generalize unX p=X at *
    unfold pkD at *
    simp only[sf_bare,putAll,wx,wy,wz,stV,seval,iteOmega,toNatUp,reduceCtorEq]
    refine st_call (c1) rfl (.inl rfl) ?_
    simp only[wx,wy,wz,stV,seval,iteOmega,toNatUp,reduceCtorEq]
    exact ret_d2 (by simp only[wx,wy,wz,stV,seval,iteOmega,toNatUp,reduceCtorEq]) (by simp only[wx,wy,wz,stV,seval,iteOmega,toNatUp,reduceCtorEq])
  ·have e:brE p=unE p:=if_neg h0
   have eB:brB p=[]:=if_neg (by rw[e]; exact h0)
   have g:(unE p=0)=False:=eq_false h0
   rw[e,eB]
   clear e eB h0
   generalize unE p=E at *
   generalize unB p=X at *
   unfold pkD at *
   simp only[sf_bare,putAll,wx,wy,wz,stV,seval,iteOmega,toNatUp,reduceCtorEq]
   refine st_call (c1) rfl (.inl rfl) ?_
   simp only[g,wx,wy,wz,stV,seval,iteOmega,toNatUp,reduceCtorEq]
   exact ret_d2 (by simp only[wx,wy,wz,stV,seval,iteOmega,toNatUp,reduceCtorEq]) (by simp only[wx,wy,wz,stV,seval,iteOmega,toNatUp,reduceCtorEq])
theorem pkRE_dec {b:List UInt8} (h:decE b≠0):pkRE b=decE b∧pkRP b=pkZ:=by
  have e:pkRE b=decE b:=if_neg h
  exact⟨e,if_neg (by rw[e]; exact h)⟩
theorem pkRE_rest {b:List UInt8} (h:decE b=0):pkRE b=eaE (b.drop 48)∧decR b=b.drop 48∧decH b=hdG b:=⟨if_pos h,if_pos h,if_pos h⟩
def sf_pkrd:SFn:=⟨1,30,
 .seq (.reg [⟨some 2,.alloc [(.d (.int .i64 0)),(.d (.int .i64 0)),(.d (.int .i64 0)),(.d (.int .i64 0)),(.d (.int .i64 0)),(.d (.int .i64 0)),(.d (.int .u32 0)),(.d (.int .u32 0)),(.d (.int .u32 0)),(.d (.int .u64 0)),(.d (.int .u64 0)),(.d (.int .u64 0)),(.d (.int .u64 0)),.nil,.nil,(.d (.bool false))],none⟩,
 ⟨some 3,.mv (.k (.c (.d (.int .i64 0)))),none⟩])
 (.seq (.reg [⟨some 9,.mv (.t 0),none⟩,
 ⟨some 10,.call 46 [(.t 9)] none,none⟩,
 ⟨some 8,.mv (.t 10),none⟩,
 ⟨some 11,.extract (.t 8) 0,none⟩,
 ⟨some 12,.extract (.t 8) 1,none⟩,
 ⟨some 13,.extract (.t 8) 2,none⟩,
 ⟨some 4,.alloc [(.d (.int .i64 0)),(.d (.int .i64 0)),(.d (.int .i64 0)),(.d (.int .i64 0)),(.d (.int .i64 0)),(.d (.int .i64 0)),(.d (.int .u32 0)),(.d (.int .u32 0)),(.d (.int .u32 0)),(.d (.int .u64 0)),(.d (.int .u64 0)),(.d (.int .u64 0)),(.d (.int .u64 0))],none⟩,
 ⟨none,.store (.ag 13) (.t 4) (.t 11),none⟩,
 ⟨some 5,.mv (.t 12),none⟩,
 ⟨some 6,.mv (.t 13),none⟩])
 (.seq (.seq (.reg [⟨some 14,.mv (.t 6),none⟩,
 ⟨some 15,.bin .neq (.t 14) (.k (.c (.d (.int .i64 0)))),none⟩])
 (.cond (.t 15) (.seq (.reg [⟨some 16,.build [(.d (.int .i64 0)),(.d (.int .i64 0)),(.d (.int .i64 0)),(.d (.int .i64 0)),(.d (.int .i64 0)),(.d (.int .i64 0)),(.d (.int .u32 0)),(.d (.int .u32 0)),(.d (.int .u32 0)),(.d (.int .u64 0)),(.d (.int .u64 0)),(.d (.int .u64 0)),(.d (.int .u64 0)),.nil,.nil,(.d (.bool false))] [],none⟩,
 ⟨some 17,.mv (.t 6),none⟩,
 ⟨none,.store (.ag 16) (.t 2) (.t 16),none⟩,
 ⟨some 3,.mv (.t 17),none⟩])
 (.ret))
 (.skip)))
 (.seq (.reg [⟨some 19,.mv (.t 5),none⟩,
 ⟨some 20,.call 45 [(.t 19)] none,none⟩,
 ⟨some 18,.mv (.t 20),none⟩,
 ⟨some 21,.extract (.t 18) 0,none⟩,
 ⟨some 22,.extract (.t 18) 1,none⟩,
 ⟨some 7,.mv (.t 21),none⟩,
 ⟨some 6,.mv (.t 22),none⟩])
 (.seq (.seq (.reg [⟨some 23,.mv (.t 6),none⟩,
 ⟨some 24,.bin .neq (.t 23) (.k (.c (.d (.int .i64 0)))),none⟩])
 (.cond (.t 24) (.seq (.reg [⟨some 25,.build [(.d (.int .i64 0)),(.d (.int .i64 0)),(.d (.int .i64 0)),(.d (.int .i64 0)),(.d (.int .i64 0)),(.d (.int .i64 0)),(.d (.int .u32 0)),(.d (.int .u32 0)),(.d (.int .u32 0)),(.d (.int .u64 0)),(.d (.int .u64 0)),(.d (.int .u64 0)),(.d (.int .u64 0)),.nil,.nil,(.d (.bool false))] [],none⟩,
 ⟨some 26,.mv (.t 6),none⟩,
 ⟨none,.store (.ag 16) (.t 2) (.t 25),none⟩,
 ⟨some 3,.mv (.t 26),none⟩])
 (.ret))
 (.skip)))
 (.seq (.reg [⟨some 27,.load (.ag 13) (.t 4),none⟩,
 ⟨some 28,.mv (.t 7),none⟩,
 ⟨some 29,.build [(.d (.int .i64 0)),(.d (.int .i64 0)),(.d (.int .i64 0)),(.d (.int .i64 0)),(.d (.int .i64 0)),(.d (.int .i64 0)),(.d (.int .u32 0)),(.d (.int .u32 0)),(.d (.int .u32 0)),(.d (.int .u64 0)),(.d (.int .u64 0)),(.d (.int .u64 0)),(.d (.int .u64 0)),.nil,.nil,(.d (.bool false))] [(0,13,(.t 27)),(13,1,(.t 28))],none⟩,
 ⟨none,.store (.ag 16) (.t 2) (.t 29),none⟩,
 ⟨some 3,.mv (.k (.c (.d (.int .i64 0)))),none⟩])
 (.ret)))))),
 [(2,(some (.ag 16))),(3,none)]⟩
theorem cf_pkrd:compFn Try.prog { own:=[],comp:=[],frz:=[],nils:=[] } Try.f17=some sf_pkrd:=by kernel_rfl
theorem pkrd_c (G:Glob) (b:List UInt8) (hb:b.length≤9000000000000000000):Den Try.prog G 17 [.sl (b.map bD)] (.tup [.c (.d (pkD (pkRP b))),.c (.d (.int .i64 (pkRE b)))]):=by
  refine den_walk Try.func17 cf_pkrd rfl rfl ?_
  have c1:=pdec_c G b (by omega)
  by_cases h1:decE b=0
  ·obtain⟨e1,e2,e3⟩:=pkRE_rest h1
   have c2:=xdec_c G (b.drop 48) (by simp; omega)
   rw[h1,e2,e3] at c1
   by_cases h2:eaE (b.drop 48)=0
   ·have e4:pkRP b=⟨hdG b,xdL (b.drop 48),[],false⟩:=if_pos (by rw[e1,h2])
    rw[e4,e1,h2]
    rw[h2] at c2
    clear e1 e2 e3 e4 h1 h2
    generalize hdG b=q at *
    generalize b.drop 48=R at *
    generalize xdL R=L at *
    unfold pkD
    unfold hdD at c1
    simp only[sf_pkrd,putAll,wx,wy,wz,stV,seval,iteOmega,toNatUp,reduceCtorEq]
    refine st_call (c1) rfl (.inl rfl) ?_
    simp only[wx,wy,wz,stV,seval,iteOmega,toNatUp,reduceCtorEq]
    refine st_call (c2) rfl (.inl rfl) ?_
    simp only[wx,wy,wz,stV,seval,iteOmega,toNatUp,reduceCtorEq]
    exact ret_d2 (by simp only[wx,wy,wz,stV,seval,iteOmega,toNatUp,reduceCtorEq] <;> rfl) (by simp only[wx,wy,wz,stV,seval,iteOmega,toNatUp,reduceCtorEq])
   ·have e4:pkRP b=pkZ:=if_neg (by rw[e1]; exact h2)
    have g:(eaE (b.drop 48)=0)=False:=eq_false h2
    rw[e4,e1]
    clear e1 e2 e3 e4 h1 h2
    generalize eaE (b.drop 48)=E at *
    generalize hdG b=q at *
    generalize b.drop 48=R at *
    generalize xdL R=L at *
    unfold pkD pkZ Hd.z
    unfold hdD at c1
    simp only[sf_pkrd,putAll,wx,wy,wz,stV,seval,iteOmega,toNatUp,reduceCtorEq]
    refine st_call (c1) rfl (.inl rfl) ?_
    simp only[wx,wy,wz,stV,seval,iteOmega,toNatUp,reduceCtorEq]
    refine st_call (c2) rfl (.inl rfl) ?_
    simp only[g,wx,wy,wz,stV,seval,iteOmega,toNatUp,reduceCtorEq]
    exact ret_d2 (by simp only[wx,wy,wz,stV,seval,iteOmega,toNatUp,reduceCtorEq] <;> rfl) (by simp only[wx,wy,wz,stV,seval,iteOmega,toNatUp,reduceCtorEq])
  ·obtain⟨e1,e4⟩:=pkRE_dec h1
   have g:(decE b=0)=False:=eq_false h1
   rw[e4,e1]
   clear e1 e4 h1
   generalize decE b=E at *
   generalize decR b=R at *
   generalize decH b=q at *
   unfold pkD pkZ Hd.z
   unfold hdD at c1
   simp only[sf_pkrd,putAll,wx,wy,wz,stV,seval,iteOmega,toNatUp,reduceCtorEq]
   refine st_call (c1) rfl (.inl rfl) ?_
   simp only[g,wx,wy,wz,stV,seval,iteOmega,toNatUp,reduceCtorEq]
   exact ret_d2 (by simp only[wx,wy,wz,stV,seval,iteOmega,toNatUp,reduceCtorEq] <;> rfl) (by simp only[wx,wy,wz,stV,seval,iteOmega,toNatUp,reduceCtorEq])
theorem ptB_no {key:List UInt8} {p:Pkt} {n:List UInt8} {e:Int} (h:ptE key p n=e) (he:e≠0):ptB key p n=[]:=if_neg (by rw[h]; exact he)
theorem ptE_1 {key:List UInt8} {p:Pkt} {n:List UInt8} (h:key.length≠32):ptE key p n=5:=if_pos h
theorem ptE_2 {key:List UInt8} {p:Pkt} {n:List UInt8} (h1:key.length=32) (h:n.length<16∨32<n.length):ptE key p n=4:=by
  unfold ptE; rw[if_neg (by omega),if_pos h]
theorem ptE_3 {key:List UInt8} {p:Pkt} {n:List UInt8} (h1:key.length=32) (h2:16≤n.length∧n.length≤32) (h:unE p≠0):ptE key p n=unE p:=by
  unfold ptE; rw[if_neg (by omega),if_neg (by omega),if_pos h]
theorem ptE_4 {key:List UInt8} {p:Pkt} {n:List UInt8} (h1:key.length=32) (h2:16≤n.length∧n.length≤32) (h3:unE p=0) (h:xeE p.se≠0):ptE key p n=xeE p.se:=by
  unfold ptE; rw[if_neg (by omega),if_neg (by omega),if_neg (by simp[h3]),if_pos h]
theorem ptE_5 {key:List UInt8} {p:Pkt} {n:List UInt8} (h1:key.length=32) (h2:16≤n.length∧n.length≤32) (h3:unE p=0) (h4:xeE p.se=0) (h:(fnL p.pl 1028).length≠0):ptE key p n=3:=by
  unfold ptE; rw[if_neg (by omega),if_neg (by omega),if_neg (by simp[h3]),if_neg (by simp[h4]),if_pos h]
theorem ptE_6 {key:List UInt8} {p:Pkt} {n:List UInt8} (h1:key.length=32) (h2:16≤n.length∧n.length≤32) (h3:unE p=0) (h4:xeE p.se=0) (h5:(fnL p.pl 1028).length=0) (h:p.pl.length=24):ptE key p n=8:=by
  unfold ptE; rw[if_neg (by omega),if_neg (by omega),if_neg (by simp[h3]),if_neg (by simp[h4]),if_neg (by simp[h5]),if_pos h]
theorem ptE_7 {key:List UInt8} {p:Pkt} {n:List UInt8} (h1:key.length=32) (h2:16≤n.length∧n.length≤32) (h3:unE p=0) (h4:xeE p.se=0) (h5:(fnL p.pl 1028).length=0) (h6:p.pl.length≠24):ptE key p n=if xeE [ptG key p n]≠0∨1280<(unX p).length+xtot [ptG key p n] then 2 else 0:=by
  unfold ptE; rw[if_neg (by omega),if_neg (by omega),if_neg (by simp[h3]),if_neg (by simp[h4]),if_neg (by simp[h5]),if_neg h6]
def sf_pprt:SFn:=⟨3,78,
 .seq (.reg [⟨some 4,.box .roBox (.t 1),none⟩,
 ⟨some 6,.mv (.k (.c .nil)),none⟩,
 ⟨some 7,.mv (.k (.c (.d (.int .i64 0)))),none⟩])
 (.seq (.seq (.reg [⟨some 14,.mv (.t 0),none⟩,
 ⟨some 15,.len (.t 14),none⟩,
 ⟨some 16,.bin .neq (.t 15) (.k (.c (.d (.int .i64 32)))),none⟩])
 (.cond (.t 16) (.seq (.reg [⟨some 6,.mv (.k (.c .nil)),none⟩,
 ⟨some 7,.mv (.k (.c (.d (.int .i64 5)))),none⟩])
 (.ret))
 (.skip)))
 (.seq (.seq (.reg [⟨some 17,.mv (.t 2),none⟩,
 ⟨some 18,.len (.t 17),none⟩,
 ⟨some 19,.call 37 [(.t 18)] none,none⟩,
 ⟨some 20,.un .not (.t 19),none⟩])
 (.cond (.t 20) (.seq (.reg [⟨some 6,.mv (.k (.c .nil)),none⟩,
 ⟨some 7,.mv (.k (.c (.d (.int .i64 4)))),none⟩])
 (.ret))
 (.skip)))
 (.seq (.reg [⟨some 22,.load (.ag 16) (.t 4),none⟩,
 ⟨some 23,.call 38 [(.t 22)] none,none⟩,
 ⟨some 21,.mv (.t 23),none⟩,
 ⟨some 24,.extract (.t 21) 0,none⟩,
 ⟨some 25,.extract (.t 21) 1,none⟩,
 ⟨some 8,.mv (.t 24),none⟩,
 ⟨some 9,.mv (.t 25),none⟩])
 (.seq (.seq (.reg [⟨some 26,.mv (.t 9),none⟩,
 ⟨some 27,.bin .neq (.t 26) (.k (.c (.d (.int .i64 0)))),none⟩])
 (.cond (.t 27) (.seq (.reg [⟨some 28,.mv (.t 9),none⟩,
 ⟨some 6,.mv (.k (.c .nil)),none⟩,
 ⟨some 7,.mv (.t 28),none⟩])
 (.ret))
 (.skip)))
 (.seq (.reg [⟨some 30,.fieldAddr 14 (.t 4),none⟩,
 ⟨some 31,.load .sc (.t 30),none⟩,
 ⟨some 32,.call 23 [(.t 31)] none,none⟩,
 ⟨some 29,.mv (.t 32),none⟩,
 ⟨some 33,.extract (.t 29) 0,none⟩,
 ⟨some 34,.extract (.t 29) 1,none⟩,
 ⟨some 10,.mv (.t 33),none⟩,
 ⟨some 9,.mv (.t 34),none⟩])
 (.seq (.seq (.reg [⟨some 35,.mv (.t 9),none⟩,
 ⟨some 36,.bin .neq (.t 35) (.k (.c (.d (.int .i64 0)))),none⟩])
 (.cond (.t 36) (.seq (.reg [⟨some 37,.mv (.t 9),none⟩,
 ⟨some 6,.mv (.k (.c .nil)),none⟩,
 ⟨some 7,.mv (.t 37),none⟩])
 (.ret))
 (.skip)))
 (.seq (.seq (.reg [⟨some 38,.fieldAddr 13 (.t 4),none⟩,
 ⟨some 39,.load .sc (.t 38),none⟩,
 ⟨some 40,.call 39 [(.t 39),(.k (.c (.d (.int .i64 1028))))] none,none⟩,
 ⟨some 41,.len (.t 40),none⟩,
 ⟨some 42,.bin .gtr (.t 41) (.k (.c (.d (.int .i64 0)))),none⟩])
 (.cond (.t 42) (.seq (.reg [⟨some 6,.mv (.k (.c .nil)),none⟩,
 ⟨some 7,.mv (.k (.c (.d (.int .i64 3)))),none⟩])
 (.ret))
 (.skip)))
 (.seq (.seq (.reg [⟨some 43,.fieldAddr 13 (.t 4),none⟩,
 ⟨some 44,.load .sc (.t 43),none⟩,
 ⟨some 45,.len (.t 44),none⟩,
 ⟨some 46,.bin .eql (.t 45) (.k (.c (.d (.int .i64 24)))),none⟩])
 (.cond (.t 46) (.seq (.reg [⟨some 6,.mv (.k (.c .nil)),none⟩,
 ⟨some 7,.mv (.k (.c (.d (.int .i64 8)))),none⟩])
 (.ret))
 (.skip)))
 (.seq (.reg [⟨some 48,.mv (.t 0),none⟩,
 ⟨some 49,.mv (.t 8),none⟩,
 ⟨some 50,.mv (.t 2),none⟩,
 ⟨some 51,.bldSl false 2 1 (.sl []) [(0,(.t 49)),(1,(.t 50))],none⟩,
 ⟨some 52,.mv (.t 10),none⟩,
 ⟨some 53,.call 24 [(.t 48),(.t 51),(.t 52)] none,none⟩,
 ⟨some 47,.mv (.t 53),none⟩,
 ⟨some 54,.extract (.t 47) 0,none⟩,
 ⟨some 55,.extract (.t 47) 1,none⟩,
 ⟨some 11,.mv (.t 54),none⟩,
 ⟨some 12,.mv (.t 55),none⟩])
 (.seq (.reg [⟨some 57,.mv (.t 2),none⟩,
 ⟨some 58,.mv (.t 11),none⟩,
 ⟨some 59,.call 34 [(.t 57),(.t 58)] none,none⟩,
 ⟨some 60,.bldSl false 1 2 (.agg [(.int .i64 0),(.sl [])]) [(0,(.t 59))],none⟩,
 ⟨some 61,.call 23 [(.t 60)] none,none⟩,
 ⟨some 56,.mv (.t 61),none⟩,
 ⟨some 62,.extract (.t 56) 0,none⟩,
 ⟨some 63,.extract (.t 56) 1,none⟩,
 ⟨some 13,.mv (.t 62),none⟩,
 ⟨some 9,.mv (.t 63),none⟩])
 (.seq (.seq (.reg [⟨some 64,.mv (.t 9),none⟩,
 ⟨some 65,.bin .neq (.t 64) (.k (.c (.d (.int .i64 0)))),none⟩,
 ⟨some 66,.mv (.t 65),none⟩,
 ⟨some 67,.mv (.t 8),some (66,false)⟩,
 ⟨some 68,.len (.t 67),some (66,false)⟩,
 ⟨some 69,.mv (.t 13),some (66,false)⟩,
 ⟨some 70,.len (.t 69),some (66,false)⟩,
 ⟨some 71,.bin .add (.t 68) (.t 70),some (66,false)⟩,
 ⟨some 72,.bin .gtr (.t 71) (.k (.c (.d (.int .i64 1280)))),some (66,false)⟩,
 ⟨some 73,.pick (.t 66) (.k (.c (.d (.bool true)))) (.t 72),none⟩])
 (.cond (.t 73) (.seq (.reg [⟨some 6,.mv (.k (.c .nil)),none⟩,
 ⟨some 7,.mv (.k (.c (.d (.int .i64 2)))),none⟩])
 (.ret))
 (.skip)))
 (.seq (.reg [⟨some 74,.mv (.t 8),none⟩,
 ⟨some 75,.mv (.t 13),none⟩,
 ⟨some 76,.bldSl false 2 1 (.sl []) [(0,(.t 74)),(1,(.t 75))],none⟩,
 ⟨some 77,.call 40 [(.t 76)] (some (0,1)),none⟩,
 ⟨some 6,.mv (.t 77),none⟩,
 ⟨some 7,.mv (.k (.c (.d (.int .i64 0)))),none⟩])
 (.ret))))))))))))),
 [(6,none),(7,none)]⟩
theorem cf_pprt:compFn Try.prog { own:=[77],comp:=[],frz:=[],nils:=[] } Try.f12=some sf_pprt:=by kernel_rfl
theorem pprt_f (G:Glob) (key:List UInt8) (p:Pkt) (n:List UInt8) (hk:key.length≤9223372036854775807) (hf:hdF p.hd) (hl:p.pl.length≤1000000) (hd:∀ f∈p.pl,f.da.length≤8000000000000000000) (hl2:p.se.length≤1000000) (hd2:∀ f∈p.se,f.da.length≤8000000000000000000) (hn:n.length≤9223372036854775807):Den Try.prog G 12 [.sl (key.map bD),pkD p,.sl (n.map bD)] (.tup [.c (.fr 1 ((ptB key p n).map bD)),.c (.d (.int .i64 (ptE key p n)))]):=by
  refine den_walk Try.func12 cf_pprt rfl rfl ?_
  have cf:=pfit_c G (n.length:Int)
  have c1:=unsl_c G p hf hl hd
  have c2:=xenc_c G p.se hl2 hd2
  have c3:=xfnd_c G p.pl 1028 hl
  by_cases h1:key.length=32
  ·by_cases h2:16≤n.length∧n.length≤32
   ·rw[decide_eq_true (by omega)] at cf
    by_cases h3:unE p=0
    ·have hXl:=unX_le h3
     rw[unB_0 h3,h3] at c1
     by_cases h4:xeE p.se=0
     ·obtain⟨_,_,s3,s4⟩:=xeE_0 h4
      rw[h4,s4] at c2
      by_cases h5:(fnL p.pl 1028).length=0
      ·by_cases h6:p.pl.length=24
       ·have e:=ptE_6 (key:=key) (n:=n) h1 h2 h3 h4 h5 h6
        rw[ptB_no e (by decide),e]
        clear e h3 h4
        generalize unX p=X at *
        generalize xall p.se=Y at *
        generalize fnL p.pl 1028=Z at *
        unfold pkD at *
        simp only[sf_pprt,putAll,wx,wy,wz,stV,seval,iteOmega,toNatUp,reduceCtorEq,h1]
        refine st_call (cf) rfl (.inl rfl) ?_
        simp only[wx,wy,wz,stV,seval,iteOmega,toNatUp,reduceCtorEq]
        refine st_call (c1) rfl (.inl rfl) ?_
        simp only[wx,wy,wz,stV,seval,iteOmega,toNatUp,reduceCtorEq]
        refine st_call (c2) rfl (.inl rfl) ?_
        simp only[wx,wy,wz,stV,seval,iteOmega,toNatUp,reduceCtorEq]
        refine st_call (c3) rfl (.inl rfl) ?_
        simp only[h5,h6,wx,wy,wz,stV,seval,iteOmega,toNatUp,reduceCtorEq]
        exact ret_f2 (by simp only[wx,wy,wz,stV,seval,iteOmega,toNatUp,reduceCtorEq]) (by simp only[wx,wy,wz,stV,seval,iteOmega,toNatUp,reduceCtorEq])
       ·have e7:=ptE_7 (key:=key) (n:=n) h1 h2 h3 h4 h5 h6
        have hae:aeE key [unX p,n] ((xall p.se).length:Int)=0:=ae_two h1 (by omega) (by omega) (by rw[xall_len]; omega)
        have hsl:(ptS key p n).length=16+xtot p.se:=by unfold ptS; rw[sealV_ok hae,List.length_append,tagM_len,strS_len,xall_len]
        have c4:=seal_c G key [unX p,n] (xall p.se) hk (by simp) (fun x hx=>by simp at hx; rcases hx with rfl | rfl <;> omega) (by rw[xall_len]; omega)
        rw[hae,show sealV key [unX p,n] (xall p.se)=ptS key p n from rfl] at c4
        have c5:=grd_c G n (ptS key p n) (by omega) (by omega)
        have hgl:(grD n (ptS key p n)).length≤4000:=by rw[grD_len]; omega
        have c6:=xenc_c G [ptG key p n] (by simp) (fun f hf=>by rw[List.mem_singleton.1 hf]; show (grD n (ptS key p n)).length≤_; omega)
        rw[show fdD (gdF n (ptS key p n))=fdD (ptG key p n) from rfl] at c5
        rw[List.map_singleton] at c6
        by_cases h7:xeE [ptG key p n]=0
        ·obtain⟨_,_,g3,g4⟩:=xeE_0 h7
         rw[h7,g4] at c6
         have hGl:=xall_len [ptG key p n]
         rcases Nat.lt_or_ge 1280 ((unX p).length+xtot [ptG key p n]) with h8 | h8
         ·have e:ptE key p n=2:=by rw[e7,if_pos (.inr h8)]
          rw[ptB_no e (by decide),e]
          rw[← hGl] at h8
          have g8:(((unX p).length:Int)+((xall [ptG key p n]).length:Int)>1280)=True:=eq_true (by omega)
          clear e e7 h3 h4 h7 hae hsl
          unfold sls at c4
          simp only[List.map_cons,List.map_nil] at c4
          generalize xall [ptG key p n]=W at *
          generalize ptG key p n=g at *
          generalize ptS key p n=S at *
          generalize unX p=X at *
          generalize xall p.se=Y at *
          generalize fnL p.pl 1028=Z at *
          unfold pkD fdD at *
          simp only[sf_pprt,putAll,wx,wy,wz,stV,seval,iteOmega,toNatUp,reduceCtorEq,h1]
          refine st_call (cf) rfl (.inl rfl) ?_
          simp only[wx,wy,wz,stV,seval,iteOmega,toNatUp,reduceCtorEq]
          refine st_call (c1) rfl (.inl rfl) ?_
          simp only[wx,wy,wz,stV,seval,iteOmega,toNatUp,reduceCtorEq]
          refine st_call (c2) rfl (.inl rfl) ?_
          simp only[wx,wy,wz,stV,seval,iteOmega,toNatUp,reduceCtorEq]
          refine st_call (c3) rfl (.inl rfl) ?_
          simp only[h5,h6,wx,wy,wz,stV,seval,iteOmega,toNatUp,reduceCtorEq]
          refine st_call (c4) rfl (.inl rfl) ?_
          simp only[wx,wy,wz,stV,seval,iteOmega,toNatUp,reduceCtorEq]
          refine st_call (c5) rfl (.inl rfl) ?_
          simp only[wx,wy,wz,stV,seval,iteOmega,toNatUp,reduceCtorEq]
          refine st_call (c6) rfl (.inl rfl) ?_
          simp only[g8,wx,wy,wz,stV,seval,iteOmega,toNatUp,reduceCtorEq]
          exact ret_f2 (by simp only[wx,wy,wz,stV,seval,iteOmega,toNatUp,reduceCtorEq]) (by simp only[wx,wy,wz,stV,seval,iteOmega,toNatUp,reduceCtorEq])
         ·have e:ptE key p n=0:=by rw[e7,if_neg (by omega)]
          have eB:ptB key p n=unX p++xall [ptG key p n]:=if_pos e
          have cj:=join_c G [unX p,xall [ptG key p n]] (by simp) (by simp; omega)
          have hfl:[unX p,xall [ptG key p n]].flatten=ptB key p n:=by rw[eB]; simp
          rw[hfl] at cj
          simp only[List.map_cons,List.map_nil] at cj
          rw[e]
          rw[← hGl] at h8
          have g8:(((unX p).length:Int)+((xall [ptG key p n]).length:Int)>1280)=False:=eq_false (by omega)
          clear e e7 h3 h4 h7 hae hsl eB hfl
          unfold sls at c4
          simp only[List.map_cons,List.map_nil] at c4
          generalize ptB key p n=V at *
          generalize xall [ptG key p n]=W at *
          generalize ptG key p n=g at *
          generalize ptS key p n=S at *
          generalize unX p=X at *
          generalize xall p.se=Y at *
          generalize fnL p.pl 1028=Z at *
          unfold pkD fdD at *
          simp only[sf_pprt,putAll,wx,wy,wz,stV,seval,iteOmega,toNatUp,reduceCtorEq,h1]
          refine st_call (cf) rfl (.inl rfl) ?_
          simp only[wx,wy,wz,stV,seval,iteOmega,toNatUp,reduceCtorEq]
          refine st_call (c1) rfl (.inl rfl) ?_
          simp only[wx,wy,wz,stV,seval,iteOmega,toNatUp,reduceCtorEq]
          refine st_call (c2) rfl (.inl rfl) ?_
          simp only[wx,wy,wz,stV,seval,iteOmega,toNatUp,reduceCtorEq]
          refine st_call (c3) rfl (.inl rfl) ?_
          simp only[h5,h6,wx,wy,wz,stV,seval,iteOmega,toNatUp,reduceCtorEq]
          refine st_call (c4) rfl (.inl rfl) ?_
          simp only[wx,wy,wz,stV,seval,iteOmega,toNatUp,reduceCtorEq]
          refine st_call (c5) rfl (.inl rfl) ?_
          simp only[wx,wy,wz,stV,seval,iteOmega,toNatUp,reduceCtorEq]
          refine st_call (c6) rfl (.inl rfl) ?_
          simp only[g8,wx,wy,wz,stV,seval,iteOmega,toNatUp,reduceCtorEq]
          refine st_call (cj) rfl (.inl rfl) ?_
          simp only[wx,wy,wz,stV,seval,iteOmega,toNatUp,reduceCtorEq]
          exact ret_f2 (by simp only[wx,wy,wz,stV,seval,iteOmega,toNatUp,reduceCtorEq]) (by simp only[wx,wy,wz,stV,seval,iteOmega,toNatUp,reduceCtorEq])
        ·have e:ptE key p n=2:=by rw[e7,if_pos (.inl h7)]
         rw[ptB_no e (by decide),e]
         have g7:(xeE [ptG key p n]=0)=False:=eq_false h7
         clear e e7 h3 h4 h7 hae hsl
         unfold sls at c4
         simp only[List.map_cons,List.map_nil] at c4
         generalize xeE [ptG key p n]=E at *
         generalize xeB [ptG key p n]=W at *
         generalize ptG key p n=g at *
         generalize ptS key p n=S at *
         generalize unX p=X at *
         generalize xall p.se=Y at *
         generalize fnL p.pl 1028=Z at *
         unfold pkD fdD at *
         simp only[sf_pprt,putAll,wx,wy,wz,stV,seval,iteOmega,toNatUp,reduceCtorEq,h1]
         refine st_call (cf) rfl (.inl rfl) ?_
         simp only[wx,wy,wz,stV,seval,iteOmega,toNatUp,reduceCtorEq]
         refine st_call (c1) rfl (.inl rfl) ?_
         simp only[wx,wy,wz,stV,seval,iteOmega,toNatUp,reduceCtorEq]
         refine st_call (c2) rfl (.inl rfl) ?_
         simp only[wx,wy,wz,stV,seval,iteOmega,toNatUp,reduceCtorEq]
         refine st_call (c3) rfl (.inl rfl) ?_
         simp only[h5,h6,wx,wy,wz,stV,seval,iteOmega,toNatUp,reduceCtorEq]
         refine st_call (c4) rfl (.inl rfl) ?_
         simp only[wx,wy,wz,stV,seval,iteOmega,toNatUp,reduceCtorEq]
         refine st_call (c5) rfl (.inl rfl) ?_
         simp only[wx,wy,wz,stV,seval,iteOmega,toNatUp,reduceCtorEq]
         refine st_call (c6) rfl (.inl rfl) ?_
         simp only[g7,wx,wy,wz,stV,seval,iteOmega,toNatUp,reduceCtorEq]
         exact ret_f2 (by simp only[wx,wy,wz,stV,seval,iteOmega,toNatUp,reduceCtorEq]) (by simp only[wx,wy,wz,stV,seval,iteOmega,toNatUp,reduceCtorEq])
      ·have e:=ptE_5 (key:=key) (n:=n) h1 h2 h3 h4 h5
       rw[ptB_no e (by decide),e]
       clear e h3 h4
       generalize unX p=X at *
       generalize xall p.se=Y at *
       generalize fnL p.pl 1028=Z at *
       unfold pkD at *
       simp only[sf_pprt,putAll,wx,wy,wz,stV,seval,iteOmega,toNatUp,reduceCtorEq,h1]
       refine st_call (cf) rfl (.inl rfl) ?_
       simp only[wx,wy,wz,stV,seval,iteOmega,toNatUp,reduceCtorEq]
       refine st_call (c1) rfl (.inl rfl) ?_
       simp only[wx,wy,wz,stV,seval,iteOmega,toNatUp,reduceCtorEq]
       refine st_call (c2) rfl (.inl rfl) ?_
       simp only[wx,wy,wz,stV,seval,iteOmega,toNatUp,reduceCtorEq]
       refine st_call (c3) rfl (.inl rfl) ?_
       simp only[wx,wy,wz,stV,seval,iteOmega,toNatUp,reduceCtorEq]
       exact ret_f2 (by simp only[wx,wy,wz,stV,seval,iteOmega,toNatUp,reduceCtorEq]) (by simp only[wx,wy,wz,stV,seval,iteOmega,toNatUp,reduceCtorEq])
     ·have e:=ptE_4 (key:=key) (n:=n) h1 h2 h3 h4
      rw[ptB_no e h4,e]
      have g4:(xeE p.se=0)=False:=eq_false h4
      clear e h3 h4
      generalize unX p=X at *
      generalize xeE p.se=E at *
      generalize xeB p.se=Y at *
      unfold pkD at *
      simp only[sf_pprt,putAll,wx,wy,wz,stV,seval,iteOmega,toNatUp,reduceCtorEq,h1]
      refine st_call (cf) rfl (.inl rfl) ?_
      simp only[wx,wy,wz,stV,seval,iteOmega,toNatUp,reduceCtorEq]
      refine st_call (c1) rfl (.inl rfl) ?_
      simp only[wx,wy,wz,stV,seval,iteOmega,toNatUp,reduceCtorEq]
      refine st_call (c2) rfl (.inl rfl) ?_
      simp only[g4,wx,wy,wz,stV,seval,iteOmega,toNatUp,reduceCtorEq]
      exact ret_f2 (by simp only[wx,wy,wz,stV,seval,iteOmega,toNatUp,reduceCtorEq]) (by simp only[wx,wy,wz,stV,seval,iteOmega,toNatUp,reduceCtorEq])
    ·have e:=ptE_3 (key:=key) (n:=n) h1 h2 h3
     rw[ptB_no e h3,e]
     have g3:(unE p=0)=False:=eq_false h3
     clear e h3
     generalize unE p=E at *
     generalize unB p=X at *
     unfold pkD at *
     simp only[sf_pprt,putAll,wx,wy,wz,stV,seval,iteOmega,toNatUp,reduceCtorEq,h1]
     refine st_call (cf) rfl (.inl rfl) ?_
     simp only[wx,wy,wz,stV,seval,iteOmega,toNatUp,reduceCtorEq]
     refine st_call (c1) rfl (.inl rfl) ?_
     simp only[g3,wx,wy,wz,stV,seval,iteOmega,toNatUp,reduceCtorEq]
     exact ret_f2 (by simp only[wx,wy,wz,stV,seval,iteOmega,toNatUp,reduceCtorEq]) (by simp only[wx,wy,wz,stV,seval,iteOmega,toNatUp,reduceCtorEq])
   ·have e:=ptE_2 (key:=key) (p:=p) (n:=n) h1 (by omega)
    rw[decide_eq_false (by omega)] at cf
    rw[ptB_no e (by decide),e]
    unfold pkD
    simp only[sf_pprt,putAll,wx,wy,wz,stV,seval,iteOmega,toNatUp,reduceCtorEq,h1]
    refine st_call (cf) rfl (.inl rfl) ?_
    simp only[wx,wy,wz,stV,seval,iteOmega,toNatUp,reduceCtorEq]
    exact ret_f2 (by simp only[wx,wy,wz,stV,seval,iteOmega,toNatUp,reduceCtorEq]) (by simp only[wx,wy,wz,stV,seval,iteOmega,toNatUp,reduceCtorEq])
  ·have e:=ptE_1 (key:=key) (p:=p) (n:=n) h1
   rw[ptB_no e (by decide),e]
   unfold pkD
   simp only[sf_pprt,putAll,wx,wy,wz,stV,seval,iteOmega,toNatUp,reduceCtorEq]
   exact ret_f2 (by simp only[wx,wy,wz,stV,seval,iteOmega,toNatUp,reduceCtorEq]) (by simp only[wx,wy,wz,stV,seval,iteOmega,toNatUp,reduceCtorEq])
end Go.Proofs.Ytcikhnjfkfigjaa
namespace Go.Proofs.Ytcikhnjfkfigjaa
open Go.RowKit IntWalk
theorem fnN_in (l:List Fd) (k:Int):∀ n,∀ x∈fnN l k n,0≤x∧x<(n:Int)
  | 0,x,h=>by cases h
  | n+1,x,h=>by
    rw[fnN,List.mem_append] at h
    rcases h with h | h
    ·have:=fnN_in l k n x h; omega
    ·split at h
     ·rw[List.mem_singleton] at h; omega
     ·cases h
theorem op_found {L:List Fd} (h:(fnL L 1028).length≠0):∃ i:Nat,i<L.length∧(fnL L 1028).getD 0 0=(i:Int)∧(fnL L 1028)[0]?=some (i:Int):=by
  have h0:0<(fnL L 1028).length:=by omega
  obtain⟨h1,h2⟩:=fnN_in L 1028 L.length (fnL L 1028)[0] (List.getElem_mem h0)
  have e:(((fnL L 1028)[0].toNat:Nat):Int)=(fnL L 1028)[0]:=by omega
  refine⟨(fnL L 1028)[0].toNat,by omega,?_,?_⟩
  ·rw[List.getD_eq_getElem?_getD,List.getElem?_eq_getElem h0,e]; rfl
  ·rw[List.getElem?_eq_getElem h0,e]
theorem pkRE_0 {b:List UInt8} (h:pkRE b=0):decE b=0∧eaE (b.drop 48)=0∧48≤b.length∧b.length≤1280∧pkRP b=⟨hdG b,xdL (b.drop 48),[],false⟩:=by
  have hd:decE b=0:=by
    by_cases e:decE b=0
    ·exact e
    ·rw[(pkRE_dec e).1] at h; exact absurd h e
  have h2:=(pkRE_rest hd).1
  rw[h] at h2
  have hl:48≤b.length∧b.length≤1280:=by
    unfold decE at hd
    split at hd
    ·cases hd
    ·split at hd
     ·cases hd
     ·omega
  exact⟨hd,h2.symm,hl.1,hl.2,if_pos h⟩
theorem xdL_mem {r:List UInt8} {f:Fd} (h:f∈xdL r):f.da.length≤r.length:=by
  unfold xdL at h
  split at h
  ·obtain⟨i,_,rfl⟩:=List.mem_map.1 h
   unfold rfd cutN; simp; omega
  ·cases h
theorem xdL_len {r:List UInt8}:(xdL r).length≤24:=by
  unfold xdL
  split
  ·rw[rfs_len]; exact (eaN_le r).1
  ·exact Nat.zero_le _
theorem xpL_at {r:List UInt8} {i:Nat} (h:eaE r=0) (hi:i<(xdL r).length):(xpL r)[i]?=some (plN r i:Int)∧plN r i≤r.length:=by
  obtain⟨h1,h2,h3,h4⟩:=eaE_0 h
  have e1:xdL r=rfs r (cntN r):=by unfold xdL; rw[if_pos h,h3]
  have e2:xpL r=rps r (cntN r):=by unfold xpL; rw[if_pos h,h3]
  rw[e1,rfs_len] at hi
  refine⟨?_,plN_le r i (by omega)⟩
  rw[e2]
  unfold rps
  rw[List.getElem?_map,List.getElem?_range hi]
  rfl
theorem opP_no {key b:List UInt8} {e:Int} (h:opE key b=e) (he:e≠0):opP key b=pkZ:=if_neg (by rw[h]; exact he)
theorem opE_1 {key b:List UInt8} (h:key.length≠32):opE key b=5:=if_pos h
theorem opE_2 {key b:List UInt8} (h1:key.length=32) (h:pkRE b≠0):opE key b=pkRE b:=by unfold opE; rw[if_neg (by omega),if_pos h]
theorem opE_3 {key b:List UInt8} (h1:key.length=32) (h2:pkRE b=0) (h:(fnL (xdL (b.drop 48)) 1028).length=0):opE key b=10:=by
  unfold opE; rw[if_neg (by omega),if_neg (by simp[h2]),if_pos h]
theorem opE_4 {key b:List UInt8} (h1:key.length=32) (h2:pkRE b=0) (h3:(fnL (xdL (b.drop 48)) 1028).length≠0) (h:(fnL (xdL (b.drop 48)) 1028).getD 0 0≠(opL b:Int)∨¬ prR (opG b)):opE key b=3:=by
  unfold opE; rw[if_neg (by omega),if_neg (by simp[h2]),if_neg h3,if_pos h]
theorem opE_5 {key b:List UInt8} (h1:key.length=32) (h2:pkRE b=0) (h3:(fnL (xdL (b.drop 48)) 1028).length≠0) (h4:(fnL (xdL (b.drop 48)) 1028).getD 0 0=(opL b:Int)) (h5:prR (opG b)):opE key b=if opX key b≠0 then 6 else eaE (opV key b):=by
  unfold opE; rw[if_neg (by omega),if_neg (by simp[h2]),if_neg h3,if_neg (by rintro (k | k); exact k h4; exact k h5)]
theorem opnV_len {key:List UInt8} {ad:List (List UInt8)} {s:List UInt8}:(opnV key ad s).length≤s.length:=by
  unfold opnV
  split
  ·rw[strS_len]; simp
  ·exact Nat.zero_le _
structure OpR (b:List UInt8) where
  l1:48≤b.length
  l2:b.length≤1280
  ea:eaE (b.drop 48)=0
  rd:pkRP b=⟨hdG b,xdL (b.drop 48),[],false⟩
theorem prN_ok {d:List UInt8} (h:prR d):prN d=pnB d∧prS d=psB d:=⟨if_pos h,if_pos h⟩
theorem pn_le {d:List UInt8} (h:prR d):(pnB d).length≤32∧(psB d).length≤d.length:=by
  obtain⟨h1,h2,h3,h4,h5⟩:=h
  unfold pnB psB cutN
  simp
  omega
def sf_popn:SFn:=⟨2,108,
 .seq (.reg [⟨some 4,.alloc [(.d (.int .i64 0)),(.d (.int .i64 0)),(.d (.int .i64 0)),(.d (.int .i64 0)),(.d (.int .i64 0)),(.d (.int .i64 0)),(.d (.int .u32 0)),(.d (.int .u32 0)),(.d (.int .u32 0)),(.d (.int .u64 0)),(.d (.int .u64 0)),(.d (.int .u64 0)),(.d (.int .u64 0)),.nil,.nil,(.d (.bool false))],none⟩,
 ⟨some 5,.mv (.k (.c (.d (.int .i64 0)))),none⟩])
 (.seq (.seq (.reg [⟨some 18,.mv (.t 0),none⟩,
 ⟨some 19,.len (.t 18),none⟩,
 ⟨some 20,.bin .neq (.t 19) (.k (.c (.d (.int .i64 32)))),none⟩])
 (.cond (.t 20) (.seq (.reg [⟨some 21,.build [(.d (.int .i64 0)),(.d (.int .i64 0)),(.d (.int .i64 0)),(.d (.int .i64 0)),(.d (.int .i64 0)),(.d (.int .i64 0)),(.d (.int .u32 0)),(.d (.int .u32 0)),(.d (.int .u32 0)),(.d (.int .u64 0)),(.d (.int .u64 0)),(.d (.int .u64 0)),(.d (.int .u64 0)),.nil,.nil,(.d (.bool false))] [],none⟩,
 ⟨none,.store (.ag 16) (.t 4) (.t 21),none⟩,
 ⟨some 5,.mv (.k (.c (.d (.int .i64 5)))),none⟩])
 (.ret))
 (.skip)))
 (.seq (.reg [⟨some 23,.mv (.t 1),none⟩,
 ⟨some 24,.call 17 [(.t 23)] none,none⟩,
 ⟨some 22,.mv (.t 24),none⟩,
 ⟨some 25,.extract (.t 22) 0,none⟩,
 ⟨some 26,.extract (.t 22) 1,none⟩,
 ⟨some 6,.alloc [(.d (.int .i64 0)),(.d (.int .i64 0)),(.d (.int .i64 0)),(.d (.int .i64 0)),(.d (.int .i64 0)),(.d (.int .i64 0)),(.d (.int .u32 0)),(.d (.int .u32 0)),(.d (.int .u32 0)),(.d (.int .u64 0)),(.d (.int .u64 0)),(.d (.int .u64 0)),(.d (.int .u64 0)),.nil,.nil,(.d (.bool false))],none⟩,
 ⟨none,.store (.ag 16) (.t 6) (.t 25),none⟩,
 ⟨some 7,.mv (.t 26),none⟩])
 (.seq (.seq (.reg [⟨some 27,.mv (.t 7),none⟩,
 ⟨some 28,.bin .neq (.t 27) (.k (.c (.d (.int .i64 0)))),none⟩])
 (.cond (.t 28) (.seq (.reg [⟨some 29,.build [(.d (.int .i64 0)),(.d (.int .i64 0)),(.d (.int .i64 0)),(.d (.int .i64 0)),(.d (.int .i64 0)),(.d (.int .i64 0)),(.d (.int .u32 0)),(.d (.int .u32 0)),(.d (.int .u32 0)),(.d (.int .u64 0)),(.d (.int .u64 0)),(.d (.int .u64 0)),(.d (.int .u64 0)),.nil,.nil,(.d (.bool false))] [],none⟩,
 ⟨some 30,.mv (.t 7),none⟩,
 ⟨none,.store (.ag 16) (.t 4) (.t 29),none⟩,
 ⟨some 5,.mv (.t 30),none⟩])
 (.ret))
 (.skip)))
 (.seq (.reg [⟨some 31,.fieldAddr 13 (.t 6),none⟩,
 ⟨some 32,.load .sc (.t 31),none⟩,
 ⟨some 33,.call 39 [(.t 32),(.k (.c (.d (.int .i64 1028))))] none,none⟩,
 ⟨some 8,.mv (.t 33),none⟩])
 (.seq (.seq (.reg [⟨some 34,.mv (.t 8),none⟩,
 ⟨some 35,.len (.t 34),none⟩,
 ⟨some 36,.bin .eql (.t 35) (.k (.c (.d (.int .i64 0)))),none⟩])
 (.cond (.t 36) (.seq (.reg [⟨some 37,.build [(.d (.int .i64 0)),(.d (.int .i64 0)),(.d (.int .i64 0)),(.d (.int .i64 0)),(.d (.int .i64 0)),(.d (.int .i64 0)),(.d (.int .u32 0)),(.d (.int .u32 0)),(.d (.int .u32 0)),(.d (.int .u64 0)),(.d (.int .u64 0)),(.d (.int .u64 0)),(.d (.int .u64 0)),.nil,.nil,(.d (.bool false))] [],none⟩,
 ⟨none,.store (.ag 16) (.t 4) (.t 37),none⟩,
 ⟨some 5,.mv (.k (.c (.d (.int .i64 10)))),none⟩])
 (.ret))
 (.skip)))
 (.seq (.reg [⟨some 38,.fieldAddr 13 (.t 6),none⟩,
 ⟨some 39,.load .sc (.t 38),none⟩,
 ⟨some 40,.len (.t 39),none⟩,
 ⟨some 41,.bin .sub (.t 40) (.k (.c (.d (.int .i64 1)))),none⟩,
 ⟨some 9,.mv (.t 41),none⟩])
 (.seq (.reg [⟨some 43,.fieldAddr 13 (.t 6),none⟩,
 ⟨some 44,.load .sc (.t 43),none⟩,
 ⟨some 45,.mv (.t 8),none⟩,
 ⟨some 46,.idxSl 1 (.t 45) (.k (.c (.d (.int .i64 0)))),none⟩,
 ⟨some 47,.load .sc (.t 46),none⟩,
 ⟨some 48,.idxSl 2 (.t 44) (.t 47),none⟩,
 ⟨some 49,.fieldAddr 1 (.t 48),none⟩,
 ⟨some 50,.load .sc (.t 49),none⟩,
 ⟨some 51,.call 42 [(.t 50)] none,none⟩,
 ⟨some 42,.mv (.t 51),none⟩,
 ⟨some 52,.extract (.t 42) 0,none⟩,
 ⟨some 53,.extract (.t 42) 1,none⟩,
 ⟨some 54,.extract (.t 42) 2,none⟩,
 ⟨some 10,.mv (.t 52),none⟩,
 ⟨some 11,.mv (.t 53),none⟩,
 ⟨some 12,.mv (.t 54),none⟩])
 (.seq (.seq (.reg [⟨some 55,.mv (.t 8),none⟩,
 ⟨some 56,.idxSl 1 (.t 55) (.k (.c (.d (.int .i64 0)))),none⟩,
 ⟨some 57,.load .sc (.t 56),none⟩,
 ⟨some 58,.mv (.t 9),none⟩,
 ⟨some 59,.bin .neq (.t 57) (.t 58),none⟩,
 ⟨some 60,.mv (.t 59),none⟩,
 ⟨some 61,.mv (.t 12),some (60,false)⟩,
 ⟨some 62,.un .not (.t 61),some (60,false)⟩,
 ⟨some 63,.pick (.t 60) (.k (.c (.d (.bool true)))) (.t 62),none⟩])
 (.cond (.t 63) (.seq (.reg [⟨some 64,.build [(.d (.int .i64 0)),(.d (.int .i64 0)),(.d (.int .i64 0)),(.d (.int .i64 0)),(.d (.int .i64 0)),(.d (.int .i64 0)),(.d (.int .u32 0)),(.d (.int .u32 0)),(.d (.int .u32 0)),(.d (.int .u64 0)),(.d (.int .u64 0)),(.d (.int .u64 0)),(.d (.int .u64 0)),.nil,.nil,(.d (.bool false))] [],none⟩,
 ⟨none,.store (.ag 16) (.t 4) (.t 64),none⟩,
 ⟨some 5,.mv (.k (.c (.d (.int .i64 3)))),none⟩])
 (.ret))
 (.skip)))
 (.seq (.reg [⟨some 66,.mv (.t 1),none⟩,
 ⟨some 67,.slice 1 (.t 66) (some (.k (.c (.d (.int .i64 48))))) none none,none⟩,
 ⟨some 68,.call 43 [(.t 67)] none,none⟩,
 ⟨some 65,.mv (.t 68),none⟩,
 ⟨some 69,.extract (.t 65) 0,none⟩,
 ⟨some 70,.extract (.t 65) 1,none⟩,
 ⟨some 13,.mv (.t 69),none⟩,
 ⟨some 14,.mv (.t 70),none⟩])
 (.seq (.reg [⟨some 71,.mv (.t 1),none⟩,
 ⟨some 72,.mv (.t 13),none⟩,
 ⟨some 73,.mv (.t 9),none⟩,
 ⟨some 74,.idxSl 1 (.t 72) (.t 73),none⟩,
 ⟨some 75,.load .sc (.t 74),none⟩,
 ⟨some 76,.bin .add (.k (.c (.d (.int .i64 48)))) (.t 75),none⟩,
 ⟨some 77,.slice 1 (.t 71) none (some (.t 76)) none,none⟩,
 ⟨some 15,.mv (.t 77),none⟩])
 (.seq (.reg [⟨some 79,.mv (.t 0),none⟩,
 ⟨some 80,.mv (.t 15),none⟩,
 ⟨some 81,.mv (.t 10),none⟩,
 ⟨some 82,.bldSl false 2 1 (.sl []) [(0,(.t 80)),(1,(.t 81))],none⟩,
 ⟨some 83,.mv (.t 11),none⟩,
 ⟨some 84,.call 44 [(.t 79),(.t 82),(.t 83)] none,none⟩,
 ⟨some 78,.mv (.t 84),none⟩,
 ⟨some 85,.extract (.t 78) 0,none⟩,
 ⟨some 86,.extract (.t 78) 1,none⟩,
 ⟨some 16,.mv (.t 85),none⟩,
 ⟨some 7,.mv (.t 86),none⟩])
 (.seq (.seq (.reg [⟨some 87,.mv (.t 7),none⟩,
 ⟨some 88,.bin .neq (.t 87) (.k (.c (.d (.int .i64 0)))),none⟩])
 (.cond (.t 88) (.seq (.reg [⟨some 89,.build [(.d (.int .i64 0)),(.d (.int .i64 0)),(.d (.int .i64 0)),(.d (.int .i64 0)),(.d (.int .i64 0)),(.d (.int .i64 0)),(.d (.int .u32 0)),(.d (.int .u32 0)),(.d (.int .u32 0)),(.d (.int .u64 0)),(.d (.int .u64 0)),(.d (.int .u64 0)),(.d (.int .u64 0)),.nil,.nil,(.d (.bool false))] [],none⟩,
 ⟨none,.store (.ag 16) (.t 4) (.t 89),none⟩,
 ⟨some 5,.mv (.k (.c (.d (.int .i64 6)))),none⟩])
 (.ret))
 (.skip)))
 (.seq (.reg [⟨some 91,.mv (.t 16),none⟩,
 ⟨some 92,.call 45 [(.t 91)] none,none⟩,
 ⟨some 90,.mv (.t 92),none⟩,
 ⟨some 93,.extract (.t 90) 0,none⟩,
 ⟨some 94,.extract (.t 90) 1,none⟩,
 ⟨some 17,.mv (.t 93),none⟩,
 ⟨some 7,.mv (.t 94),none⟩])
 (.seq (.seq (.reg [⟨some 95,.mv (.t 7),none⟩,
 ⟨some 96,.bin .neq (.t 95) (.k (.c (.d (.int .i64 0)))),none⟩])
 (.cond (.t 96) (.seq (.reg [⟨some 97,.build [(.d (.int .i64 0)),(.d (.int .i64 0)),(.d (.int .i64 0)),(.d (.int .i64 0)),(.d (.int .i64 0)),(.d (.int .i64 0)),(.d (.int .u32 0)),(.d (.int .u32 0)),(.d (.int .u32 0)),(.d (.int .u64 0)),(.d (.int .u64 0)),(.d (.int .u64 0)),(.d (.int .u64 0)),.nil,.nil,(.d (.bool false))] [],none⟩,
 ⟨some 98,.mv (.t 7),none⟩,
 ⟨none,.store (.ag 16) (.t 4) (.t 97),none⟩,
 ⟨some 5,.mv (.t 98),none⟩])
 (.ret))
 (.skip)))
 (.seq (.reg [⟨some 99,.fieldAddr 0 (.t 6),none⟩,
 ⟨some 100,.load (.ag 13) (.t 99),none⟩,
 ⟨some 101,.fieldAddr 13 (.t 6),none⟩,
 ⟨some 102,.load .sc (.t 101),none⟩,
 ⟨some 103,.mv (.t 9),none⟩,
 ⟨some 104,.mv (.t 9),none⟩,
 ⟨some 105,.slice 2 (.t 102) none (some (.t 103)) (some (.t 104)),none⟩,
 ⟨some 106,.mv (.t 17),none⟩,
 ⟨some 107,.build [(.d (.int .i64 0)),(.d (.int .i64 0)),(.d (.int .i64 0)),(.d (.int .i64 0)),(.d (.int .i64 0)),(.d (.int .i64 0)),(.d (.int .u32 0)),(.d (.int .u32 0)),(.d (.int .u32 0)),(.d (.int .u64 0)),(.d (.int .u64 0)),(.d (.int .u64 0)),(.d (.int .u64 0)),.nil,.nil,(.d (.bool false))] [(0,13,(.t 100)),(13,1,(.t 105)),(14,1,(.t 106)),(15,1,(.k (.c (.d (.bool true)))))],none⟩,
 ⟨none,.store (.ag 16) (.t 4) (.t 107),none⟩,
 ⟨some 5,.mv (.k (.c (.d (.int .i64 0)))),none⟩])
 (.ret)))))))))))))))),
 [(4,(some (.ag 16))),(5,none)]⟩
theorem cf_popn:compFn Try.prog { own:=[],comp:=[],frz:=[],nils:=[] } Try.f16=some sf_popn:=by kernel_rfl
set_option maxHeartbeats 3200000 in
theorem popn_c (G:Glob) (key b:List UInt8) (hk:key.length≤9223372036854775807) (hb:b.length≤9000000000000000000):Den Try.prog G 16 [.sl (key.map bD),.sl (b.map bD)] (.tup [.c (.d (pkD (opP key b))),.c (.d (.int .i64 (opE key b)))]):=by
  refine den_walk Try.func16 cf_popn rfl rfl ?_
  have c1:=pkrd_c G b hb
  by_cases h1:key.length=32
  ·by_cases h2:pkRE b=0
   ·obtain⟨d1,d2,d3,d4,d5⟩:=pkRE_0 h2
    rw[h2,d5] at c1
    have hRl:(b.drop 48).length=b.length-48:=by simp
    have c2:=xfnd_c G (xdL (b.drop 48)) 1028 (by have:=@xdL_len (b.drop 48); omega)
    by_cases h3:(fnL (xdL (b.drop 48)) 1028).length=0
    ·have e:=opE_3 h1 h2 h3
     rw[opP_no e (by decide),e]
     clear e d1 d2 d5 h2
     generalize fnL (xdL (b.drop 48)) 1028=Z at *
     generalize xdL (b.drop 48)=L at *
     generalize hdG b=q at *
     unfold pkD pkZ Hd.z at *
     simp only[sf_popn,putAll,wx,wy,wz,stV,seval,iteOmega,toNatUp,reduceCtorEq,h1]
     refine st_call (c1) rfl (.inl rfl) ?_
     simp only[wx,wy,wz,stV,seval,iteOmega,toNatUp,reduceCtorEq]
     refine st_call (c2) rfl (.inl rfl) ?_
     simp only[h3,wx,wy,wz,stV,seval,iteOmega,toNatUp,reduceCtorEq]
     exact ret_d2 (by simp only[wx,wy,wz,stV,seval,iteOmega,toNatUp,reduceCtorEq] <;> rfl) (by simp only[wx,wy,wz,stV,seval,iteOmega,toNatUp,reduceCtorEq])
    ·obtain⟨i,hi,i2,i3⟩:=op_found h3
     have hLl:=@xdL_len (b.drop 48)
     have gi:=getF hi
     have hdl:=xdL_mem (getF_mem hi)
     have c3:=prts_c G ((xdL (b.drop 48)).getD i default).da (by omega)
     have hz3:((fnL (xdL (b.drop 48)) 1028).length:Int)≠0:=by omega
     have hz3':(((fnL (xdL (b.drop 48)) 1028).length:Int)=0)=False:=eq_false hz3
     have hz4:(0:Int)<((fnL (xdL (b.drop 48)) 1028).length:Int):=by omega
     by_cases h4:i=opL b
     ·have hL1:(opL b:Int)=((xdL (b.drop 48)).length:Int)-1:=by unfold opL; omega
      rw[h4] at i2 i3 gi c3 hdl hi
      have hfd:((xdL (b.drop 48)).getD (opL b) default).da=opG b:=rfl
      rw[hfd] at c3 hdl
      by_cases h5:prR (opG b)
      ·obtain⟨p1,p2⟩:=prN_ok h5
       obtain⟨q1,q2⟩:=pn_le h5
       have hgl:(opG b).length≤1280:=by
         omega
       obtain⟨x1,x2⟩:=xpL_at d2 hi
       have x3:(opL b:Int)<((xpL (b.drop 48)).length:Int):=by
         have:=(List.getElem?_eq_some_iff.1 x1).1
         omega
       have c4:=xplc_c G (b.drop 48) (by omega)
       rw[d2] at c4
       have hAl:(opA b).length≤1280:=by unfold opA; simp; omega
       have c5:=opn_c G key [opA b,pnB (opG b)] (psB (opG b)) hk (by simp) (fun x hx=>by simp at hx; rcases hx with rfl | rfl <;> omega) (by omega)
       rw[show opnE key [opA b,pnB (opG b)] (psB (opG b))=opX key b from rfl,show opnV key [opA b,pnB (opG b)] (psB (opG b))=opV key b from rfl] at c5
       have hVl:(opV key b).length≤1280:=by
         have:(opV key b).length≤(psB (opG b)).length:=opnV_len
         omega
       have c6:=xdec_c G (opV key b) (by omega)
       have e5:=opE_5 h1 h2 h3 i2 h5
       rw[p1,p2,decide_eq_true h5] at c3
       have hcut:b.take (48+plN (b.drop 48) (opL b))=opA b:=rfl
       unfold sls at c5
       simp only[List.map_cons,List.map_nil] at c5
       have hdr:(b.drop 48).take (b.length-48)=b.drop 48:=List.take_of_length_le (by omega)
       by_cases h6:opX key b=0
       ·rw[if_neg (by simp[h6])] at e5
        rw[h6] at c5
        by_cases h7:eaE (opV key b)=0
        ·rw[h7] at e5 c6
         have eP:opP key b=⟨hdG b,(xdL (b.drop 48)).take (opL b),xdL (opV key b),true⟩:=if_pos e5
         rw[eP,e5]
         have az:=allSz_fd (xdL (b.drop 48))
         have hle:(opL b≤(xdL (b.drop 48)).length)=True:=eq_true (by omega)
         clear eP e5 d1 d2 d5 h2 h7 h6 p1 p2 h5 q1 q2 hgl h4 hz3
         generalize hZ:fnL (xdL (b.drop 48)) 1028=Z at *
         generalize plN (b.drop 48) (opL b)=pp at *
         generalize xpL (b.drop 48)=PL at *
         generalize opV key b=V at *
         generalize opA b=A at *
         generalize pnB (opG b)=n at *
         generalize psB (opG b)=s at *
         generalize opG b=GG at *
         generalize opL b=last at *
         generalize hdG b=q at *
         generalize xdL V=LV at *
         generalize xdL (b.drop 48)=L at *
         generalize L.getD last default=gf at *
         unfold pkD fdD at *
         simp only[sf_popn,putAll,wx,wy,wz,stV,seval,iteOmega,toNatUp,reduceCtorEq,h1]
         refine st_call (c1) rfl (.inl rfl) ?_
         simp only[wx,wy,wz,stV,seval,iteOmega,toNatUp,reduceCtorEq]
         refine st_call (c2) rfl (.inl rfl) ?_
         simp only[hz3',get_map,i3,zD,← hL1,gi,fdD,hfd,wx,wy,wz,stV,seval,iteOmega,toNatUp,reduceCtorEq]
         refine st_call (c3) rfl (.inl rfl) ?_
         simp only[get_map,i3,zD,← hL1,hdr,wx,wy,wz,stV,seval,iteOmega,toNatUp,reduceCtorEq]
         refine st_call (c4) rfl (.inl rfl) ?_
         simp only[hdr,x1,get_map,zD,hcut,wx,wy,wz,stV,seval,iteOmega,toNatUp,reduceCtorEq]
         refine st_call (c5) rfl (.inl rfl) ?_
         simp only[wx,wy,wz,stV,seval,iteOmega,toNatUp,reduceCtorEq]
         refine st_call (c6) rfl (.inl rfl) ?_
         simp only[az,hle,Nat.zero_le,and_self,wx,wy,wz,stV,seval,iteOmega,toNatUp,reduceCtorEq]
         exact ret_d2 (by simp only[wx,wy,wz,stV,seval,iteOmega,toNatUp,reduceCtorEq] <;> rfl) (by simp only[wx,wy,wz,stV,seval,iteOmega,toNatUp,reduceCtorEq])
        ·rw[opP_no e5 h7,e5]
         have g7:(eaE (opV key b)=0)=False:=eq_false h7
         clear e5 d1 d2 d5 h2 h7 h6 p1 p2 h5 q1 q2 hgl h4 hz3
         generalize eaE (opV key b)=E at *
         generalize hZ:fnL (xdL (b.drop 48)) 1028=Z at *
         generalize plN (b.drop 48) (opL b)=pp at *
         generalize xpL (b.drop 48)=PL at *
         generalize opV key b=V at *
         generalize opA b=A at *
         generalize pnB (opG b)=n at *
         generalize psB (opG b)=s at *
         generalize opG b=GG at *
         generalize opL b=last at *
         generalize hdG b=q at *
         generalize xdL V=LV at *
         generalize xdL (b.drop 48)=L at *
         generalize L.getD last default=gf at *
         unfold pkZ Hd.z
         unfold pkD fdD at *
         simp only[sf_popn,putAll,wx,wy,wz,stV,seval,iteOmega,toNatUp,reduceCtorEq,h1]
         refine st_call (c1) rfl (.inl rfl) ?_
         simp only[wx,wy,wz,stV,seval,iteOmega,toNatUp,reduceCtorEq]
         refine st_call (c2) rfl (.inl rfl) ?_
         simp only[hz3',get_map,i3,zD,← hL1,gi,fdD,hfd,wx,wy,wz,stV,seval,iteOmega,toNatUp,reduceCtorEq]
         refine st_call (c3) rfl (.inl rfl) ?_
         simp only[get_map,i3,zD,← hL1,hdr,wx,wy,wz,stV,seval,iteOmega,toNatUp,reduceCtorEq]
         refine st_call (c4) rfl (.inl rfl) ?_
         simp only[hdr,x1,get_map,zD,hcut,wx,wy,wz,stV,seval,iteOmega,toNatUp,reduceCtorEq]
         refine st_call (c5) rfl (.inl rfl) ?_
         simp only[wx,wy,wz,stV,seval,iteOmega,toNatUp,reduceCtorEq]
         refine st_call (c6) rfl (.inl rfl) ?_
         simp only[g7,wx,wy,wz,stV,seval,iteOmega,toNatUp,reduceCtorEq]
         exact ret_d2 (by simp only[wx,wy,wz,stV,seval,iteOmega,toNatUp,reduceCtorEq] <;> rfl) (by simp only[wx,wy,wz,stV,seval,iteOmega,toNatUp,reduceCtorEq])
       ·rw[if_pos h6] at e5
        rw[opP_no e5 (by decide),e5]
        have g6:(opX key b=0)=False:=eq_false h6
        clear e5 d1 d2 d5 h2 h6 p1 p2 h5 q1 q2 hgl h4 hz3 c6
        generalize opX key b=E at *
        generalize hZ:fnL (xdL (b.drop 48)) 1028=Z at *
        generalize plN (b.drop 48) (opL b)=pp at *
        generalize xpL (b.drop 48)=PL at *
        generalize opV key b=V at *
        generalize opA b=A at *
        generalize pnB (opG b)=n at *
        generalize psB (opG b)=s at *
        generalize opG b=GG at *
        generalize opL b=last at *
        generalize hdG b=q at *
        generalize xdL (b.drop 48)=L at *
        generalize L.getD last default=gf at *
        unfold pkZ Hd.z
        unfold pkD fdD at *
        simp only[sf_popn,putAll,wx,wy,wz,stV,seval,iteOmega,toNatUp,reduceCtorEq,h1]
        refine st_call (c1) rfl (.inl rfl) ?_
        simp only[wx,wy,wz,stV,seval,iteOmega,toNatUp,reduceCtorEq]
        refine st_call (c2) rfl (.inl rfl) ?_
        simp only[hz3',get_map,i3,zD,← hL1,gi,fdD,hfd,wx,wy,wz,stV,seval,iteOmega,toNatUp,reduceCtorEq]
        refine st_call (c3) rfl (.inl rfl) ?_
        simp only[get_map,i3,zD,← hL1,hdr,wx,wy,wz,stV,seval,iteOmega,toNatUp,reduceCtorEq]
        refine st_call (c4) rfl (.inl rfl) ?_
        simp only[hdr,x1,get_map,zD,hcut,wx,wy,wz,stV,seval,iteOmega,toNatUp,reduceCtorEq]
        refine st_call (c5) rfl (.inl rfl) ?_
        simp only[g6,wx,wy,wz,stV,seval,iteOmega,toNatUp,reduceCtorEq]
        exact ret_d2 (by simp only[wx,wy,wz,stV,seval,iteOmega,toNatUp,reduceCtorEq] <;> rfl) (by simp only[wx,wy,wz,stV,seval,iteOmega,toNatUp,reduceCtorEq])
      ·have e:=opE_4 h1 h2 h3 (.inr h5)
       rw[opP_no e (by decide),e]
       rw[decide_eq_false h5] at c3
       clear e d1 d2 d5 h2 h5 h4 hz3
       generalize hZ:fnL (xdL (b.drop 48)) 1028=Z at *
       generalize prN (opG b)=n at *
       generalize prS (opG b)=s at *
       generalize opG b=GG at *
       generalize opL b=last at *
       generalize hdG b=q at *
       generalize xdL (b.drop 48)=L at *
       generalize L.getD last default=gf at *
       unfold pkZ Hd.z pkD fdD at *
       simp only[sf_popn,putAll,wx,wy,wz,stV,seval,iteOmega,toNatUp,reduceCtorEq,h1]
       refine st_call (c1) rfl (.inl rfl) ?_
       simp only[wx,wy,wz,stV,seval,iteOmega,toNatUp,reduceCtorEq]
       refine st_call (c2) rfl (.inl rfl) ?_
       simp only[hz3',get_map,i3,zD,← hL1,gi,fdD,hfd,wx,wy,wz,stV,seval,iteOmega,toNatUp,reduceCtorEq]
       refine st_call (c3) rfl (.inl rfl) ?_
       simp only[get_map,i3,zD,← hL1,wx,wy,wz,stV,seval,iteOmega,toNatUp,reduceCtorEq]
       exact ret_d2 (by simp only[wx,wy,wz,stV,seval,iteOmega,toNatUp,reduceCtorEq] <;> rfl) (by simp only[wx,wy,wz,stV,seval,iteOmega,toNatUp,reduceCtorEq])
     ·have e:=opE_4 h1 h2 h3 (.inl (by rw[i2]; omega))
      rw[opP_no e (by decide),e]
      have hL1:(opL b:Int)=((xdL (b.drop 48)).length:Int)-1:=by unfold opL; omega
      have g4:(i:Int)≠(opL b:Int):=by omega
      have g4':((i:Int)=(opL b:Int))=False:=eq_false g4
      clear e d1 d2 d5 h2 h4 hz3
      generalize decide (prR ((xdL (b.drop 48)).getD i default).da)=ok at *
      generalize prN ((xdL (b.drop 48)).getD i default).da=n at *
      generalize prS ((xdL (b.drop 48)).getD i default).da=s at *
      generalize hZ:fnL (xdL (b.drop 48)) 1028=Z at *
      generalize opL b=last at *
      generalize hdG b=q at *
      generalize xdL (b.drop 48)=L at *
      generalize L.getD i default=gf at *
      unfold pkZ Hd.z pkD fdD at *
      simp only[sf_popn,putAll,wx,wy,wz,stV,seval,iteOmega,toNatUp,reduceCtorEq,h1]
      refine st_call (c1) rfl (.inl rfl) ?_
      simp only[wx,wy,wz,stV,seval,iteOmega,toNatUp,reduceCtorEq]
      refine st_call (c2) rfl (.inl rfl) ?_
      simp only[hz3',get_map,i3,zD,← hL1,gi,fdD,wx,wy,wz,stV,seval,iteOmega,toNatUp,reduceCtorEq]
      refine st_call (c3) rfl (.inl rfl) ?_
      simp only[get_map,i3,zD,← hL1,g4',wx,wy,wz,stV,seval,iteOmega,toNatUp,reduceCtorEq]
      exact ret_d2 (by simp only[wx,wy,wz,stV,seval,iteOmega,toNatUp,reduceCtorEq] <;> rfl) (by simp only[wx,wy,wz,stV,seval,iteOmega,toNatUp,reduceCtorEq])
   ·have e:=opE_2 h1 h2
    have g:(pkRE b=0)=False:=eq_false h2
    rw[opP_no e h2,e]
    clear e h2
    generalize pkRE b=E at *
    generalize pkRP b=q at *
    unfold pkD pkZ Hd.z at *
    simp only[sf_popn,putAll,wx,wy,wz,stV,seval,iteOmega,toNatUp,reduceCtorEq,h1]
    refine st_call (c1) rfl (.inl rfl) ?_
    simp only[g,wx,wy,wz,stV,seval,iteOmega,toNatUp,reduceCtorEq]
    exact ret_d2 (by simp only[wx,wy,wz,stV,seval,iteOmega,toNatUp,reduceCtorEq] <;> rfl) (by simp only[wx,wy,wz,stV,seval,iteOmega,toNatUp,reduceCtorEq])
  ·have e:=opE_1 (b:=b) h1
   rw[opP_no e (by decide),e]
   unfold pkD pkZ Hd.z
   simp only[sf_popn,putAll,wx,wy,wz,stV,seval,iteOmega,toNatUp,reduceCtorEq]
   exact ret_d2 (by simp only[wx,wy,wz,stV,seval,iteOmega,toNatUp,reduceCtorEq] <;> rfl) (by simp only[wx,wy,wz,stV,seval,iteOmega,toNatUp,reduceCtorEq])
end Go.Proofs.Ytcikhnjfkfigjaa
namespace Go.Proofs.Ytcikhnjfkfigjaa
open Go.RowKit IntWalk
set_option maxHeartbeats 3200000
theorem szsS_nil:szsS []=0:=rfl
theorem szsS_take {l:List Int} {i:Nat} (h:i<l.length):szsS (l.take (i+1))=szsS (l.take i)+szT (l.getD i 0):=by
  unfold szsS
  rw[List.take_add_one,List.getElem?_eq_getElem h,List.getD_eq_getElem?_getD,List.getElem?_eq_getElem h]
  simp only[Option.toList_some,List.map_append,List.sum_append,List.map_cons,List.map_nil,List.sum_cons,List.sum_nil,Nat.add_zero]
  rfl
theorem szsS_le (l:List Int) (i:Nat):szsS (l.take i)≤szsS l:=by
  unfold szsS
  conv=>rhs; rw[← List.take_append_drop i l]
  rw[List.map_append,List.sum_append]; omega
theorem unf_any {l:List Int} (h:l.any unf=false):∀ x∈l,0≤x∧x≤1280:=by
  intro x hx
  have:=List.any_eq_false.1 h x hx
  unfold unf at this
  simp at this
  omega
def zfd (m:Nat):Fd:=⟨0,List.replicate m 0⟩
theorem zfd_T (m:Nat):xsT (zfd m)=szT (m:Int):=by
  unfold xsT zfd szT
  simp
theorem zfd_E (m:Nat):xsE (zfd m)=if 1232<szT (m:Int) then 2 else 0:=by
  unfold xsE
  rw[zfd_T,if_neg (by simp[zfd])]
theorem zfd_N (m:Nat):xsN (zfd m)=if 1232<szT (m:Int) then 0 else szT (m:Int):=by
  unfold xsN
  rw[zfd_E,zfd_T]
  split <;> simp_all
def sf_unft:SFn:=⟨1,9,
 .seq (.reg [⟨some 2,.mv (.k (.c (.d (.bool false)))),none⟩])
 (.seq (.reg [⟨some 3,.mv (.t 0),none⟩,
 ⟨some 4,.bin .lss (.t 3) (.k (.c (.d (.int .i64 0)))),none⟩,
 ⟨some 5,.mv (.t 4),none⟩,
 ⟨some 6,.mv (.t 0),some (5,false)⟩,
 ⟨some 7,.bin .gtr (.t 6) (.k (.c (.d (.int .i64 1280)))),some (5,false)⟩,
 ⟨some 8,.pick (.t 5) (.k (.c (.d (.bool true)))) (.t 7),none⟩,
 ⟨some 2,.mv (.t 8),none⟩])
 (.ret)),
 [(2,none)]⟩
theorem cf_unft:compFn Try.prog { own:=[],comp:=[],frz:=[],nils:=[] } Try.f31=some sf_unft:=by kernel_rfl
theorem unft_d (G:Glob) (n:Int):Den Try.prog G 31 [.int .i64 n] (.w (.c (.d (.bool (unf n))))):=by
  refine den_walk Try.func31 cf_unft rfl rfl ?_
  unfold unf
  rcases Int.lt_or_le n 0 with h1 | h1
  ·rw[decide_eq_true (.inl h1)]
   simp only[sf_unft,putAll,wx,wy,wz,stV,seval,iteOmega,toNatUp,reduceCtorEq]
   exact ret_d1 (by simp only[wx,wy,wz,stV,seval,iteOmega,toNatUp,reduceCtorEq])
  ·rcases Int.lt_or_le 1280 n with h2 | h2
   ·rw[decide_eq_true (.inr h2)]
    simp only[sf_unft,putAll,wx,wy,wz,stV,seval,iteOmega,toNatUp,reduceCtorEq]
    exact ret_d1 (by simp only[wx,wy,wz,stV,seval,iteOmega,toNatUp,reduceCtorEq])
   ·rw[decide_eq_false (by omega)]
    simp only[sf_unft,putAll,wx,wy,wz,stV,seval,iteOmega,toNatUp,reduceCtorEq]
    exact ret_d1 (by simp only[wx,wy,wz,stV,seval,iteOmega,toNatUp,reduceCtorEq])
theorem unft_c (G:Glob) (n:Int):DenF Try.prog G 31 [] [.int .i64 n] (.w (.c (.d (.bool (unf n))))):=⟨enters_of Try.func31 (by kernel_rfl) rfl,unft_d G n⟩
def totSt (l:List Int) (i:Nat):St:=⟨ofL [(4,.w (.c (.d (.int .i64 (szsS (l.take i):Int))))),(9,.w (.c (.d (.sl (l.map zD))))),(10,.w (.c (.d (.int .i64 (l.length:Int))))),(11,.w (.c (.d (.int .i64 (i:Int)))))],hL [],uL []⟩
def toE (l:List Int):Int:=if 1232<szsS l then 2 else 0
def toN (l:List Int):Nat:=if 1232<szsS l then 0 else szsS l
def lp_ptot_0:SCode :=
 .seq (.reg [⟨some 12,.bin .lss (.t 11) (.t 10),none⟩])
 (.seq (.cond (.t 12) (.skip)
 (.exit 0))
 (.seq (.block 1 (.seq (.reg [⟨some 13,.idxSl 1 (.t 9) (.t 11),none⟩,
 ⟨some 14,.load .sc (.t 13),none⟩,
 ⟨some 6,.mv (.t 14),none⟩])
 (.seq (.reg [⟨some 16,.mv (.t 6),none⟩,
 ⟨some 17,.make 1 1 (.int .u8 0) (.t 16) (.t 16),none⟩,
 ⟨some 18,.buildF [(.d (.int .i64 0)),.nil] [(1,1,(.t 17))],none⟩,
 ⟨some 19,.call 33 [(.t 18)] none,none⟩,
 ⟨some 15,.mv (.t 19),none⟩,
 ⟨some 20,.extract (.t 15) 0,none⟩,
 ⟨some 21,.extract (.t 15) 1,none⟩,
 ⟨some 7,.mv (.t 20),none⟩,
 ⟨some 8,.mv (.t 21),none⟩])
 (.seq (.seq (.reg [⟨some 22,.mv (.t 8),none⟩,
 ⟨some 23,.bin .neq (.t 22) (.k (.c (.d (.int .i64 0)))),none⟩,
 ⟨some 24,.mv (.t 23),none⟩,
 ⟨some 25,.mv (.t 4),some (24,false)⟩,
 ⟨some 26,.mv (.t 7),some (24,false)⟩,
 ⟨some 27,.bin .add (.t 25) (.t 26),some (24,false)⟩,
 ⟨some 28,.bin .gtr (.t 27) (.k (.c (.d (.int .i64 1232)))),some (24,false)⟩,
 ⟨some 29,.pick (.t 24) (.k (.c (.d (.bool true)))) (.t 28),none⟩])
 (.cond (.t 29) (.seq (.reg [⟨some 2,.mv (.k (.c (.d (.int .i64 0)))),none⟩,
 ⟨some 3,.mv (.k (.c (.d (.int .i64 2)))),none⟩])
 (.ret))
 (.skip)))
 (.reg [⟨some 30,.mv (.t 4),none⟩,
 ⟨some 31,.mv (.t 7),none⟩,
 ⟨some 32,.bin .add (.t 30) (.t 31),none⟩,
 ⟨some 4,.mv (.t 32),none⟩])))))
 (.reg [⟨some 33,.bin .add (.t 11) (.k (.c (.d (.int .i64 1)))),none⟩,
 ⟨some 11,.mv (.t 33),none⟩])))
def sf_ptot:SFn:=⟨1,35,
 .seq (.reg [⟨some 2,.mv (.k (.c (.d (.int .i64 0)))),none⟩,
 ⟨some 3,.mv (.k (.c (.d (.int .i64 0)))),none⟩])
 (.seq (.reg [⟨some 4,.mv (.k (.c (.d (.int .i64 0)))),none⟩])
 (.seq (.seq (.reg [⟨some 9,.mv (.t 0),none⟩,
 ⟨some 10,.len (.t 9),none⟩,
 ⟨some 11,.mv (.k (.c (.d (.int .i64 0)))),none⟩])
 (.block 0 (.loop lp_ptot_0)))
 (.seq (.reg [⟨some 34,.mv (.t 4),none⟩,
 ⟨some 2,.mv (.t 34),none⟩,
 ⟨some 3,.mv (.k (.c (.d (.int .i64 0)))),none⟩])
 (.ret)))),
 [(2,none),(3,none)]⟩
theorem cf_ptot:compFn Try.prog { own:=[],comp:=[],frz:=[18],nils:=[] } Try.f32=some sf_ptot:=by kernel_rfl
theorem ptot_c (G:Glob) (l:List Int) (hl:l.length≤1000000) (hu:∀ x∈l,0≤x∧x≤1280):Den Try.prog G 32 [.sl (l.map zD)] (.tup [.c (.d (.int .i64 (toN l:Int))),.c (.d (.int .i64 (toE l)))]):=by
  refine den_walk Try.func32 cf_ptot rfl rfl ?_
  simp only[sf_ptot,putAll,wx,wy,wz,stV,seval,iteOmega,toNatUp,reduceCtorEq]
  refine loop_st (totSt l) (fun i=>l.length-i) (fun i=>i≤l.length∧szsS (l.take i)≤1232) 0 ⟨Nat.zero_le _,Nat.zero_le _⟩ ?_ ?_
  ·refine ent_l (fun i=>0) ?_ ?_ rfl rfl <;> simp only[wx,wex,wez,stV,seval,iteOmega,toNatUp,reduceCtorEq,szsS_nil]
  ·rintro i ⟨hi,hs⟩
   by_cases hlt:i<l.length
   ·have g:=getZ hlt
    obtain⟨u1,u2⟩:=hu _ (getZ_mem hlt)
    have ht:=szsS_take hlt
    have hle:=szsS_le l (i+1)
    obtain⟨m,hm⟩:=Int.eq_ofNat_of_zero_le u1
    have hm:l.getD i 0=(m:Int):=hm
    rw[hm] at g ht u1 u2
    have c:=xsiz_c G (zfd m) (by simp[zfd]; omega)
    have hz:(fdD (zfd m))=.agg [.int .i64 0,.sl ((List.replicate m (0:UInt8)).map bD)]:=rfl
    rw[hz] at c
    rcases Nat.lt_or_ge 1232 (szT (m:Int)) with h1 | h1
    ·have e1:xsE (zfd m)=2:=by rw[zfd_E,if_pos h1]
     have e2:toE l=2:=if_pos (by omega)
     have e3:toN l=0:=if_pos (by omega)
     rw[e2,e3]
     rw[e1] at c
     generalize xsN (zfd m)=N at *
     clear hz e1 e2 e3
     simp only[lp_ptot_0,totSt,wx,wy,wz,stV,seval,iteOmega,toNatUp,reduceCtorEq,get_map,g,zD,rep_b]
     refine st_call c (by simp only[wx,wy,wz,stV,seval,iteOmega,toNatUp,reduceCtorEq,List.take_replicate,Nat.min_self]) (.inl rfl) ?_
     simp only[wx,wy,wz,stV,seval,iteOmega,toNatUp,reduceCtorEq]
     exact ret_d2 (by simp only[wx,wy,wz,stV,seval,iteOmega,toNatUp,reduceCtorEq]) (by simp only[wx,wy,wz,stV,seval,iteOmega,toNatUp,reduceCtorEq])
    ·have e1:xsE (zfd m)=0:=by rw[zfd_E,if_neg (by omega)]
     have e2:xsN (zfd m)=szT (m:Int):=by rw[zfd_N,if_neg (by omega)]
     rw[e1,e2] at c
     generalize szT (m:Int)=T at *
     clear hz e1 e2
     rcases Nat.lt_or_ge 1232 (szsS (l.take i)+T) with h2 | h2
     ·have e2:toE l=2:=if_pos (by omega)
      have e3:toN l=0:=if_pos (by omega)
      rw[e2,e3]
      have g2:(((szsS (l.take i):Nat):Int)+(T:Int)>1232)=True:=eq_true (by omega)
      simp only[lp_ptot_0,totSt,wx,wy,wz,stV,seval,iteOmega,toNatUp,reduceCtorEq,get_map,g,zD,rep_b]
      refine st_call c (by simp only[wx,wy,wz,stV,seval,iteOmega,toNatUp,reduceCtorEq,List.take_replicate,Nat.min_self]) (.inl rfl) ?_
      simp only[wx,wy,wz,stV,seval,iteOmega,toNatUp,reduceCtorEq,g2]
      exact ret_d2 (by simp only[wx,wy,wz,stV,seval,iteOmega,toNatUp,reduceCtorEq]) (by simp only[wx,wy,wz,stV,seval,iteOmega,toNatUp,reduceCtorEq])
     ·have g2:(((szsS (l.take i):Nat):Int)+(T:Int)>1232)=False:=eq_false (by omega)
      simp only[lp_ptot_0,totSt,wx,wy,wz,stV,seval,iteOmega,toNatUp,reduceCtorEq,get_map,g,zD,rep_b]
      refine st_call c (by simp only[wx,wy,wz,stV,seval,iteOmega,toNatUp,reduceCtorEq,List.take_replicate,Nat.min_self]) (.inl rfl) ?_
      simp only[wx,wy,wz,stV,seval,iteOmega,toNatUp,reduceCtorEq,g2]
      refine lop_next (i+1) (by omega) ⟨by omega,by omega⟩ (ent_l (fun i=>0) ?_ ?_ rfl rfl) <;> simp only[wx,wex,wez,stV,seval,iteOmega,toNatUp,reduceCtorEq,ht]
   ·have hil:l.take i=l:=List.take_of_length_le (by omega)
    rw[hil] at hs
    have e2:toE l=0:=if_neg (by omega)
    have e3:toN l=szsS l:=if_neg (by omega)
    rw[e2,e3]
    simp only[lp_ptot_0,totSt,wx,wy,wz,stV,seval,iteOmega,toNatUp,reduceCtorEq,hil]
    exact ret_d2 (by simp only[wx,wy,wz,stV,seval,iteOmega,toNatUp,reduceCtorEq]) (by simp only[wx,wy,wz,stV,seval,iteOmega,toNatUp,reduceCtorEq])
theorem fl_mx (l:List UInt8) (n:Int):V.flat (.w (.mix [.d (.int .i64 n),.fr 1 (l.map bD)]))=true:=by
  simp[V.flat,W.flat,C.flat,D.flat,bD]
theorem zgd_len (h:Nat):(grD (List.replicate 16 0) (List.replicate (16+h) 0)).length=20+(h+19) / 4*4:=by
  rw[grD_len]; simp; omega
theorem zgd_T (h:Nat):xsT (gdF (List.replicate 16 0) (List.replicate (16+h) 0))=24+(h+19) / 4*4:=by
  rw[gdF_T (by rw[zgd_len]; omega),zgd_len]; omega
theorem zgd_E (h:Nat):xsE (gdF (List.replicate 16 0) (List.replicate (16+h) 0))=if 1232<24+(h+19) / 4*4 then 2 else 0:=by
  unfold xsE
  rw[zgd_T,if_neg (by simp[gdF])]
theorem zgd_N (h:Nat):xsN (gdF (List.replicate 16 0) (List.replicate (16+h) 0))=if 1232<24+(h+19) / 4*4 then 0 else 24+(h+19) / 4*4:=by
  unfold xsN
  rw[zgd_E,zgd_T]
  split <;> simp_all
theorem lnE_bad {p s:List Int} (h:p.any unf=true∨s.any unf=true):lnE p s=4∧lnN p s=0:=by
  have e:lnE p s=4:=if_pos (by rcases h with h | h <;> simp[h])
  exact⟨e,if_neg (by rw[e]; decide)⟩
theorem lnE_ok {p s:List Int} (h1:p.any unf=false) (h2:s.any unf=false):lnE p s=if 1232<szsS p∨1232<szsS s∨1280<lnA p s then 2 else 0:=if_neg (by simp[h1,h2])
theorem lnE_long {p s:List Int} (h1:p.any unf=false) (h2:s.any unf=false) (h:1232<szsS p∨1232<szsS s∨1280<lnA p s):lnE p s=2∧lnN p s=0:=by
  have e:lnE p s=2:=by rw[lnE_ok h1 h2,if_pos h]
  exact⟨e,if_neg (by rw[e]; decide)⟩
theorem lnE_fit {p s:List Int} (h1:p.any unf=false) (h2:s.any unf=false) (h:¬ (1232<szsS p∨1232<szsS s∨1280<lnA p s)):lnE p s=0∧lnN p s=lnA p s:=by
  have e:lnE p s=0:=by rw[lnE_ok h1 h2,if_neg h]
  exact⟨e,if_pos e⟩
def sf_plen:SFn:=⟨2,54,
 .seq (.reg [⟨some 4,.mv (.k (.c (.d (.int .i64 0)))),none⟩,
 ⟨some 5,.mv (.k (.c (.d (.int .i64 0)))),none⟩])
 (.seq (.seq (.reg [⟨some 10,.mv (.t 0),none⟩,
 ⟨some 11,.call 30 [(.t 10),(.k (.c (.d (.fn 31 []))))] none,none⟩,
 ⟨some 12,.mv (.t 11),none⟩,
 ⟨some 13,.mv (.t 1),some (12,false)⟩,
 ⟨some 14,.call 30 [(.t 13),(.k (.c (.d (.fn 31 []))))] none,some (12,false)⟩,
 ⟨some 15,.pick (.t 12) (.k (.c (.d (.bool true)))) (.t 14),none⟩])
 (.cond (.t 15) (.seq (.reg [⟨some 4,.mv (.k (.c (.d (.int .i64 0)))),none⟩,
 ⟨some 5,.mv (.k (.c (.d (.int .i64 4)))),none⟩])
 (.ret))
 (.skip)))
 (.seq (.reg [⟨some 17,.mv (.t 0),none⟩,
 ⟨some 18,.call 32 [(.t 17)] none,none⟩,
 ⟨some 16,.mv (.t 18),none⟩,
 ⟨some 19,.extract (.t 16) 0,none⟩,
 ⟨some 20,.extract (.t 16) 1,none⟩,
 ⟨some 6,.mv (.t 19),none⟩,
 ⟨some 7,.mv (.t 20),none⟩])
 (.seq (.seq (.reg [⟨some 21,.mv (.t 7),none⟩,
 ⟨some 22,.bin .neq (.t 21) (.k (.c (.d (.int .i64 0)))),none⟩])
 (.cond (.t 22) (.seq (.reg [⟨some 23,.mv (.t 7),none⟩,
 ⟨some 4,.mv (.k (.c (.d (.int .i64 0)))),none⟩,
 ⟨some 5,.mv (.t 23),none⟩])
 (.ret))
 (.skip)))
 (.seq (.reg [⟨some 25,.mv (.t 1),none⟩,
 ⟨some 26,.call 32 [(.t 25)] none,none⟩,
 ⟨some 24,.mv (.t 26),none⟩,
 ⟨some 27,.extract (.t 24) 0,none⟩,
 ⟨some 28,.extract (.t 24) 1,none⟩,
 ⟨some 8,.mv (.t 27),none⟩,
 ⟨some 7,.mv (.t 28),none⟩])
 (.seq (.seq (.reg [⟨some 29,.mv (.t 7),none⟩,
 ⟨some 30,.bin .neq (.t 29) (.k (.c (.d (.int .i64 0)))),none⟩])
 (.cond (.t 30) (.seq (.reg [⟨some 31,.mv (.t 7),none⟩,
 ⟨some 4,.mv (.k (.c (.d (.int .i64 0)))),none⟩,
 ⟨some 5,.mv (.t 31),none⟩])
 (.ret))
 (.skip)))
 (.seq (.reg [⟨some 33,.make 1 1 (.int .u8 0) (.k (.c (.d (.int .i64 16)))) (.k (.c (.d (.int .i64 16)))),none⟩,
 ⟨some 34,.mv (.t 8),none⟩,
 ⟨some 35,.bin .add (.k (.c (.d (.int .i64 16)))) (.t 34),none⟩,
 ⟨some 36,.make 1 1 (.int .u8 0) (.t 35) (.t 35),none⟩,
 ⟨some 37,.call 34 [(.t 33),(.t 36)] none,none⟩,
 ⟨some 38,.call 33 [(.t 37)] none,none⟩,
 ⟨some 32,.mv (.t 38),none⟩,
 ⟨some 39,.extract (.t 32) 0,none⟩,
 ⟨some 40,.extract (.t 32) 1,none⟩,
 ⟨some 9,.mv (.t 39),none⟩,
 ⟨some 7,.mv (.t 40),none⟩])
 (.seq (.seq (.reg [⟨some 41,.mv (.t 7),none⟩,
 ⟨some 42,.bin .neq (.t 41) (.k (.c (.d (.int .i64 0)))),none⟩,
 ⟨some 43,.mv (.t 42),none⟩,
 ⟨some 44,.mv (.t 6),some (43,false)⟩,
 ⟨some 45,.bin .add (.k (.c (.d (.int .i64 48)))) (.t 44),some (43,false)⟩,
 ⟨some 46,.mv (.t 9),some (43,false)⟩,
 ⟨some 47,.bin .add (.t 45) (.t 46),some (43,false)⟩,
 ⟨some 48,.bin .gtr (.t 47) (.k (.c (.d (.int .i64 1280)))),some (43,false)⟩,
 ⟨some 49,.pick (.t 43) (.k (.c (.d (.bool true)))) (.t 48),none⟩])
 (.cond (.t 49) (.seq (.reg [⟨some 4,.mv (.k (.c (.d (.int .i64 0)))),none⟩,
 ⟨some 5,.mv (.k (.c (.d (.int .i64 2)))),none⟩])
 (.ret))
 (.skip)))
 (.seq (.reg [⟨some 50,.mv (.t 6),none⟩,
 ⟨some 51,.bin .add (.k (.c (.d (.int .i64 48)))) (.t 50),none⟩,
 ⟨some 52,.mv (.t 9),none⟩,
 ⟨some 53,.bin .add (.t 51) (.t 52),none⟩,
 ⟨some 4,.mv (.t 53),none⟩,
 ⟨some 5,.mv (.k (.c (.d (.int .i64 0)))),none⟩])
 (.ret))))))))),
 [(4,none),(5,none)]⟩
theorem cf_plen:compFn Try.prog { own:=[],comp:=[],frz:=[],nils:=[] } Try.f8=some sf_plen:=by kernel_rfl
theorem plen_c (G:Glob) (p s:List Int) (hp:p.length≤1000000) (hs:s.length≤1000000):Den Try.prog G 8 [.sl (p.map zD),.sl (s.map zD)] (.tup [.c (.d (.int .i64 (lnN p s:Int))),.c (.d (.int .i64 (lnE p s)))]):=by
  refine den_walk Try.func8 cf_plen rfl rfl ?_
  have c1:=conz_c G p 31 [] unf (by omega) (fun x _=>unft_c G x)
  have c2:=conz_c G s 31 [] unf (by omega) (fun x _=>unft_c G x)
  cases hu1:p.any unf
  ·rw[hu1] at c1
   cases hu2:s.any unf
   ·rw[hu2] at c2
    have c3:=ptot_c G p hp (unf_any hu1)
    have c4:=ptot_c G s hs (unf_any hu2)
    rcases Nat.lt_or_ge 1232 (szsS p) with h1 | h1
    ·obtain⟨e1,e2⟩:=lnE_long hu1 hu2 (.inl h1)
     rw[e1,e2]
     rw[show toE p=2 from if_pos h1,show toN p=0 from if_pos h1] at c3
     simp only[sf_plen,putAll,wx,wy,wz,stV,seval,iteOmega,toNatUp,reduceCtorEq]
     refine st_call (c1) rfl (.inl rfl) ?_
     simp only[wx,wy,wz,stV,seval,iteOmega,toNatUp,reduceCtorEq]
     refine st_call (c2) rfl (.inl rfl) ?_
     simp only[wx,wy,wz,stV,seval,iteOmega,toNatUp,reduceCtorEq]
     refine st_call (c3) rfl (.inl rfl) ?_
     simp only[wx,wy,wz,stV,seval,iteOmega,toNatUp,reduceCtorEq]
     exact ret_d2 (by simp only[wx,wy,wz,stV,seval,iteOmega,toNatUp,reduceCtorEq]) (by simp only[wx,wy,wz,stV,seval,iteOmega,toNatUp,reduceCtorEq])
    ·rw[show toE p=0 from if_neg (by omega),show toN p=szsS p from if_neg (by omega)] at c3
     rcases Nat.lt_or_ge 1232 (szsS s) with h2 | h2
     ·obtain⟨e1,e2⟩:=lnE_long hu1 hu2 (.inr (.inl h2))
      rw[e1,e2]
      rw[show toE s=2 from if_pos h2,show toN s=0 from if_pos h2] at c4
      simp only[sf_plen,putAll,wx,wy,wz,stV,seval,iteOmega,toNatUp,reduceCtorEq]
      refine st_call (c1) rfl (.inl rfl) ?_
      simp only[wx,wy,wz,stV,seval,iteOmega,toNatUp,reduceCtorEq]
      refine st_call (c2) rfl (.inl rfl) ?_
      simp only[wx,wy,wz,stV,seval,iteOmega,toNatUp,reduceCtorEq]
      refine st_call (c3) rfl (.inl rfl) ?_
      simp only[wx,wy,wz,stV,seval,iteOmega,toNatUp,reduceCtorEq]
      refine st_call (c4) rfl (.inl rfl) ?_
      simp only[wx,wy,wz,stV,seval,iteOmega,toNatUp,reduceCtorEq]
      exact ret_d2 (by simp only[wx,wy,wz,stV,seval,iteOmega,toNatUp,reduceCtorEq]) (by simp only[wx,wy,wz,stV,seval,iteOmega,toNatUp,reduceCtorEq])
     ·rw[show toE s=0 from if_neg (by omega),show toN s=szsS s from if_neg (by omega)] at c4
      have c5:=grdf_f G (List.replicate 16 0) (List.replicate (16+szsS s) 0) (by simp) (by simp; omega)
      have c6:=xsiz_c G (gdF (List.replicate 16 0) (List.replicate (16+szsS s) 0)) (by show (grD _ _).length≤_; rw[zgd_len]; omega)
      have hA:lnA p s=48+szsS p+(24+(szsS s+19) / 4*4):=rfl
      have hz:=zgd_E (szsS s)
      have hzN:=zgd_N (szsS s)
      have hf:fdD (gdF (List.replicate 16 0) (List.replicate (16+szsS s) 0))=.agg [.int .i64 1028,.sl ((grD (List.replicate 16 0) (List.replicate (16+szsS s) 0)).map bD)]:=rfl
      rw[hf] at c6
      have hfl:=fl_mx (grD (List.replicate 16 0) (List.replicate (16+szsS s) 0)) 1028
      have e16:((16+szsS s:Nat):Int)=16+(szsS s:Int):=by omega
      rcases Nat.lt_or_ge 1280 (lnA p s) with h3 | h3
      ·obtain⟨e1,e2⟩:=lnE_long hu1 hu2 (.inr (.inr h3))
       rw[e1,e2]
       rcases Nat.lt_or_ge 1232 (24+(szsS s+19) / 4*4) with h4 | h4
       ·rw[if_pos h4] at hz hzN
        rw[hz,hzN] at c6
        clear hz hzN hf hA e1 e2 hu1 hu2 h3 h4
        generalize grD (List.replicate 16 0) (List.replicate (16+szsS s) 0)=Q at *
        simp only[sf_plen,putAll,wx,wy,wz,stV,seval,iteOmega,toNatUp,reduceCtorEq]
        refine st_call (c1) rfl (.inl rfl) ?_
        simp only[wx,wy,wz,stV,seval,iteOmega,toNatUp,reduceCtorEq]
        refine st_call (c2) rfl (.inl rfl) ?_
        simp only[wx,wy,wz,stV,seval,iteOmega,toNatUp,reduceCtorEq]
        refine st_call (c3) rfl (.inl rfl) ?_
        simp only[wx,wy,wz,stV,seval,iteOmega,toNatUp,reduceCtorEq]
        refine st_call (c4) rfl (.inl rfl) ?_
        simp only[wx,wy,wz,stV,seval,iteOmega,toNatUp,reduceCtorEq]
        refine st_call c5 (by simp only[wx,wy,wz,stV,seval,iteOmega,toNatUp,reduceCtorEq,rep_b,List.take_replicate,Nat.min_self] <;> rfl) (.inr hfl) ?_
        simp only[wx,wy,wz,stV,seval,iteOmega,toNatUp,reduceCtorEq]
        refine st_call (c6) rfl (.inl rfl) ?_
        simp only[wx,wy,wz,stV,seval,iteOmega,toNatUp,reduceCtorEq]
        exact ret_d2 (by simp only[wx,wy,wz,stV,seval,iteOmega,toNatUp,reduceCtorEq]) (by simp only[wx,wy,wz,stV,seval,iteOmega,toNatUp,reduceCtorEq])
       ·rw[if_neg (by omega)] at hz hzN
        rw[hz,hzN] at c6
        have g5:48+(szsS p:Int)+((24+(szsS s+19) / 4*4:Nat):Int)>1280:=by omega
        have g3:(48+(szsS p:Int)+((24+(szsS s+19) / 4*4:Nat):Int)>1280)=True:=eq_true g5
        clear hz hzN hf hA e1 e2 hu1 hu2 h3
        generalize (24+(szsS s+19) / 4*4:Nat)=T at *
        generalize grD (List.replicate 16 0) (List.replicate (16+szsS s) 0)=Q at *
        simp only[sf_plen,putAll,wx,wy,wz,stV,seval,iteOmega,toNatUp,reduceCtorEq]
        refine st_call (c1) rfl (.inl rfl) ?_
        simp only[wx,wy,wz,stV,seval,iteOmega,toNatUp,reduceCtorEq]
        refine st_call (c2) rfl (.inl rfl) ?_
        simp only[wx,wy,wz,stV,seval,iteOmega,toNatUp,reduceCtorEq]
        refine st_call (c3) rfl (.inl rfl) ?_
        simp only[wx,wy,wz,stV,seval,iteOmega,toNatUp,reduceCtorEq]
        refine st_call (c4) rfl (.inl rfl) ?_
        simp only[wx,wy,wz,stV,seval,iteOmega,toNatUp,reduceCtorEq]
        refine st_call c5 (by simp only[wx,wy,wz,stV,seval,iteOmega,toNatUp,reduceCtorEq,rep_b,List.take_replicate,Nat.min_self] <;> rfl) (.inr hfl) ?_
        simp only[wx,wy,wz,stV,seval,iteOmega,toNatUp,reduceCtorEq]
        refine st_call (c6) rfl (.inl rfl) ?_
        simp only[g3,wx,wy,wz,stV,seval,iteOmega,toNatUp,reduceCtorEq]
        exact ret_d2 (by simp only[wx,wy,wz,stV,seval,iteOmega,toNatUp,reduceCtorEq]) (by simp only[wx,wy,wz,stV,seval,iteOmega,toNatUp,reduceCtorEq])
      ·obtain⟨e1,e2⟩:=lnE_fit hu1 hu2 (by omega)
       rw[e1,e2]
       rw[if_neg (by omega)] at hz hzN
       rw[hz,hzN] at c6
       have g3:(48+(szsS p:Int)+((24+(szsS s+19) / 4*4:Nat):Int)>1280)=False:=eq_false (by omega)
       have g5:48+(szsS p:Int)+((24+(szsS s+19) / 4*4:Nat):Int)≤1280:=by omega
       have g4:((lnA p s:Nat):Int)=48+(szsS p:Int)+((24+(szsS s+19) / 4*4:Nat):Int):=by omega
       rw[g4]
       clear hz hzN hf g4 hA e1 e2 hu1 hu2 h3
       generalize (24+(szsS s+19) / 4*4:Nat)=T at *
       generalize grD (List.replicate 16 0) (List.replicate (16+szsS s) 0)=Q at *
       simp only[sf_plen,putAll,wx,wy,wz,stV,seval,iteOmega,toNatUp,reduceCtorEq]
       refine st_call (c1) rfl (.inl rfl) ?_
       simp only[wx,wy,wz,stV,seval,iteOmega,toNatUp,reduceCtorEq]
       refine st_call (c2) rfl (.inl rfl) ?_
       simp only[wx,wy,wz,stV,seval,iteOmega,toNatUp,reduceCtorEq]
       refine st_call (c3) rfl (.inl rfl) ?_
       simp only[wx,wy,wz,stV,seval,iteOmega,toNatUp,reduceCtorEq]
       refine st_call (c4) rfl (.inl rfl) ?_
       simp only[wx,wy,wz,stV,seval,iteOmega,toNatUp,reduceCtorEq]
       refine st_call c5 (by simp only[wx,wy,wz,stV,seval,iteOmega,toNatUp,reduceCtorEq,rep_b,List.take_replicate,Nat.min_self] <;> rfl) (.inr hfl) ?_
       simp only[wx,wy,wz,stV,seval,iteOmega,toNatUp,reduceCtorEq]
       refine st_call (c6) rfl (.inl rfl) ?_
       simp only[g3,wx,wy,wz,stV,seval,iteOmega,toNatUp,reduceCtorEq]
       exact ret_d2 (by simp only[wx,wy,wz,stV,seval,iteOmega,toNatUp,reduceCtorEq]) (by simp only[wx,wy,wz,stV,seval,iteOmega,toNatUp,reduceCtorEq])
   ·rw[hu2] at c2
    obtain⟨e1,e2⟩:=lnE_bad (p:=p) (.inr hu2)
    rw[e1,e2]
    simp only[sf_plen,putAll,wx,wy,wz,stV,seval,iteOmega,toNatUp,reduceCtorEq]
    refine st_call (c1) rfl (.inl rfl) ?_
    simp only[wx,wy,wz,stV,seval,iteOmega,toNatUp,reduceCtorEq]
    refine st_call (c2) rfl (.inl rfl) ?_
    simp only[wx,wy,wz,stV,seval,iteOmega,toNatUp,reduceCtorEq]
    exact ret_d2 (by simp only[wx,wy,wz,stV,seval,iteOmega,toNatUp,reduceCtorEq]) (by simp only[wx,wy,wz,stV,seval,iteOmega,toNatUp,reduceCtorEq])
  ·rw[hu1] at c1
   obtain⟨e1,e2⟩:=lnE_bad (s:=s) (.inl hu1)
   rw[e1,e2]
   simp only[sf_plen,putAll,wx,wy,wz,stV,seval,iteOmega,toNatUp,reduceCtorEq]
   refine st_call (c1) rfl (.inl rfl) ?_
   simp only[wx,wy,wz,stV,seval,iteOmega,toNatUp,reduceCtorEq]
   exact ret_d2 (by simp only[wx,wy,wz,stV,seval,iteOmega,toNatUp,reduceCtorEq]) (by simp only[wx,wy,wz,stV,seval,iteOmega,toNatUp,reduceCtorEq])
end Go.Proofs.Ytcikhnjfkfigjaa
namespace Go.Proofs.Ytcikhnjfkfigjaa
open Go.RowKit
end Go.Proofs.Ytcikhnjfkfigjaa
namespace Go.Proofs.Ytcikhnjfkfigjaa
open Go.RowKit IntWalk
theorem pt_mk {key:List UInt8} {p:Pkt} {n:List UInt8} (h1:key.length=32) (h2:16≤n.length) (h3:n.length≤32) (h4:unE p=0) (h5:xeE p.se=0) (h6:(fnL p.pl 1028).length=0) (h7:p.pl.length≤23)
    (h8:48+xtot p.pl+(8+(n.length+3) / 4*4+(xtot p.se+19) / 4*4)≤1280):PtOk key p n∧xsT (ptG key p n)=8+(n.length+3) / 4*4+(xtot p.se+19) / 4*4:=by
  have s1:=(xeE_0 h5).2.2.1
  have s2:=(xeE_0 (unE_0 h4).2.2).2.2.1
  have ha:aeE key [unX p,n] ((xall p.se).length:Int)=0:=ae_two h1 (by rw[unX_len]; omega) (by omega) (by rw[xall_len]; omega)
  have hs:(ptS key p n).length=16+xtot p.se:=by unfold ptS; rw[sealV_ok ha,List.length_append,tagM_len,strS_len,xall_len]
  have hl:=grD_len n (ptS key p n)
  have hT:xsT (ptG key p n)=8+(n.length+3) / 4*4+(xtot p.se+19) / 4*4:=by
    unfold ptG
    rw[gdF_T (by omega),hl,hs]; omega
  exact⟨⟨h1,h2,h3,h4,h5,h6,h7,gdF_E (by omega) (by unfold ptG at hT; rw[gdF_T (by omega)] at hT; omega),by rw[hT]; omega⟩,hT⟩
def pk0:Pkt:=⟨askH 7,[],[],false⟩
theorem pk0_ok:PtOk (List.replicate 32 0) pk0 (List.replicate 16 0)∧xsT (ptG (List.replicate 32 0) pk0 (List.replicate 16 0))=40:=by
  have h:=pt_mk (key:=List.replicate 32 0) (p:=pk0) (n:=List.replicate 16 0) (by simp) (by simp) (by simp) (by decide) (by decide) (by decide) (by decide) (by simp[pk0,xtot])
  refine⟨h.1,?_⟩
  rw[h.2]
  simp[pk0,xtot]
theorem ptB_len {key:List UInt8} {p:Pkt} {n:List UInt8} (h:PtOk key p n):(ptB key p n).length=48+xtot p.pl+xsT (ptG key p n):=by
  rw[(ptE_of h).2,List.length_append,unX_len,xall_len]
  simp[xtot]
def sf_known18:SFn:=⟨0,59,
 .seq (.reg [⟨some 0,.mv (.k (.c (.d (.bool false)))),none⟩])
 (.seq (.reg [⟨some 9,.make 1 1 (.int .u8 0) (.k (.c (.d (.int .i64 32)))) (.k (.c (.d (.int .i64 32)))),none⟩,
 ⟨some 1,.frz (.t 9),none⟩])
 (.seq (.reg [⟨some 10,.call 29 [(.k (.c (.d (.int .u64 7))))] none,none⟩,
 ⟨some 11,.build [(.d (.int .i64 0)),(.d (.int .i64 0)),(.d (.int .i64 0)),(.d (.int .i64 0)),(.d (.int .i64 0)),(.d (.int .i64 0)),(.d (.int .u32 0)),(.d (.int .u32 0)),(.d (.int .u32 0)),(.d (.int .u64 0)),(.d (.int .u64 0)),(.d (.int .u64 0)),(.d (.int .u64 0)),.nil,.nil,(.d (.bool false))] [(0,13,(.t 10))],none⟩,
 ⟨some 2,.alloc [(.d (.int .i64 0)),(.d (.int .i64 0)),(.d (.int .i64 0)),(.d (.int .i64 0)),(.d (.int .i64 0)),(.d (.int .i64 0)),(.d (.int .u32 0)),(.d (.int .u32 0)),(.d (.int .u32 0)),(.d (.int .u64 0)),(.d (.int .u64 0)),(.d (.int .u64 0)),(.d (.int .u64 0)),.nil,.nil,(.d (.bool false))],none⟩,
 ⟨none,.store (.ag 16) (.t 2) (.t 11),none⟩])
 (.seq (.reg [⟨some 13,.mv (.t 1),none⟩,
 ⟨some 14,.load (.ag 16) (.t 2),none⟩,
 ⟨some 15,.make 1 1 (.int .u8 0) (.k (.c (.d (.int .i64 16)))) (.k (.c (.d (.int .i64 16)))),none⟩,
 ⟨some 16,.call 12 [(.t 13),(.t 14),(.t 15)] none,none⟩,
 ⟨some 12,.mv (.t 16),none⟩,
 ⟨some 17,.extract (.t 12) 0,none⟩,
 ⟨some 18,.extract (.t 12) 1,none⟩,
 ⟨some 3,.mv (.t 17),none⟩,
 ⟨some 4,.mv (.t 18),none⟩])
 (.seq (.reg [⟨some 20,.mv (.t 1),none⟩,
 ⟨some 21,.mv (.t 3),none⟩,
 ⟨some 22,.call 16 [(.t 20),(.t 21)] none,none⟩,
 ⟨some 19,.mv (.t 22),none⟩,
 ⟨some 23,.extract (.t 19) 0,none⟩,
 ⟨some 24,.extract (.t 19) 1,none⟩,
 ⟨some 5,.alloc [(.d (.int .i64 0)),(.d (.int .i64 0)),(.d (.int .i64 0)),(.d (.int .i64 0)),(.d (.int .i64 0)),(.d (.int .i64 0)),(.d (.int .u32 0)),(.d (.int .u32 0)),(.d (.int .u32 0)),(.d (.int .u64 0)),(.d (.int .u64 0)),(.d (.int .u64 0)),(.d (.int .u64 0)),.nil,.nil,(.d (.bool false))],none⟩,
 ⟨none,.store (.ag 16) (.t 5) (.t 23),none⟩,
 ⟨some 6,.mv (.t 24),none⟩])
 (.seq (.reg [⟨some 26,.call 8 [(.k (.c .nil)),(.k (.c .nil))] none,none⟩,
 ⟨some 25,.mv (.t 26),none⟩,
 ⟨some 27,.extract (.t 25) 0,none⟩,
 ⟨some 28,.extract (.t 25) 1,none⟩,
 ⟨some 7,.mv (.t 27),none⟩,
 ⟨some 8,.mv (.t 28),none⟩])
 (.seq (.reg [⟨some 29,.mv (.t 4),none⟩,
 ⟨some 30,.bin .eql (.t 29) (.k (.c (.d (.int .i64 0)))),none⟩,
 ⟨some 31,.mv (.t 30),none⟩,
 ⟨some 32,.mv (.t 6),some (31,true)⟩,
 ⟨some 33,.bin .eql (.t 32) (.k (.c (.d (.int .i64 0)))),some (31,true)⟩,
 ⟨some 34,.pick (.t 31) (.t 33) (.k (.c (.d (.bool false)))),none⟩,
 ⟨some 35,.mv (.t 34),none⟩,
 ⟨some 36,.mv (.t 8),some (35,true)⟩,
 ⟨some 37,.bin .eql (.t 36) (.k (.c (.d (.int .i64 0)))),some (35,true)⟩,
 ⟨some 38,.pick (.t 35) (.t 37) (.k (.c (.d (.bool false)))),none⟩,
 ⟨some 39,.mv (.t 38),none⟩,
 ⟨some 40,.mv (.t 3),some (39,true)⟩,
 ⟨some 41,.len (.t 40),some (39,true)⟩,
 ⟨some 42,.bin .eql (.t 41) (.k (.c (.d (.int .i64 88)))),some (39,true)⟩,
 ⟨some 43,.pick (.t 39) (.t 42) (.k (.c (.d (.bool false)))),none⟩,
 ⟨some 44,.mv (.t 43),none⟩,
 ⟨some 45,.mv (.t 7),some (44,true)⟩,
 ⟨some 46,.bin .eql (.t 45) (.k (.c (.d (.int .i64 88)))),some (44,true)⟩,
 ⟨some 47,.pick (.t 44) (.t 46) (.k (.c (.d (.bool false)))),none⟩,
 ⟨some 48,.mv (.t 47),none⟩,
 ⟨some 49,.fieldAddr 15 (.t 5),some (48,true)⟩,
 ⟨some 50,.load .sc (.t 49),some (48,true)⟩,
 ⟨some 51,.pick (.t 48) (.t 50) (.k (.c (.d (.bool false)))),none⟩,
 ⟨some 52,.mv (.t 51),none⟩,
 ⟨some 53,.fieldAddr 0 (.t 5),some (52,true)⟩,
 ⟨some 54,.load (.ag 13) (.t 53),some (52,true)⟩,
 ⟨some 55,.fieldAddr 0 (.t 2),some (52,true)⟩,
 ⟨some 56,.load (.ag 13) (.t 55),some (52,true)⟩,
 ⟨some 57,.eqA false [0,0,0,0,0,0,0,0,0,0,0,0,0] (.t 54) (.t 56),some (52,true)⟩,
 ⟨some 58,.pick (.t 52) (.t 57) (.k (.c (.d (.bool false)))),none⟩,
 ⟨some 0,.mv (.t 58),none⟩])
 (.ret))))))),
 [(0,none)]⟩
theorem cf_known18:compFn Try.prog { own:=[],comp:=[],frz:=[1],nils:=[] } Try.f7=some sf_known18:=by kernel_rfl
set_option maxHeartbeats 1600000 in
theorem known18_c (G:Glob):Den Try.prog G 7 [] (.w (.c (.d (.bool true)))):=by
  refine den_walk Try.func7 cf_known18 rfl rfl ?_
  obtain⟨k0,kT⟩:=pk0_ok
  obtain⟨k1,k2⟩:=ptE_of k0
  have kl:=ptB_len k0
  rw[kT,show xtot pk0.pl=0 from rfl] at kl
  have hF:hdF pk0.hd:=by unfold pk0 askH hdF; decide
  obtain⟨_,_,o1,o2⟩:=open_pt hF k0
  have c0:=pask_c G 7
  have c1:=pprt_f G (List.replicate 32 0) pk0 (List.replicate 16 0) (by simp) hF (by decide) (fun f hf=>by cases hf) (by decide) (fun f hf=>by cases hf) (by simp)
  have c2:=popn_c G (List.replicate 32 0) (ptB (List.replicate 32 0) pk0 (List.replicate 16 0)) (by simp) (by omega)
  have c3:=plen_c G [] [] (by decide) (by decide)
  rw[show lnN [] []=88 from rfl,show lnE [] []=0 from rfl] at c3
  rw[o1,o2] at c2
  rw[k1] at c1
  clear k0 k1 k2 kT o1 o2 hF
  generalize ptB (List.replicate 32 0) pk0 (List.replicate 16 0)=B at *
  unfold pk0 pkD askH at *
  unfold hdD at c0
  simp only[List.map_nil] at c1 c2 c3
  simp only[sf_known18,putAll,wx,wy,wz,stV,seval,iteOmega,toNatUp,reduceCtorEq]
  refine st_call (c0) rfl (.inl rfl) ?_
  simp only[wx,wy,wz,stV,seval,iteOmega,toNatUp,reduceCtorEq]
  refine st_call c1 (by simp only[wx,wy,wz,stV,seval,iteOmega,toNatUp,reduceCtorEq,rep_b,List.take_replicate,Nat.min_self] <;> rfl) (.inr (fl_by _ _ _ _)) ?_
  simp only[wx,wy,wz,stV,seval,iteOmega,toNatUp,reduceCtorEq]
  refine st_call (c2) rfl (.inl rfl) ?_
  simp only[wx,wy,wz,stV,seval,iteOmega,toNatUp,reduceCtorEq]
  refine st_call (c3) rfl (.inl rfl) ?_
  simp only[kl,wx,wy,wz,stV,seval,iteOmega,toNatUp,reduceCtorEq]
  exact ret_d1 (by simp only[wx,wy,wz,stV,seval,iteOmega,toNatUp,reduceCtorEq])
end Go.Proofs.Ytcikhnjfkfigjaa
namespace Go.Proofs.Ytcikhnjfkfigjaa
open Go.RowKit
theorem wfL_ty {l:List Fd} {f:Fd} (h:f∈wfL l):f.ty≠1028:=by
  obtain⟨x,_,rfl⟩:=List.mem_map.1 h
  have h3:(wfF x).ty=kndZ (withinN x.ty 4):=rfl
  have h4:=kndZ_in x.ty
  omega
theorem fnL_wf (l:List Fd):(fnL (wfL l) 1028).length=0:=by
  unfold fnL
  rw[fnN_none (fun f hf=>wfL_ty hf) _ (Nat.le_refl _)]
  rfl
theorem ask_ok (t:Nat):hdE (askH t)=0:=by
  rw[hdE_0]
  exact decide_eq_true ⟨by simp[askH],by simp[askH],by simp[askH],by simp[askH],by simp[askH],by simp[askH],by simp[askH],by simp[askH],by simp[askH],by simp[askH],by simp[askH]⟩
theorem ask_fit {t:Nat} (h:t<18446744073709551616):hdF (askH t):=by
  unfold hdF askH
  exact⟨by simp,by simp,by simp,by simp,by simp,by simp,h⟩
theorem wf_tot (l:List Fd):xeE (wfL l)=0∧xtot (wfL l)≤304∧(wfL l).length≤4∧xtot (wfL l)%4=0:=by
  have h1:=wfL_le l
  have h2:=tot_76 (l:=wfL l) fun f hf=>(wfL_mem hf).2.2.1
  exact⟨(xe_short (l:=wfL l) (fun f hf=>⟨(wfL_mem hf).1,(wfL_mem hf).2.2.1⟩) (by omega)).1,by omega,h1,tot_mod _⟩
theorem wpk_ok {key n:List UInt8} (t:Nat) (a b:List Fd) (g:Bool) (hk:key.length=32) (h1:16≤n.length) (h2:n.length≤32) :
    PtOk key ⟨askH t,wfL a,wfL b,g⟩ n∧xsT (ptG key ⟨askH t,wfL a,wfL b,g⟩ n)=8+(n.length+3) / 4*4+(xtot (wfL b)+19) / 4*4:=by
  obtain⟨a1,a2,a3,a4⟩:=wf_tot a
  obtain⟨b1,b2,b3,b4⟩:=wf_tot b
  refine pt_mk hk h1 h2 ?_ b1 (fnL_wf a) (by show (wfL a).length≤23; omega) ?_
  ·rw[unE_pl (p:=⟨askH t,wfL a,wfL b,g⟩) (ask_ok t)]; exact a1
  ·show 48+xtot (wfL a)+(8+(n.length+3) / 4*4+(xtot (wfL b)+19) / 4*4)≤1280
   omega
theorem wf_da {l:List Fd}:(∀ f∈wfL l,f.da.length≤8000000000000000000)∧(wfL l).length≤1000000:=⟨fun f hf=>by have:=(wfL_mem hf).2.1; omega,by have:=wfL_le l; omega⟩
theorem ptB_le {key:List UInt8} {p:Pkt} {n:List UInt8} (h:PtOk key p n):(ptB key p n).length≤1280∧48≤(ptB key p n).length:=by
  rw[ptB_len h]
  have:=h.all
  omega
end Go.Proofs.Ytcikhnjfkfigjaa
namespace Go.Proofs.Ytcikhnjfkfigjaa
open Go.RowKit IntWalk
def sf_pseals:SFn:=⟨3,101,
 .seq (.reg [⟨some 6,.mv (.k (.c (.d (.bool false)))),none⟩])
 (.seq (.reg [⟨some 19,.mv (.t 0),none⟩,
 ⟨some 20,.call 14 [(.t 19),(.k (.c (.d (.int .i64 1000))))] none,none⟩,
 ⟨some 0,.mv (.t 20),none⟩])
 (.seq (.reg [⟨some 21,.call 10 [(.k (.c (.d (.int .u64 5))))] none,none⟩,
 ⟨some 22,.mv (.t 1),none⟩,
 ⟨some 23,.call 11 [(.t 22)] none,none⟩,
 ⟨some 24,.mv (.t 2),none⟩,
 ⟨some 25,.call 11 [(.t 24)] none,none⟩,
 ⟨some 26,.build [(.d (.int .i64 0)),(.d (.int .i64 0)),(.d (.int .i64 0)),(.d (.int .i64 0)),(.d (.int .i64 0)),(.d (.int .i64 0)),(.d (.int .u32 0)),(.d (.int .u32 0)),(.d (.int .u32 0)),(.d (.int .u64 0)),(.d (.int .u64 0)),(.d (.int .u64 0)),(.d (.int .u64 0)),.nil,.nil,(.d (.bool false))] [(0,13,(.t 21)),(13,1,(.t 23)),(14,1,(.t 25))],none⟩,
 ⟨some 7,.alloc [(.d (.int .i64 0)),(.d (.int .i64 0)),(.d (.int .i64 0)),(.d (.int .i64 0)),(.d (.int .i64 0)),(.d (.int .i64 0)),(.d (.int .u32 0)),(.d (.int .u32 0)),(.d (.int .u32 0)),(.d (.int .u64 0)),(.d (.int .u64 0)),(.d (.int .u64 0)),(.d (.int .u64 0)),.nil,.nil,(.d (.bool false))],none⟩,
 ⟨none,.store (.ag 16) (.t 7) (.t 26),none⟩])
 (.seq (.reg [⟨some 27,.mv (.t 0),none⟩,
 ⟨some 28,.call 15 [(.t 27),(.k (.c (.d (.int .i64 16))))] none,none⟩,
 ⟨some 8,.mv (.t 28),none⟩])
 (.seq (.reg [⟨some 30,.mv (.t 0),none⟩,
 ⟨some 31,.call 13 [(.t 30)] none,none⟩,
 ⟨some 32,.load (.ag 16) (.t 7),none⟩,
 ⟨some 33,.mv (.t 8),none⟩,
 ⟨some 34,.call 12 [(.t 31),(.t 32),(.t 33)] none,none⟩,
 ⟨some 29,.mv (.t 34),none⟩,
 ⟨some 35,.extract (.t 29) 0,none⟩,
 ⟨some 36,.extract (.t 29) 1,none⟩,
 ⟨some 9,.mv (.t 35),none⟩,
 ⟨some 10,.mv (.t 36),none⟩])
 (.seq (.reg [⟨some 38,.fieldAddr 0 (.t 7),none⟩,
 ⟨some 39,.load (.ag 13) (.t 38),none⟩,
 ⟨some 40,.fieldAddr 13 (.t 7),none⟩,
 ⟨some 41,.load .sc (.t 40),none⟩,
 ⟨some 42,.build [(.d (.int .i64 0)),(.d (.int .i64 0)),(.d (.int .i64 0)),(.d (.int .i64 0)),(.d (.int .i64 0)),(.d (.int .i64 0)),(.d (.int .u32 0)),(.d (.int .u32 0)),(.d (.int .u32 0)),(.d (.int .u64 0)),(.d (.int .u64 0)),(.d (.int .u64 0)),(.d (.int .u64 0)),.nil,.nil,(.d (.bool false))] [(0,13,(.t 39)),(13,1,(.t 41))],none⟩,
 ⟨some 43,.call 21 [(.t 42)] none,none⟩,
 ⟨some 37,.mv (.t 43),none⟩,
 ⟨some 44,.extract (.t 37) 0,none⟩,
 ⟨some 45,.extract (.t 37) 1,none⟩,
 ⟨some 11,.mv (.t 44),none⟩,
 ⟨some 12,.mv (.t 45),none⟩])
 (.seq (.reg [⟨some 47,.fieldAddr 14 (.t 7),none⟩,
 ⟨some 48,.load .sc (.t 47),none⟩,
 ⟨some 49,.call 23 [(.t 48)] none,none⟩,
 ⟨some 46,.mv (.t 49),none⟩,
 ⟨some 50,.extract (.t 46) 0,none⟩,
 ⟨some 51,.extract (.t 46) 1,none⟩,
 ⟨some 13,.mv (.t 50),none⟩,
 ⟨some 14,.mv (.t 51),none⟩])
 (.seq (.reg [⟨some 53,.mv (.t 0),none⟩,
 ⟨some 54,.call 13 [(.t 53)] none,none⟩,
 ⟨some 55,.mv (.t 11),none⟩,
 ⟨some 56,.mv (.t 8),none⟩,
 ⟨some 57,.bldSl false 2 1 (.sl []) [(0,(.t 55)),(1,(.t 56))],none⟩,
 ⟨some 58,.mv (.t 13),none⟩,
 ⟨some 59,.call 24 [(.t 54),(.t 57),(.t 58)] none,none⟩,
 ⟨some 52,.mv (.t 59),none⟩,
 ⟨some 60,.extract (.t 52) 0,none⟩,
 ⟨some 61,.extract (.t 52) 1,none⟩,
 ⟨some 15,.mv (.t 60),none⟩,
 ⟨some 16,.mv (.t 61),none⟩])
 (.seq (.seq (.reg [⟨some 62,.mv (.t 10),none⟩,
 ⟨some 63,.bin .neq (.t 62) (.k (.c (.d (.int .i64 0)))),none⟩,
 ⟨some 64,.mv (.t 63),none⟩,
 ⟨some 65,.mv (.t 12),some (64,false)⟩,
 ⟨some 66,.bin .neq (.t 65) (.k (.c (.d (.int .i64 0)))),some (64,false)⟩,
 ⟨some 67,.pick (.t 64) (.k (.c (.d (.bool true)))) (.t 66),none⟩,
 ⟨some 68,.mv (.t 67),none⟩,
 ⟨some 69,.mv (.t 14),some (68,false)⟩,
 ⟨some 70,.bin .neq (.t 69) (.k (.c (.d (.int .i64 0)))),some (68,false)⟩,
 ⟨some 71,.pick (.t 68) (.k (.c (.d (.bool true)))) (.t 70),none⟩,
 ⟨some 72,.mv (.t 71),none⟩,
 ⟨some 73,.mv (.t 16),some (72,false)⟩,
 ⟨some 74,.bin .neq (.t 73) (.k (.c (.d (.int .i64 0)))),some (72,false)⟩,
 ⟨some 75,.pick (.t 72) (.k (.c (.d (.bool true)))) (.t 74),none⟩])
 (.cond (.t 75) (.seq (.reg [⟨some 6,.mv (.k (.c (.d (.bool false)))),none⟩])
 (.ret))
 (.skip)))
 (.seq (.reg [⟨some 77,.call 27 [(.k (.c (.d (.int .u64 16)))),(.k (.c (.d (.int .i64 2))))] none,none⟩,
 ⟨some 78,.mv (.t 15),none⟩,
 ⟨some 79,.len (.t 78),none⟩,
 ⟨some 80,.conv .u64 (.t 79),none⟩,
 ⟨some 81,.call 27 [(.t 80),(.k (.c (.d (.int .i64 2))))] none,none⟩,
 ⟨some 82,.mv (.t 8),none⟩,
 ⟨some 83,.mv (.t 15),none⟩,
 ⟨some 84,.call 28 [(.t 83),(.k (.c (.d (.int .i64 4))))] none,none⟩,
 ⟨some 85,.bldSl false 4 1 (.sl []) [(0,(.t 77)),(1,(.t 81)),(2,(.t 82)),(3,(.t 84))],none⟩,
 ⟨some 86,.call 26 [(.t 85)] none,none⟩,
 ⟨some 87,.build [(.d (.int .i64 0)),.nil] [(0,1,(.k (.c (.d (.int .i64 1028))))),(1,1,(.t 86))],none⟩,
 ⟨some 88,.bldSl false 1 2 (.agg [(.int .i64 0),(.sl [])]) [(0,(.t 87))],none⟩,
 ⟨some 89,.call 25 [(.t 88)] none,none⟩,
 ⟨some 76,.mv (.t 89),none⟩,
 ⟨some 90,.extract (.t 76) 0,none⟩,
 ⟨some 91,.extract (.t 76) 1,none⟩,
 ⟨some 17,.mv (.t 90),none⟩,
 ⟨some 18,.mv (.t 91),none⟩])
 (.seq (.reg [⟨some 92,.call 7 [] none,none⟩,
 ⟨some 93,.mv (.t 92),none⟩,
 ⟨some 94,.mv (.t 9),some (93,true)⟩,
 ⟨some 95,.mv (.t 11),some (93,true)⟩,
 ⟨some 96,.mv (.t 17),some (93,true)⟩,
 ⟨some 97,.bldSl false 2 1 (.sl []) [(0,(.t 95)),(1,(.t 96))],some (93,true)⟩,
 ⟨some 98,.call 26 [(.t 97)] none,some (93,true)⟩,
 ⟨some 99,.call 22 [(.t 94),(.t 98)] none,some (93,true)⟩,
 ⟨some 100,.pick (.t 93) (.t 99) (.k (.c (.d (.bool false)))),none⟩,
 ⟨some 6,.mv (.t 100),none⟩])
 (.ret))))))))))),
 [(6,none)]⟩
theorem cf_pseals:compFn Try.prog { own:=[],comp:=[],frz:=[],nils:=[] } Try.f6=some sf_pseals:=by kernel_rfl
set_option maxHeartbeats 1600000 in
theorem pseals_c (G:Glob) (seed:Int) (hseed1:-9223372036854775808≤seed) (hseed2:seed≤9223372036854775807) (a:List Fd) (ha1:a.length≤maxLen) (ha2:∀ f∈a,fdF f) (b:List Fd) (hb1:b.length≤maxLen) (hb2:∀ f∈b,fdF f) :Den Try.prog G 6 [.int .i64 seed,.sl (a.map fdD),.sl (b.map fdD)] (.w (.c (.d (.bool true)))):=by
  refine den_walk Try.func6 cf_pseals rfl rfl ?_
  have hmx:maxLen=9223372036854775807:=rfl
  rw[hmx] at ha1 hb1
  have r0:=withinN_range seed 1000 (by decide)
  have e0:=within_c G seed 1000 (by decide)
  have ck:=known18_c G
  have ca:=wfds_c G a ha1 (fun f hf=>(ha2 f hf).2)
  have cb:=wfds_c G b hb1 (fun f hf=>(hb2 f hf).2)
  have w0:=wkey_c G (withinN seed 1000)
  have w1:=wbytes_c G (withinN seed 1000) 16 (by decide)
  have kl:(bytesK (withinN seed 1000) 32).length=32:=bytesK_len _ _
  have nl:(bytesK (withinN seed 1000) 16).length=16:=bytesK_len _ _
  have cq:=rask_c G 5
  rw[show ((5:Nat):Int)=5 from rfl] at cq
  have hF:hdF (askH 5):=ask_fit (by decide)
  obtain⟨hP,_⟩:=wpk_ok (key:=bytesK (withinN seed 1000) 32) (n:=bytesK (withinN seed 1000) 16) 5 a b false kl (by omega) (by omega)
  obtain⟨k1,k2⟩:=ptE_of hP
  obtain⟨s1,s2,s3⟩:=ptS_len hP
  have c1:=den_ro2 (pprt_f G (bytesK (withinN seed 1000) 32) ⟨askH 5,wfL a,wfL b,false⟩ (bytesK (withinN seed 1000) 16) (by omega) hF wf_da.2 wf_da.1 wf_da.2 wf_da.1 (by omega))
  rw[k1] at c1
  have c3:=bare_c G ⟨askH 5,wfL a,[],false⟩ hF wf_da.2 wf_da.1
  have u0:unE ⟨askH 5,wfL a,[],false⟩=0:=hP.un
  have b0:brE ⟨askH 5,wfL a,[],false⟩=0:=by unfold brE; rw[if_pos u0,if_pos ⟨rfl,rfl⟩]
  have b1:brB ⟨askH 5,wfL a,[],false⟩=unX ⟨askH 5,wfL a,wfL b,false⟩:=if_pos b0
  rw[b0,b1] at c3
  have c4:=xenc_c G (wfL b) wf_da.2 wf_da.1
  rw[show xeE (wfL b)=0 from hP.se,(xeE_0 hP.se).2.2.2] at c4
  have hxl:=unX_le (p:=⟨askH 5,wfL a,wfL b,false⟩) hP.un
  have hsl:=xall_len (wfL b)
  have hs3:xtot (wfL b)≤1232:=s3
  have c5:=seal_c G (bytesK (withinN seed 1000) 32) [unX ⟨askH 5,wfL a,wfL b,false⟩,bytesK (withinN seed 1000) 16] (xall (wfL b)) (by omega) (by simp) (fun x hx=>by simp at hx; rcases hx with rfl | rfl <;> omega) (by omega)
  rw[s1,show sealV (bytesK (withinN seed 1000) 32) [unX ⟨askH 5,wfL a,wfL b,false⟩,bytesK (withinN seed 1000) 16] (xall (wfL b))=ptS (bytesK (withinN seed 1000) 32) ⟨askH 5,wfL a,wfL b,false⟩ (bytesK (withinN seed 1000) 16) from rfl] at c5
  have c6:=rputk_c G 16 2 (by decide)
  have c7:=rputk_c G (ptS (bytesK (withinN seed 1000) 32) ⟨askH 5,wfL a,wfL b,false⟩ (bytesK (withinN seed 1000) 16)).length 2 (by decide)
  rw[show (2:Int).toNat=2 from rfl] at c6 c7
  rw[show ((16:Nat):Int)=16 from rfl] at c6
  have hs2:xtot (wfL b)≤1232∧(ptS (bytesK (withinN seed 1000) 32) ⟨askH 5,wfL a,wfL b,false⟩ (bytesK (withinN seed 1000) 16)).length=16+xtot (wfL b):=⟨s3,s2⟩
  have c8:=rpad_c G (ptS (bytesK (withinN seed 1000) 32) ⟨askH 5,wfL a,wfL b,false⟩ (bytesK (withinN seed 1000) 16)) 4 (by omega)
  have hpn:padN (bytesK (withinN seed 1000) 16) 4=bytesK (withinN seed 1000) 16:=by
    rw[padN4,nl]
    exact List.append_nil _
  have hfl:[putL 16 2,putL (ptS (bytesK (withinN seed 1000) 32) ⟨askH 5,wfL a,wfL b,false⟩ (bytesK (withinN seed 1000) 16)).length 2,bytesK (withinN seed 1000) 16,padN (ptS (bytesK (withinN seed 1000) 32) ⟨askH 5,wfL a,wfL b,false⟩ (bytesK (withinN seed 1000) 16)) 4].flatten=grD (bytesK (withinN seed 1000) 16) (ptS (bytesK (withinN seed 1000) 32) ⟨askH 5,wfL a,wfL b,false⟩ (bytesK (withinN seed 1000) 16)):=by
    unfold grD
    rw[hpn,nl]
    simp
  have hgl:=grD_len (bytesK (withinN seed 1000) 16) (ptS (bytesK (withinN seed 1000) 32) ⟨askH 5,wfL a,wfL b,false⟩ (bytesK (withinN seed 1000) 16))
  have c9:=rjoin_c G [putL 16 2,putL (ptS (bytesK (withinN seed 1000) 32) ⟨askH 5,wfL a,wfL b,false⟩ (bytesK (withinN seed 1000) 16)).length 2,bytesK (withinN seed 1000) 16,padN (ptS (bytesK (withinN seed 1000) 32) ⟨askH 5,wfL a,wfL b,false⟩ (bytesK (withinN seed 1000) 16)) 4] (by simp) (by rw[hfl]; omega)
  rw[hfl] at c9
  have cA:=rxen_c G [ptG (bytesK (withinN seed 1000) 32) ⟨askH 5,wfL a,wfL b,false⟩ (bytesK (withinN seed 1000) 16)] (by simp)
  have hG:xeE [ptG (bytesK (withinN seed 1000) 32) ⟨askH 5,wfL a,wfL b,false⟩ (bytesK (withinN seed 1000) 16)]=0:=xeE_of (fun f hf=>by rw[List.mem_singleton.1 hf]; exact hP.gd) (by simp) (by simp[xtot]; exact (xsE_0 hP.gd).2.2)
  rw[hG,(xeE_0 hG).2.2.2,List.map_singleton] at cA
  have hgf:fdD (ptG (bytesK (withinN seed 1000) 32) ⟨askH 5,wfL a,wfL b,false⟩ (bytesK (withinN seed 1000) 16))=.agg [.int .i64 1028,.sl ((grD (bytesK (withinN seed 1000) 16) (ptS (bytesK (withinN seed 1000) 32) ⟨askH 5,wfL a,wfL b,false⟩ (bytesK (withinN seed 1000) 16))).map bD)]:=rfl
  rw[hgf] at cA
  have hBl:=ptB_le hP
  have cB:=rjoin_c G [unX ⟨askH 5,wfL a,wfL b,false⟩,xall [ptG (bytesK (withinN seed 1000) 32) ⟨askH 5,wfL a,wfL b,false⟩ (bytesK (withinN seed 1000) 16)]] (by simp) (by rw[show [unX ⟨askH 5,wfL a,wfL b,false⟩,xall [ptG (bytesK (withinN seed 1000) 32) ⟨askH 5,wfL a,wfL b,false⟩ (bytesK (withinN seed 1000) 16)]].flatten=unX ⟨askH 5,wfL a,wfL b,false⟩++xall [ptG (bytesK (withinN seed 1000) 32) ⟨askH 5,wfL a,wfL b,false⟩ (bytesK (withinN seed 1000) 16)] by simp,← k2]; omega)
  rw[show [unX ⟨askH 5,wfL a,wfL b,false⟩,xall [ptG (bytesK (withinN seed 1000) 32) ⟨askH 5,wfL a,wfL b,false⟩ (bytesK (withinN seed 1000) 16)]].flatten=unX ⟨askH 5,wfL a,wfL b,false⟩++xall [ptG (bytesK (withinN seed 1000) 32) ⟨askH 5,wfL a,wfL b,false⟩ (bytesK (withinN seed 1000) 16)] by simp,← k2] at cB
  have cC:=rsame_c G (ptB (bytesK (withinN seed 1000) 32) ⟨askH 5,wfL a,wfL b,false⟩ (bytesK (withinN seed 1000) 16)) (ptB (bytesK (withinN seed 1000) 32) ⟨askH 5,wfL a,wfL b,false⟩ (bytesK (withinN seed 1000) 16))
  rw[beq_self_eq_true] at cC
  clear k1 k2 s1 s2 s3 hP hF ha1 ha2 hb1 hb2 u0 b0 b1 hpn hfl hgl hG hgf
  generalize ptB (bytesK (withinN seed 1000) 32) ⟨askH 5,wfL a,wfL b,false⟩ (bytesK (withinN seed 1000) 16)=X at *
  generalize xall [ptG (bytesK (withinN seed 1000) 32) ⟨askH 5,wfL a,wfL b,false⟩ (bytesK (withinN seed 1000) 16)]=W at *
  generalize grD (bytesK (withinN seed 1000) 16) (ptS (bytesK (withinN seed 1000) 32) ⟨askH 5,wfL a,wfL b,false⟩ (bytesK (withinN seed 1000) 16))=Q at *
  generalize ptS (bytesK (withinN seed 1000) 32) ⟨askH 5,wfL a,wfL b,false⟩ (bytesK (withinN seed 1000) 16)=T at *
  generalize unX ⟨askH 5,wfL a,wfL b,false⟩=Z at *
  generalize xall (wfL b)=Y at *
  generalize putL T.length 2=B2 at *
  generalize putL 16 2=B1 at *
  generalize padN T 4=B4 at *
  generalize bytesK (withinN seed 1000) 32=K at *
  generalize bytesK (withinN seed 1000) 16=N at *
  generalize askH 5=H at *
  generalize withinN seed 1000=s at *
  generalize wfL a=A at *
  generalize wfL b=B at *
  unfold pkD at *
  unfold hdD at cq
  unfold sls at c5
  simp only[List.map_cons,List.map_nil] at c3 c5 c9 cB
  simp only[sf_pseals,putAll,wx,wy,wz,stV,seval,iteOmega,toNatUp,reduceCtorEq]
  refine st_call (e0) rfl (.inl rfl) ?_
  simp only[wx,wy,wz,stV,seval,iteOmega,toNatUp,reduceCtorEq]
  refine st_call (cq) rfl (.inl rfl) ?_
  simp only[wx,wy,wz,stV,seval,iteOmega,toNatUp,reduceCtorEq]
  refine st_call (ca) rfl (.inl rfl) ?_
  simp only[wx,wy,wz,stV,seval,iteOmega,toNatUp,reduceCtorEq]
  refine st_call (cb) rfl (.inl rfl) ?_
  simp only[wx,wy,wz,stV,seval,iteOmega,toNatUp,reduceCtorEq]
  refine st_call (w1) rfl (.inl rfl) ?_
  simp only[wx,wy,wz,stV,seval,iteOmega,toNatUp,reduceCtorEq]
  refine st_call (w0) rfl (.inl rfl) ?_
  simp only[wx,wy,wz,stV,seval,iteOmega,toNatUp,reduceCtorEq]
  refine st_call (c1) rfl (.inl rfl) ?_
  simp only[wx,wy,wz,stV,seval,iteOmega,toNatUp,reduceCtorEq]
  refine st_call (c3) rfl (.inl rfl) ?_
  simp only[wx,wy,wz,stV,seval,iteOmega,toNatUp,reduceCtorEq]
  refine st_call (c4) rfl (.inl rfl) ?_
  simp only[wx,wy,wz,stV,seval,iteOmega,toNatUp,reduceCtorEq]
  refine st_call (w0) rfl (.inl rfl) ?_
  simp only[wx,wy,wz,stV,seval,iteOmega,toNatUp,reduceCtorEq]
  refine st_call (c5) rfl (.inl rfl) ?_
  simp only[wx,wy,wz,stV,seval,iteOmega,toNatUp,reduceCtorEq]
  refine st_call (c6) rfl (.inl rfl) ?_
  simp only[wx,wy,wz,stV,seval,iteOmega,toNatUp,reduceCtorEq]
  refine st_call (c7) rfl (.inl rfl) ?_
  simp only[wx,wy,wz,stV,seval,iteOmega,toNatUp,reduceCtorEq]
  refine st_call (c8) rfl (.inl rfl) ?_
  simp only[wx,wy,wz,stV,seval,iteOmega,toNatUp,reduceCtorEq]
  refine st_call (c9) rfl (.inl rfl) ?_
  simp only[wx,wy,wz,stV,seval,iteOmega,toNatUp,reduceCtorEq]
  refine st_call (cA) rfl (.inl rfl) ?_
  simp only[wx,wy,wz,stV,seval,iteOmega,toNatUp,reduceCtorEq]
  refine st_call (ck) rfl (.inl rfl) ?_
  simp only[wx,wy,wz,stV,seval,iteOmega,toNatUp,reduceCtorEq]
  refine st_call (cB) rfl (.inl rfl) ?_
  simp only[wx,wy,wz,stV,seval,iteOmega,toNatUp,reduceCtorEq]
  refine st_call (cC) rfl (.inl rfl) ?_
  simp only[wx,wy,wz,stV,seval,iteOmega,toNatUp,reduceCtorEq]
  exact ret_d1 (by simp only[wx,wy,wz,stV,seval,iteOmega,toNatUp,reduceCtorEq])
end Go.Proofs.Ytcikhnjfkfigjaa
