/- Texts of one's own, merged: from: The plain logic (20): words of 32 bits. Own work. -/
import Derived.Laws.BitsLemmas
import Derived.Laws.Bits64
import Derived.Laws.BitsAllLaws
import Derived.Test.YtbkhllchjbjhgaaDoorMg16
set_option linter.unusedVariables false
set_option linter.unusedSimpArgs false
namespace Go.Proofs.YtbkhllchjbjhgaaDoor
open Go.RowKit IntWalk
def xorW (x y:UInt32):UInt32:=x ^^^ y
def andW (x y:UInt32):UInt32:=x &&& y
def orW (x y:UInt32):UInt32:=x ||| y
def addW (x y:UInt32):UInt32:=x+y
def notW (x:UInt32):UInt32:=UInt32.ofNat (4294967295-x.toNat)
def shrW (x:UInt32) (n:Nat):UInt32:=UInt32.ofNat (x.toNat / 2^n)
def shlW (x:UInt32) (n:Nat):UInt32:=UInt32.ofNat (x.toNat*2^n)
def rotW (x:UInt32) (n:Nat):UInt32:=orW (shrW x n) (shlW x (32-n))
def byteW (b:UInt8):UInt32:=UInt32.ofNat b.toNat
theorem word_lt (x:UInt32):x.toNat<4294967296:=x.toNat_lt
theorem xorW_bits (x y:UInt32):bits .xor .u32 (x.toNat:Int) (y.toNat:Int)=((xorW x y).toNat:Int):=by
  rw[u32_xor_nat _ _ (word_lt x) (word_lt y)]; simp[xorW]
theorem andW_bits (x y:UInt32):bits .and .u32 (x.toNat:Int) (y.toNat:Int)=((andW x y).toNat:Int):=by
  rw[u32_and_nat _ _ (word_lt x) (word_lt y)]; simp[andW]
theorem orW_bits (x y:UInt32):bits .or .u32 (x.toNat:Int) (y.toNat:Int)=((orW x y).toNat:Int):=by
  rw[u32_or_nat _ _ (word_lt x) (word_lt y)]; simp[orW]
theorem addW_wrap (x y:UInt32):IntKind.u32.wrap ((x.toNat:Int)+(y.toNat:Int))=((addW x y).toNat:Int):=by
  rw[IntKind.wrap_u32]; simp[addW]
theorem shrW_div (x:UInt32) (n:Nat):(x.toNat:Int) / 2^n=((shrW x n).toNat:Int):=by
  have h:x.toNat / 2^n<4294967296:=Nat.lt_of_le_of_lt (Nat.div_le_self _ _) (word_lt x)
  unfold shrW
  rw[UInt32.toNat_ofNat_of_lt' (by simpa [UInt32.size] using h)]
  simp
theorem shlW_mul (x:UInt32) (n:Nat):(x.toNat:Int)*2^n%4294967296=((shlW x n).toNat:Int):=by
  unfold shlW
  simp
theorem notW_sub (x:UInt32):(4294967295:Int)-(x.toNat:Int)=((notW x).toNat:Int):=by
  have h:=word_lt x
  unfold notW
  rw[UInt32.toNat_ofNat_of_lt' (by simp[UInt32.size]; omega)]
  omega
theorem byteW_nat (b:UInt8):(b.toNat:Int)=((byteW b).toNat:Int):=by
  have h:=b.toNat_lt
  unfold byteW
  rw[UInt32.toNat_ofNat_of_lt' (by simp[UInt32.size]; omega)]
theorem binV_xorW (x y:UInt32):binV .xor (.w (.c (.d (wD x)))) (.w (.c (.d (wD y))))=some (wD (xorW x y)):=by
  show binI .xor .u32 (x.toNat:Int) .u32 (y.toNat:Int)=_
  rw[binI_xor,xorW_bits]; rfl
theorem binV_andW (x y:UInt32):binV .and (.w (.c (.d (wD x)))) (.w (.c (.d (wD y))))=some (wD (andW x y)):=by
  show binI .and .u32 (x.toNat:Int) .u32 (y.toNat:Int)=_
  rw[binI_and,andW_bits]; rfl
theorem binV_orW (x y:UInt32):binV .or (.w (.c (.d (wD x)))) (.w (.c (.d (wD y))))=some (wD (orW x y)):=by
  show binI .or .u32 (x.toNat:Int) .u32 (y.toNat:Int)=_
  rw[binI_or,orW_bits]; rfl
theorem binV_addW (x y:UInt32):binV .add (.w (.c (.d (wD x)))) (.w (.c (.d (wD y))))=some (wD (addW x y)):=by
  show binI .add .u32 (x.toNat:Int) .u32 (y.toNat:Int)=_
  rw[binI_add,addW_wrap]; rfl
theorem binV_shlW (x:UInt32) (k:IntKind) (n:Int) (h:0≤n):binV .shl (.w (.c (.d (wD x)))) (.w (.c (.d (.int k n))))=some (wD (shlW x (min n.toNat 32))):=by
  show binI .shl .u32 (x.toNat:Int) k n=_
  rw[binI_shl _ _ _ _ h,IntKind.wrap_u32]
  show some (D.int .u32 ((x.toNat:Int)*2^min n.toNat 32%4294967296))=_
  rw[shlW_mul]; rfl
theorem binV_shrW (x:UInt32) (k:IntKind) (n:Int) (h:0≤n):binV .shr (.w (.c (.d (wD x)))) (.w (.c (.d (.int k n))))=some (wD (shrW x (min n.toNat 32))):=by
  show binI .shr .u32 (x.toNat:Int) k n=_
  rw[binI_shr _ _ _ _ h]
  show some (D.int .u32 ((x.toNat:Int) / 2^min n.toNat 32))=_
  rw[shrW_div]; rfl
theorem unV_notW (x:UInt32):unV .xor (.w (.c (.d (wD x))))=some (wD (notW x)):=by
  have:bits .xor .u32 4294967295 (x.toNat:Int)=(4294967295:Int)-(x.toNat:Int):=by
    have h:=x.toNat_lt
    have h2:4294967295 ^^^ x.toNat=4294967295-x.toNat:=by
      have e:=congrArg BitVec.toNat (BitVec.allOnes_xor (x:=BitVec.ofNat 32 x.toNat))
      rw[BitVec.toNat_xor,BitVec.toNat_not,BitVec.toNat_allOnes,BitVec.toNat_ofNat,Nat.mod_eq_of_lt (by omega)] at e
      omega
    have h3:=u32_xor_nat 4294967295 x.toNat (by decide) h
    rw[h2] at h3
    have h4:((4294967295:Nat):Int)=4294967295:=rfl
    rw[h4] at h3
    omega
  show some (D.int .u32 (bits .xor .u32 4294967295 (x.toNat:Int)))=_
  rw[this,notW_sub]; rfl
theorem binV_eqlW (x y:UInt32):binV .eql (.w (.c (.d (wD x)))) (.w (.c (.d (wD y))))=some (.bool (x==y)):=by
  show binI .eql .u32 (x.toNat:Int) .u32 (y.toNat:Int)=_
  rw[binI_eql]
  by_cases h:x=y
  ·subst h; simp
  ·have:¬ ((x.toNat:Int)=(y.toNat:Int)):=fun e=>h (UInt32.toNat_inj.1 (by omega))
   simp[this,h]
theorem binV_neqW (x y:UInt32):binV .neq (.w (.c (.d (wD x)))) (.w (.c (.d (wD y))))=some (.bool (x != y)):=by
  show binI .neq .u32 (x.toNat:Int) .u32 (y.toNat:Int)=_
  rw[binI_neq]
  by_cases h:x=y
  ·subst h; simp
  ·have:¬ ((x.toNat:Int)=(y.toNat:Int)):=fun e=>h (UInt32.toNat_inj.1 (by omega))
   simp[this,h]
theorem byteW_wD (b:UInt8):D.int .u32 (IntKind.u32.wrap (b.toNat:Int))=wD (byteW b):=by
  have h:=b.toNat_lt
  rw[IntWalk.u32_in _ (by omega),byteW_nat]; rfl
def xorB (x y:UInt8):UInt8:=x ^^^ y
def andB (x y:UInt8):UInt8:=x &&& y
def orB (x y:UInt8):UInt8:=x ||| y
def shlB (x:UInt8) (n:Nat):UInt8:=UInt8.ofNat (x.toNat*2^n)
def shrB (x:UInt8) (n:Nat):UInt8:=UInt8.ofNat (x.toNat / 2^n)
theorem byte_lt (x:UInt8):x.toNat<256:=x.toNat_lt
theorem binV_xorB (x y:UInt8):binV .xor (.w (.c (.d (bD x)))) (.w (.c (.d (bD y))))=some (bD (xorB x y)):=by
  show binI .xor .u8 (x.toNat:Int) .u8 (y.toNat:Int)=_
  rw[binI_xor,u8_xor_nat _ _ (byte_lt x) (byte_lt y)]; simp[xorB,bD]
theorem binV_andB (x y:UInt8):binV .and (.w (.c (.d (bD x)))) (.w (.c (.d (bD y))))=some (bD (andB x y)):=by
  show binI .and .u8 (x.toNat:Int) .u8 (y.toNat:Int)=_
  rw[binI_and,u8_and_nat _ _ (byte_lt x) (byte_lt y)]; simp[andB,bD]
theorem binV_orB (x y:UInt8):binV .or (.w (.c (.d (bD x)))) (.w (.c (.d (bD y))))=some (bD (orB x y)):=by
  show binI .or .u8 (x.toNat:Int) .u8 (y.toNat:Int)=_
  rw[binI_or,u8_or_nat _ _ (byte_lt x) (byte_lt y)]; simp[orB,bD]
theorem binV_shlB (x:UInt8) (k:IntKind) (n:Int) (h:0≤n):binV .shl (.w (.c (.d (bD x)))) (.w (.c (.d (.int k n))))=some (bD (shlB x (min n.toNat 8))):=by
  show binI .shl .u8 (x.toNat:Int) k n=_
  rw[binI_shl _ _ _ _ h,IntKind.wrap_u8]
  show some (D.int .u8 ((x.toNat:Int)*2^min n.toNat 8%256))=_
  have:(x.toNat:Int)*2^min n.toNat 8%256=((shlB x (min n.toNat 8)).toNat:Int):=by unfold shlB; simp
  rw[this]; rfl
theorem binV_shrB (x:UInt8) (k:IntKind) (n:Int) (h:0≤n):binV .shr (.w (.c (.d (bD x)))) (.w (.c (.d (.int k n))))=some (bD (shrB x (min n.toNat 8))):=by
  show binI .shr .u8 (x.toNat:Int) k n=_
  rw[binI_shr _ _ _ _ h]
  show some (D.int .u8 ((x.toNat:Int) / 2^min n.toNat 8))=_
  have:(x.toNat:Int) / 2^min n.toNat 8=((shrB x (min n.toNat 8)).toNat:Int):=by
    have h:x.toNat / 2^min n.toNat 8<256:=Nat.lt_of_le_of_lt (Nat.div_le_self _ _) (byte_lt x)
    unfold shrB
    rw[UInt8.toNat_ofNat_of_lt' (by simpa [UInt8.size] using h)]
    simp
  rw[this]; rfl
theorem binV_eqlB (x y:UInt8):binV .eql (.w (.c (.d (bD x)))) (.w (.c (.d (bD y))))=some (.bool (x==y)):=by
  show binI .eql .u8 (x.toNat:Int) .u8 (y.toNat:Int)=_
  rw[binI_eql]
  by_cases h:x=y
  ·subst h; simp
  ·have:¬ ((x.toNat:Int)=(y.toNat:Int)):=fun e=>h (UInt8.toNat_inj.1 (by omega))
   simp[this,h]
theorem binV_neqB (x y:UInt8):binV .neq (.w (.c (.d (bD x)))) (.w (.c (.d (bD y))))=some (.bool (x != y)):=by
  show binI .neq .u8 (x.toNat:Int) .u8 (y.toNat:Int)=_
  rw[binI_neq]
  by_cases h:x=y
  ·subst h; simp
  ·have:¬ ((x.toNat:Int)=(y.toNat:Int)):=fun e=>h (UInt8.toNat_inj.1 (by omega))
   simp[this,h]
theorem ev_u (G:Glob) (f:Nat→V):ev G f .u=.undef:=rfl
def closK (P:Program) (G:Glob) (d:Option Nat) (r:List SOper) (K:St→Prop) (f:Nat→V) (h:Heap) (u:Nat→Bool) (F:Nat) (ds:List D):Prop:=aops P G r K ⟨updO f d (.w (.c (.d (.fn F ds)))),h,u⟩
theorem st_clos (P:Program) (G:Glob) (d:Option Nat) (r:List SOper) (K:St→Prop) (f:Nat→V) (h:Heap) (u:Nat→Bool) (F:Nat) (xs:List SX):aops P G (⟨d,.clos F xs,none⟩::r) K ⟨f,h,u⟩=optK (capVs (xs.map (ev G f))) (closK P G d r K f h u F):=by
  show (match (capVs (xs.map (ev G f))).map fun ds=>((.w (.c (.d (.fn F ds))),h,u):R) with | some r=>_ | none=>False)=_
  cases capVs (xs.map (ev G f)) <;> rfl
theorem closK_do (P:Program) (G:Glob) (d:Option Nat) (r:List SOper) (K:St→Prop) (f:Nat→V) (h:Heap) (u:Nat→Bool) (F:Nat) (ds:List D):closK P G d r K f h u F ds=aops P G r K ⟨updO f d (.w (.c (.d (.fn F ds)))),h,u⟩:=rfl
theorem capVs_nil:capVs []=some []:=rfl
theorem capVs_rp (cs:List D) (r:List V):capVs (.w (.c (.rp cs))::r)=(capVs r).map fun l=>.ref cs::l:=by
  simp only[capVs,capV]; cases capVs r <;> rfl
theorem capVs_int (k:IntKind) (n:Int) (r:List V):capVs (.w (.c (.d (.int k n)))::r)=(capVs r).map fun l=>.int k n::l:=by
  simp only[capVs,capV]; cases capVs r <;> rfl
theorem capVs_sl (es:List D) (r:List V):capVs (.w (.c (.d (.sl es)))::r)=(capVs r).map fun l=>.sl es::l:=by
  simp only[capVs,capV]; cases capVs r <;> rfl
def rngA (P:Program) (G:Glob) (body:SCode) (K:AX→St→Prop) (e:AX) (s:St):Prop:=match e with | .nrm=>awp P G body K s | _=>False
def rngB (f0:Nat→V) (I:Nat→Heap→(Nat→Bool)→Prop) (Q:AX→St→Prop) (k:Nat) (e:AX) (s:St):Prop:=match e with
  | .nrm=>∃ h' u',Ent s ⟨f0,h',u'⟩∧I (k+1) h' u'
  | e=>∃ h' u',Ent s ⟨f0,h',u'⟩∧Q e ⟨f0,h',u'⟩
theorem rngA_nrm (P:Program) (G:Glob) (body:SCode) (K:AX→St→Prop) (s:St):rngA P G body K .nrm s=awp P G body K s:=rfl
def rngI (st:Nat→Heap×(Nat→Bool)) (k:Nat) (h:Heap) (u:Nat→Bool):Prop:=(h,u)=st k
theorem range_st {P:Program} {G:Glob} {Q:AX→St→Prop} {σ:St} {x:SX} {ps:List Nat} {asg body:SCode} {g:Nat} {caps:List D} {xs:List (List D)} (f0:Nat→V) {f1:Nat→V} (hf:f0=f1) (st:Nat→Heap×(Nat→Bool))
    (hev:ev G σ.f x=.w (.c (.d (.fn g caps)))) (hseq:SeqD P G g caps xs) (hlen:∀ r∈xs,r.length=ps.length) (hent:Ent σ ⟨f1,(st 0).1,(st 0).2⟩) (hun:∀ t∈ps++asg.writes++body.writes,f1 t=.undef)
    (round:∀ k r,xs[k]?=some r→awp P G asg (rngA P G body (rngB f0 (rngI st) Q k)) ⟨parsL f1 ps r,(st k).1,(st k).2⟩)
    (done:Q .nrm ⟨f1,(st xs.length).1,(st xs.length).2⟩):awp P G (.rangeF x ps asg body) Q σ:=by
  subst hf
  refine⟨g,caps,xs,f0,(st 0).1,(st 0).2,fun k h u=>(h,u)=st k,hev,hseq,hlen,hent,hun,rfl,fun k r h u hr e=>?_,fun h u e=>?_⟩
  ·have:=round k r hr
   rw[← e] at this
   have e1:(fun (e:AX) (s:St)=>match e with
       | .nrm=>awp P G body (fun e s'=>match e with
         | .nrm=>∃ h' u',Ent s' ⟨f0,h',u'⟩∧(h',u')=st (k+1)
         | e=>∃ h' u',Ent s' ⟨f0,h',u'⟩∧Q e ⟨f0,h',u'⟩) s
       | _=>False)=rngA P G body (rngB f0 (rngI st) Q k):=by
     funext e s
     cases e with
     | nrm =>
       show awp P G body _ s=awp P G body _ s
       congr 1
     | _=>rfl
   rw[← e1] at this
   exact this
  ·rw[← e] at done; exact done
theorem rng_next {f0:Nat→V} {f1:Nat→V} (hf:f0=f1) {st:Nat→Heap×(Nat→Bool)} {Q:AX→St→Prop} {k:Nat} {s:St} (h:Ent s ⟨f1,(st (k+1)).1,(st (k+1)).2⟩):rngB f0 (rngI st) Q k .nrm s:=⟨_,_,hf ▸ h,rfl⟩
def bC (x:UInt8):C:=.d (bD x)
theorem map_C (l:List UInt8):(l.map bD).map C.d=l.map bC:=by rw[List.map_map]; rfl
theorem allD_bs:∀ l:List UInt8,allD (l.map bC)=some (l.map bD)
  | []=>rfl
  | x::l=>by
    have h:=allD_bs l
    show allD (C.d (bD x)::l.map bC)=_
    simp only[allD,h,List.map_cons,Option.map_some]
theorem setR_map {α β:Type} (f:α→β) (l cs:List α) (off:Nat):setR (l.map f) off (cs.map f)=(setR l off cs).map f:=by
  unfold setR; simp
theorem ids_bC (l:List UInt8):(l.map bC).flatMap C.ids=[]:=by
  induction l with
  | nil=>rfl
  | cons x l ih=>rw[List.map_cons,List.flatMap_cons,ih]; rfl
theorem ren_bC (g:Nat→Nat) (l:List UInt8):(l.map bC).map (C.ren g)=l.map bC:=by rw[List.map_map]; rfl
theorem bl_eql (x c:UInt8) (n:Int) (h:n=(c.toNat:Int)):binV .eql (.w (.c (.d (bD x)))) (.w (.c (.d (.int .u8 n))))=some (.bool (x==c)):=by subst h; exact binV_eqlB x c
theorem bl_neq (x c:UInt8) (n:Int) (h:n=(c.toNat:Int)):binV .neq (.w (.c (.d (bD x)))) (.w (.c (.d (.int .u8 n))))=some (.bool (x != c)):=by subst h; exact binV_neqB x c
theorem bl_xor (x c:UInt8) (n:Int) (h:n=(c.toNat:Int)):binV .xor (.w (.c (.d (bD x)))) (.w (.c (.d (.int .u8 n))))=some (bD (xorB x c)):=by subst h; exact binV_xorB x c
theorem bl_and (x c:UInt8) (n:Int) (h:n=(c.toNat:Int)):binV .and (.w (.c (.d (bD x)))) (.w (.c (.d (.int .u8 n))))=some (bD (andB x c)):=by subst h; exact binV_andB x c
theorem bl_shr (x:UInt8) (k:IntKind) (j:Nat) (n:Int) (h:n=(j:Int)) (hj:j≤8):binV .shr (.w (.c (.d (bD x)))) (.w (.c (.d (.int k n))))=some (bD (shrB x j)):=by
  subst h
  rw[binV_shrB _ _ _ (Int.natCast_nonneg j),Int.toNat_natCast,Nat.min_eq_left hj]
theorem bl_shl (x:UInt8) (k:IntKind) (j:Nat) (n:Int) (h:n=(j:Int)) (hj:j≤8):binV .shl (.w (.c (.d (bD x)))) (.w (.c (.d (.int k n))))=some (bD (shlB x j)):=by
  subst h
  rw[binV_shlB _ _ _ (Int.natCast_nonneg j),Int.toNat_natCast,Nat.min_eq_left hj]
def repL {α:Type} (n:Nat) (x:α):List α:=List.replicate n x
theorem repL_len {α:Type} (n:Nat) (x:α):(repL n x).length=n:=List.length_replicate
theorem repL_bC (n:Nat):repL n (C.d (D.int .u8 0))=(repL n (0:UInt8)).map bC:=by unfold repL; rw[List.map_replicate]; rfl
end Go.Proofs.YtbkhllchjbjhgaaDoor
set_option maxRecDepth 100000
namespace Go.Proofs.YtbkhllchjbjhgaaDoor
open Go.RowKit IntWalk
theorem jW {a b : Prop} (l : a) (r : b) : a ∧ b := And.intro l r
theorem wx:ProofOf (jW @oO_do (jW @oG_do (jW @oN_do (jW @oM_do (jW @kI_do (jW @sx (jW @eqV_do (jW @eqV2_do (jW @eqV3_t (jW @eqV3_f (jW @eqCs_n (jW @eqCs_c (jW @andO_do (jW @eqC_i (jW @eqC_b (jW @eqC_s (jW @frzV.eq_1 (jW @frzV.eq_2 (jW @frzV.eq_3 (jW @frzV.eq_4 (jW @cellsV.eq_1 (jW @cellsV.eq_2 (jW @killAll.eq_1 (jW @killAll.eq_2 (jW @killAll.eq_3 (jW @ev_u (jW @st_clos (jW @closK_do (jW @capVs_nil (jW @capVs_rp (jW @capVs_int (jW @capVs_sl (jW @rngA_nrm (jW @ef.eq_1 (jW @ef.eq_2 (jW @ef.eq_3 (jW @ef.eq_4 (jW @ef.eq_5 (jW @ef.eq_6 (jW @ef.eq_7 (jW @ef.eq_8 (jW @ef.eq_9 (jW @ef.eq_10 (jW @ef.eq_11 (jW @ef.eq_12 (jW @ef.eq_13 (jW @ef.eq_14 (jW @ef.eq_15 (jW @ef.eq_16 (jW @ef.eq_17 (jW @ef.eq_18 (jW @ef.eq_19 (jW @ef.eq_20 (jW @ef.eq_21 (jW @ef.eq_22 (jW @ef.eq_23 (jW @ef.eq_24 (jW @ef.eq_25 (jW @ef.eq_26 (jW @ef.eq_27 (jW @ef.eq_28 (jW @ef.eq_29 (jW @ef.eq_30 (jW @ef.eq_31 (jW @ef.eq_32 (jW @ef.eq_33 (jW @ef.eq_34 (jW @ef.eq_35 (jW @ef.eq_36 (jW @ef.eq_37 (jW @ef.eq_38 (jW @ef.eq_39 (jW @ef.eq_40 (jW @ef.eq_41 (jW @ef.eq_42 (jW @ef.eq_43 (jW @ef.eq_44 (jW @ef.eq_45 (jW @ef.eq_46 (jW @ef.eq_47 (jW @ef.eq_48 (jW @ef.eq_49 (jW @ef.eq_50 (jW @ef.eq_51 (jW @bound.eq_1 (jW @bound.eq_2 (jW @slV.eq_1 (jW @slV.eq_2 (jW @slV.eq_3 (jW @slV.eq_4 (jW @idx.eq_1 (jW @ldV.eq_1 (jW @ldV.eq_2 (jW @ldV.eq_3 (jW @ldV.eq_4 (jW @ldV.eq_5 (jW @ldV.eq_6 (jW @ldV.eq_7 (jW @ldV.eq_8 (jW @ldB.eq_1 (jW @ldB.eq_2 (jW @ldB.eq_3 (jW @ldB.eq_4 (jW @ldB.eq_5 (jW @ldB.eq_6 (jW @ldB.eq_7 (jW @stO_box (jW @prt.eq_1 (jW @prt.eq_2 (jW @parts.eq_1 (jW @parts.eq_2 (jW @elems.eq_1 (jW @elems.eq_2 (jW @mkAgg.eq_1 (jW @wc_w (jW @wc_b (jW @wc_int (jW @wc_bool (jW @wc_str (jW @wc_sl (jW @wc_agg (jW @wc_nil (jW @wc_own (jW @wc_ptr (jW @wc_pa (jW @wc_mix (jW @pureW.eq_1 (jW @pureW.eq_2 (jW @pureW.eq_3 (jW @pureW.eq_4 (jW @pureV.eq_1 (jW @pureV.eq_2 (jW @allD.eq_1 (jW @allD.eq_2 (jW @allD.eq_3 (jW @allDn.eq_1 (jW @allDn.eq_2 (jW @allDn.eq_3 (jW @allDn.eq_4 (jW @toV.eq_1 (jW @toV.eq_2 (jW @toV.eq_3 (jW @toE.eq_1 (jW @toE.eq_2 (jW @toE.eq_3 (jW @toE.eq_4 (jW @toE.eq_5 (jW @toE.eq_6 (jW @toE.eq_7 (jW @toE.eq_8 (jW @toE.eq_9 (jW @toE.eq_10 (jW @refD.eq_1 (jW @cpDs.eq_1 (jW @cpDs.eq_2 (jW @cpDs.eq_3 (jW @toW.eq_1 (jW @toW.eq_2 (jW @toD.eq_1 (jW @toD.eq_2 (jW @toD.eq_3 (jW @toD.eq_4 (jW @toDs.eq_1 (jW @toDs.eq_2 (jW @toVs.eq_1 (jW @toVs.eq_2 (jW @obSl.eq_1 (jW @obSl.eq_2 (jW @obSl.eq_3 (jW @ints.eq_1 (jW @ints.eq_2 (jW @ints.eq_3 (jW @impV.eq_1 (jW @impV.eq_2 (jW @impV.eq_3 (jW @ownV.eq_1 (jW @ownV.eq_2 (jW @ownV.eq_3 (jW @W.ro.eq_1 (jW @W.ro.eq_2 (jW @C.ro.eq_1 (jW @C.ro.eq_2 (jW @V.ro.eq_1 (jW @V.ro.eq_2 (jW @V.ro.eq_3 (jW @aggW.eq_1 (jW @aggW.eq_2 (jW @aggW.eq_3 (jW @Kd.size.eq_1 (jW @Kd.size.eq_2 (jW @cells_int (jW @cells_bool (jW @cells_str (jW @cells_sl (jW @cells_agg (jW @setR.eq_1 (jW @resW.eq_1 (jW @resW.eq_2 (jW @Nat.min_def (jW @Option.map_some.{0,0} (jW @Option.map_none.{0,0} (jW @Bool.not_true (jW @Bool.not_false (jW @decide_true (jW @decide_false (jW @Bool.and_self (jW @List.map_cons.{0,0} (jW @List.map_nil.{0,0} (jW @List.any_cons.{0} (jW @List.any_nil.{0} (jW @List.length_cons.{0} (jW @List.length_nil.{0} (jW @List.length_set.{0} (jW @List.getElem?_cons_zero.{0} (jW @List.getElem?_cons_succ.{0} (jW @if_true.{1} (jW @if_false.{1} (jW @true_and (jW @and_true (jW @vd.eq_1 (jW @Int.natCast_nonneg (jW @List.drop_zero.{0} (jW @List.take_length.{0} (jW @take_map (jW @drop_map (jW @len_map (jW @app_map (jW @allSz_bs (jW @allSz_ws (jW @asI_b (jW @asI_w (jW @binV_bl (jW @binV_br (jW @unV_b (jW @binV_xorW (jW @binV_andW (jW @binV_orW (jW @binV_addW (jW @binV_shlW (jW @binV_shrW (jW @binV_eqlW (jW @binV_neqW (jW @binV_xorB (jW @binV_andB (jW @binV_orB (jW @binV_bb1 (jW @binV_bb2 (jW @binV_bb3 (jW @binV_bb4 (jW @binV_bb5 (jW @binV_bb6 (jW @binV_bb7 (jW @binV_bb8 (jW @toFr_own (jW @toFr_nil (jW @unV_notW (jW @byteW_wD (jW @bD_cells (jW @wD_cells (jW @allSz_b1 (jW @allSz_b2 (jW @List.set_cons_zero.{0} (jW @List.set_cons_succ.{0} (jW @flat_ws (jW @flat_bs (jW @Kd.ag.injEq (jW @List.length_append.{0} (jW @List.length_replicate.{0} (jW @ofL_cons (jW @ofL_nil (jW @hL_cons (jW @hL_nil (jW @uL_cons (jW @uL_nil (jW @lopQ_ex (jW @lopQ_ret (jW @List.nil_append.{0} (jW @List.cons_append.{0} (jW @List.take_succ_cons.{0} (jW @List.take_zero.{0} (jW @List.drop_succ_cons.{0} (jW @List.take_nil.{0} (jW @List.drop_nil.{0} (jW @List.append_nil.{0} (jW @List.flatMap_cons.{0,0} (jW @List.flatMap_nil.{0,0} (jW @Option.bind_some.{0,0} (jW @ne_eq.{1} (jW @not_false_eq_true (@not_true_eq_false)))))))))))))))))))))))))))))))))))))))))))))))))))))))))))))))))))))))))))))))))))))))))))))))))))))))))))))))))))))))))))))))))))))))))))))))))))))))))))))))))))))))))))))))))))))))))))))))))))))))))))))))))))))))))))))))))))))))))))))))))))))))))))))))))))))))))))))))))))))))))))))))))):=jW @oO_do (jW @oG_do (jW @oN_do (jW @oM_do (jW @kI_do (jW @sx (jW @eqV_do (jW @eqV2_do (jW @eqV3_t (jW @eqV3_f (jW @eqCs_n (jW @eqCs_c (jW @andO_do (jW @eqC_i (jW @eqC_b (jW @eqC_s (jW @frzV.eq_1 (jW @frzV.eq_2 (jW @frzV.eq_3 (jW @frzV.eq_4 (jW @cellsV.eq_1 (jW @cellsV.eq_2 (jW @killAll.eq_1 (jW @killAll.eq_2 (jW @killAll.eq_3 (jW @ev_u (jW @st_clos (jW @closK_do (jW @capVs_nil (jW @capVs_rp (jW @capVs_int (jW @capVs_sl (jW @rngA_nrm (jW @ef.eq_1 (jW @ef.eq_2 (jW @ef.eq_3 (jW @ef.eq_4 (jW @ef.eq_5 (jW @ef.eq_6 (jW @ef.eq_7 (jW @ef.eq_8 (jW @ef.eq_9 (jW @ef.eq_10 (jW @ef.eq_11 (jW @ef.eq_12 (jW @ef.eq_13 (jW @ef.eq_14 (jW @ef.eq_15 (jW @ef.eq_16 (jW @ef.eq_17 (jW @ef.eq_18 (jW @ef.eq_19 (jW @ef.eq_20 (jW @ef.eq_21 (jW @ef.eq_22 (jW @ef.eq_23 (jW @ef.eq_24 (jW @ef.eq_25 (jW @ef.eq_26 (jW @ef.eq_27 (jW @ef.eq_28 (jW @ef.eq_29 (jW @ef.eq_30 (jW @ef.eq_31 (jW @ef.eq_32 (jW @ef.eq_33 (jW @ef.eq_34 (jW @ef.eq_35 (jW @ef.eq_36 (jW @ef.eq_37 (jW @ef.eq_38 (jW @ef.eq_39 (jW @ef.eq_40 (jW @ef.eq_41 (jW @ef.eq_42 (jW @ef.eq_43 (jW @ef.eq_44 (jW @ef.eq_45 (jW @ef.eq_46 (jW @ef.eq_47 (jW @ef.eq_48 (jW @ef.eq_49 (jW @ef.eq_50 (jW @ef.eq_51 (jW @bound.eq_1 (jW @bound.eq_2 (jW @slV.eq_1 (jW @slV.eq_2 (jW @slV.eq_3 (jW @slV.eq_4 (jW @idx.eq_1 (jW @ldV.eq_1 (jW @ldV.eq_2 (jW @ldV.eq_3 (jW @ldV.eq_4 (jW @ldV.eq_5 (jW @ldV.eq_6 (jW @ldV.eq_7 (jW @ldV.eq_8 (jW @ldB.eq_1 (jW @ldB.eq_2 (jW @ldB.eq_3 (jW @ldB.eq_4 (jW @ldB.eq_5 (jW @ldB.eq_6 (jW @ldB.eq_7 (jW @stO_box (jW @prt.eq_1 (jW @prt.eq_2 (jW @parts.eq_1 (jW @parts.eq_2 (jW @elems.eq_1 (jW @elems.eq_2 (jW @mkAgg.eq_1 (jW @wc_w (jW @wc_b (jW @wc_int (jW @wc_bool (jW @wc_str (jW @wc_sl (jW @wc_agg (jW @wc_nil (jW @wc_own (jW @wc_ptr (jW @wc_pa (jW @wc_mix (jW @pureW.eq_1 (jW @pureW.eq_2 (jW @pureW.eq_3 (jW @pureW.eq_4 (jW @pureV.eq_1 (jW @pureV.eq_2 (jW @allD.eq_1 (jW @allD.eq_2 (jW @allD.eq_3 (jW @allDn.eq_1 (jW @allDn.eq_2 (jW @allDn.eq_3 (jW @allDn.eq_4 (jW @toV.eq_1 (jW @toV.eq_2 (jW @toV.eq_3 (jW @toE.eq_1 (jW @toE.eq_2 (jW @toE.eq_3 (jW @toE.eq_4 (jW @toE.eq_5 (jW @toE.eq_6 (jW @toE.eq_7 (jW @toE.eq_8 (jW @toE.eq_9 (jW @toE.eq_10 (jW @refD.eq_1 (jW @cpDs.eq_1 (jW @cpDs.eq_2 (jW @cpDs.eq_3 (jW @toW.eq_1 (jW @toW.eq_2 (jW @toD.eq_1 (jW @toD.eq_2 (jW @toD.eq_3 (jW @toD.eq_4 (jW @toDs.eq_1 (jW @toDs.eq_2 (jW @toVs.eq_1 (jW @toVs.eq_2 (jW @obSl.eq_1 (jW @obSl.eq_2 (jW @obSl.eq_3 (jW @ints.eq_1 (jW @ints.eq_2 (jW @ints.eq_3 (jW @impV.eq_1 (jW @impV.eq_2 (jW @impV.eq_3 (jW @ownV.eq_1 (jW @ownV.eq_2 (jW @ownV.eq_3 (jW @W.ro.eq_1 (jW @W.ro.eq_2 (jW @C.ro.eq_1 (jW @C.ro.eq_2 (jW @V.ro.eq_1 (jW @V.ro.eq_2 (jW @V.ro.eq_3 (jW @aggW.eq_1 (jW @aggW.eq_2 (jW @aggW.eq_3 (jW @Kd.size.eq_1 (jW @Kd.size.eq_2 (jW @cells_int (jW @cells_bool (jW @cells_str (jW @cells_sl (jW @cells_agg (jW @setR.eq_1 (jW @resW.eq_1 (jW @resW.eq_2 (jW @Nat.min_def (jW @Option.map_some.{0,0} (jW @Option.map_none.{0,0} (jW @Bool.not_true (jW @Bool.not_false (jW @decide_true (jW @decide_false (jW @Bool.and_self (jW @List.map_cons.{0,0} (jW @List.map_nil.{0,0} (jW @List.any_cons.{0} (jW @List.any_nil.{0} (jW @List.length_cons.{0} (jW @List.length_nil.{0} (jW @List.length_set.{0} (jW @List.getElem?_cons_zero.{0} (jW @List.getElem?_cons_succ.{0} (jW @if_true.{1} (jW @if_false.{1} (jW @true_and (jW @and_true (jW @vd.eq_1 (jW @Int.natCast_nonneg (jW @List.drop_zero.{0} (jW @List.take_length.{0} (jW @take_map (jW @drop_map (jW @len_map (jW @app_map (jW @allSz_bs (jW @allSz_ws (jW @asI_b (jW @asI_w (jW @binV_bl (jW @binV_br (jW @unV_b (jW @binV_xorW (jW @binV_andW (jW @binV_orW (jW @binV_addW (jW @binV_shlW (jW @binV_shrW (jW @binV_eqlW (jW @binV_neqW (jW @binV_xorB (jW @binV_andB (jW @binV_orB (jW @binV_bb1 (jW @binV_bb2 (jW @binV_bb3 (jW @binV_bb4 (jW @binV_bb5 (jW @binV_bb6 (jW @binV_bb7 (jW @binV_bb8 (jW @toFr_own (jW @toFr_nil (jW @unV_notW (jW @byteW_wD (jW @bD_cells (jW @wD_cells (jW @allSz_b1 (jW @allSz_b2 (jW @List.set_cons_zero.{0} (jW @List.set_cons_succ.{0} (jW @flat_ws (jW @flat_bs (jW @Kd.ag.injEq (jW @List.length_append.{0} (jW @List.length_replicate.{0} (jW @ofL_cons (jW @ofL_nil (jW @hL_cons (jW @hL_nil (jW @uL_cons (jW @uL_nil (jW @lopQ_ex (jW @lopQ_ret (jW @List.nil_append.{0} (jW @List.cons_append.{0} (jW @List.take_succ_cons.{0} (jW @List.take_zero.{0} (jW @List.drop_succ_cons.{0} (jW @List.take_nil.{0} (jW @List.drop_nil.{0} (jW @List.append_nil.{0} (jW @List.flatMap_cons.{0,0} (jW @List.flatMap_nil.{0,0} (jW @Option.bind_some.{0,0} (jW @ne_eq.{1} (jW @not_false_eq_true (@not_true_eq_false)))))))))))))))))))))))))))))))))))))))))))))))))))))))))))))))))))))))))))))))))))))))))))))))))))))))))))))))))))))))))))))))))))))))))))))))))))))))))))))))))))))))))))))))))))))))))))))))))))))))))))))))))))))))))))))))))))))))))))))))))))))))))))))))))))))))))))))))))))))))))))))))))
theorem wy:ProofOf (jW @stO_c (jW @optOne_some (jW @one_int (jW @one_bool (jW @one_str (jW @one_sl (jW @one_b (jW @one_w (@cond_true.{1}))))))))):=jW @stO_c (jW @optOne_some (jW @one_int (jW @one_bool (jW @one_str (jW @one_sl (jW @one_b (jW @one_w (@cond_true.{1}))))))))
theorem wz:ProofOf (jW @Bool.false_and (jW @Bool.and_false (jW @binS_refl (jW @Nat.sub_zero (jW @allSz_nil (jW @allSz_cons (jW @beq_self_eq_true.{0} (jW @Bool.and_true (jW @Bool.true_and (jW @rep1 (jW @rep2 (jW @rep3 (jW @rep4 (jW @rep5 (jW @rep6 (jW @List.replicate_zero.{0} (jW @Nat.mul_one (jW @Nat.one_mul (jW @Nat.add_zero (jW @Nat.zero_add (jW @wr_i64 (jW @wr_u64 (jW @wr_u32 (jW @wr_u8 (jW @Int.natCast_add (jW @Int.natCast_mul (jW @Int.natCast_one (jW @Int.natCast_zero (@Int.cast_ofNat_Int))))))))))))))))))))))))))))):=jW @Bool.false_and (jW @Bool.and_false (jW @binS_refl (jW @Nat.sub_zero (jW @allSz_nil (jW @allSz_cons (jW @beq_self_eq_true.{0} (jW @Bool.and_true (jW @Bool.true_and (jW @rep1 (jW @rep2 (jW @rep3 (jW @rep4 (jW @rep5 (jW @rep6 (jW @List.replicate_zero.{0} (jW @Nat.mul_one (jW @Nat.one_mul (jW @Nat.add_zero (jW @Nat.zero_add (jW @wr_i64 (jW @wr_u64 (jW @wr_u32 (jW @wr_u8 (jW @Int.natCast_add (jW @Int.natCast_mul (jW @Int.natCast_one (jW @Int.natCast_zero (@Int.cast_ofNat_Int))))))))))))))))))))))))))))
theorem wex:ProofOf (jW @V.ren.eq_1 (jW @V.ren.eq_2 (jW @V.ren.eq_3 (jW @W.ren.eq_1 (jW @W.ren.eq_2 (jW @C.ren.eq_1 (jW @C.ren.eq_2 (jW @C.ren.eq_3 (jW @C.ren.eq_4 (jW @C.ren.eq_5 (jW @C.ren.eq_6 (jW @V.ids.eq_1 (jW @V.ids.eq_2 (jW @V.ids.eq_3 (jW @W.ids.eq_1 (jW @W.ids.eq_2 (jW @C.ids.eq_1 (jW @C.ids.eq_2 (jW @C.ids.eq_3 (jW @C.ids.eq_4 (jW @C.ids.eq_5 (jW @C.ids.eq_6 (jW @Ob.ren.eq_1 (jW @Ob.ren.eq_2 (jW @Ob.ren.eq_3 (jW @Ob.ids.eq_1 (jW @Ob.ids.eq_2 (jW @Ob.ids.eq_3 (jW @Int.cast_ofNat_Int (jW @List.replicate_zero.{0} (jW @agF_nil (jW @agF_cons (jW @agH_nil (jW @agH_cons (jW @id_eq.{1} (jW @Nat.mul_one (jW @Nat.mul_zero (jW @Nat.zero_mul (@List.flatten_nil.{0}))))))))))))))))))))))))))))))))))))))):=jW @V.ren.eq_1 (jW @V.ren.eq_2 (jW @V.ren.eq_3 (jW @W.ren.eq_1 (jW @W.ren.eq_2 (jW @C.ren.eq_1 (jW @C.ren.eq_2 (jW @C.ren.eq_3 (jW @C.ren.eq_4 (jW @C.ren.eq_5 (jW @C.ren.eq_6 (jW @V.ids.eq_1 (jW @V.ids.eq_2 (jW @V.ids.eq_3 (jW @W.ids.eq_1 (jW @W.ids.eq_2 (jW @C.ids.eq_1 (jW @C.ids.eq_2 (jW @C.ids.eq_3 (jW @C.ids.eq_4 (jW @C.ids.eq_5 (jW @C.ids.eq_6 (jW @Ob.ren.eq_1 (jW @Ob.ren.eq_2 (jW @Ob.ren.eq_3 (jW @Ob.ids.eq_1 (jW @Ob.ids.eq_2 (jW @Ob.ids.eq_3 (jW @Int.cast_ofNat_Int (jW @List.replicate_zero.{0} (jW @agF_nil (jW @agF_cons (jW @agH_nil (jW @agH_cons (jW @id_eq.{1} (jW @Nat.mul_one (jW @Nat.mul_zero (jW @Nat.zero_mul (@List.flatten_nil.{0}))))))))))))))))))))))))))))))))))))))
theorem wez:ProofOf (jW @Int.natCast_add (jW @Int.natCast_mul (jW @Int.natCast_one (@Int.natCast_zero)))):=jW @Int.natCast_add (jW @Int.natCast_mul (jW @Int.natCast_one (@Int.natCast_zero)))
theorem wal:ProofOf (jW @wx (jW @wy @wz)):=jW @wx (jW @wy @wz)
theorem qd1 {σ:St} {p:Nat×Option Kd} {x:D} (h1:(resW σ p).bind (toW σ.h)=some x:=by simp only[wal,stV,seval,iteOmega,toNatUp,reduceCtorEq]):RetOk σ [p] (.w (.c (.d x))):=ret_d1 h1
theorem qd2 {σ:St} {p q:Nat×Option Kd} {x y:D} (h1:(resW σ p).bind (toW σ.h)=some x:=by simp only[wal,stV,seval,iteOmega,toNatUp,reduceCtorEq]) (h2:(resW σ q).bind (toW σ.h)=some y:=by simp only[wal,stV,seval,iteOmega,toNatUp,reduceCtorEq]):RetOk σ [p,q] (.tup [.c (.d x),.c (.d y)]):=ret_d2 h1 h2
theorem qd3 {σ:St} {p q r:Nat×Option Kd} {x y z:D} (h1:(resW σ p).bind (toW σ.h)=some x:=by simp only[wal,stV,seval,iteOmega,toNatUp,reduceCtorEq]) (h2:(resW σ q).bind (toW σ.h)=some y:=by simp only[wal,stV,seval,iteOmega,toNatUp,reduceCtorEq]) (h3:(resW σ r).bind (toW σ.h)=some z:=by simp only[wal,stV,seval,iteOmega,toNatUp,reduceCtorEq]):RetOk σ [p,q,r] (.tup [.c (.d x),.c (.d y),.c (.d z)]):=ret_d3 h1 h2 h3
theorem qf1 {σ:St} {p:Nat×Option Kd} {sz:Nat} {es:List D} (h1:(resW σ p).bind (toFr σ.h sz)=some es:=by simp only[wal,stV,seval,iteOmega,toNatUp,reduceCtorEq]):RetOk σ [p] (.w (.c (.fr sz es))):=ret_f1 h1
theorem qf2 {σ:St} {p q:Nat×Option Kd} {sz:Nat} {es:List D} {y:D} (h1:(resW σ p).bind (toFr σ.h sz)=some es:=by simp only[wal,stV,seval,iteOmega,toNatUp,reduceCtorEq]) (h2:resW σ q=some (.c (.d y)):=by simp only[wal,stV,seval,iteOmega,toNatUp,reduceCtorEq]):RetOk σ [p,q] (.tup [.c (.fr sz es),.c (.d y)]):=ret_f2 h1 h2
theorem sD {P:Program} {G:Glob} {K:St→Prop} {r:List SOper} {f:Nat→V} {h:Heap} {u:Nat→Bool} {d:Option Nat} {fn:FuncId} {xs:List SX} {own:Option (Nat×Nat)} {ds:List D} {res:V} {q:Prop} (h2:Den P G fn ds res) (e:q)
    (hq:optK (impV h u (d.getD 0) own res) (goR P G d r K f)=q:=by simp only[wal,stV,seval,iteOmega,toNatUp,reduceCtorEq]; rfl) (h1:toVs h (xs.map (ev G f))=some ds:=by exact rfl)
    (h3:((xs.map (ev G f)).any V.hasOwn=false∨res.flat=true):=by exact .inl rfl) (hne:fn≠dynF:=by decide) (hp:PureOk own (xs.map (ev G f)):=by first | exact pok_none _ | exact pok_own _ _ _ | exact pok_pure _ _ rfl):aops P G (⟨d,.call fn xs own,none⟩::r) K ⟨f,h,u⟩ :=
  sC h2 (hq ▸ e) h1 h3 hne hp
end Go.Proofs.YtbkhllchjbjhgaaDoor
namespace Go.Proofs.YtbkhllchjbjhgaaDoor
open Go.RowKit
def xtB (x:UInt8):UInt8:=xorB (shlB x 1) (if x<128 then 0 else 27)
def selB (c:Bool) (v:UInt8):UInt8:=if c then v else 0
def bitB (y:UInt8) (i:Nat):Bool:=y.toNat.testBit i
def xtN (x:UInt8):Nat→UInt8
  | 0=>x
  | n+1=>xtB (xtN x n)
def tmN (x y:UInt8):Nat→UInt8
  | 0=>0
  | n+1=>xorB (tmN x y n) (selB (bitB y n) (xtN x n))
def timesK (x y:UInt8):UInt8:=tmN x y 8
theorem xorB_comm (x y:UInt8):xorB x y=xorB y x:=UInt8.xor_comm x y
theorem xorB_assoc (x y z:UInt8):xorB (xorB x y) z=xorB x (xorB y z):=UInt8.xor_assoc x y z
theorem xorB_zero (x:UInt8):xorB x 0=x:=UInt8.xor_zero
theorem xorB_self (x:UInt8):xorB x x=0:=UInt8.xor_self
theorem xorB_four (a b c d:UInt8):xorB (xorB a b) (xorB c d)=xorB (xorB a c) (xorB b d):=by
  rw[xorB_assoc,← xorB_assoc b,xorB_comm b c,xorB_assoc c,← xorB_assoc]
def linB (f:UInt8→UInt8):Prop:=∀ a b,f (xorB a b)=xorB (f a) (f b)
theorem bitB_xor (x y:UInt8) (i:Nat):bitB (xorB x y) i=(bitB x i ^^ bitB y i):=by
  unfold bitB xorB
  rw[UInt8.toNat_xor,Nat.testBit_xor]
theorem selB_xor (c d:Bool) (v:UInt8):selB (c ^^ d) v=xorB (selB c v) (selB d v):=by
  cases c <;> cases d <;> simp[selB,xorB]
def sumB (f:UInt8→UInt8) (x:UInt8):Nat→UInt8
  | 0=>0
  | n+1=>xorB (sumB f x n) (selB (bitB x n) (f (UInt8.ofNat (2^n))))
theorem sumB_lin (f:UInt8→UInt8):∀ n,linB fun x=>sumB f x n
  | 0=>fun a b=>(xorB_self 0).symm
  | n+1=>fun a b=>by
    show xorB (sumB f (xorB a b) n) (selB (bitB (xorB a b) n) _)=_
    rw[show sumB f (xorB a b) n=xorB (sumB f a n) (sumB f b n) from sumB_lin f n a b,bitB_xor,selB_xor,xorB_four]
    rfl
theorem lin_of {f:UInt8→UInt8} (h:∀ x,f x=sumB f x 8):linB f:=by
  intro a b
  rw[h,h a,h b]
  exact sumB_lin f 8 a b
theorem all_b {p:UInt8→Bool} (h:((List.range 256).all fun i=>p (UInt8.ofNat i))=true) (x:UInt8):p x=true:=by
  have:=List.all_eq_true.1 h x.toNat (List.mem_range.2 x.toNat_lt)
  simpa using this
theorem xtB_lin:linB xtB:=lin_of fun x=>by
  have:=all_b (p:=fun x=>xtB x==sumB xtB x 8) (by decide +kernel) x
  simpa using this
def leftB (x:UInt8) (n:Nat):UInt8:=orB (shlB x n) (shrB x (8-n))
def affB (y:UInt8):UInt8:=xorB (xorB (xorB (xorB (xorB y (leftB y 1)) (leftB y 2)) (leftB y 3)) (leftB y 4)) 99
def invB (x:UInt8):UInt8 :=
  let x2:=timesK x x
  let x3:=timesK x2 x
  let x6:=timesK x3 x3
  let x12:=timesK x6 x6
  let x15:=timesK x12 x3
  let x30:=timesK x15 x15
  let x60:=timesK x30 x30
  let x120:=timesK x60 x60
  let x240:=timesK x120 x120
  timesK (timesK x240 x12) x2
def boxL:List UInt8:=(List.range 256).map fun i=>affB (invB (UInt8.ofNat i))
def subK (x:UInt8):UInt8:=affB (invB x)
theorem boxL_get (x:UInt8):boxL[x.toNat]?=some (subK x):=by
  unfold boxL subK
  rw[List.getElem?_map,List.getElem?_range x.toNat_lt]
  simp
end Go.Proofs.YtbkhllchjbjhgaaDoor
namespace Go.Proofs.YtbkhllchjbjhgaaDoor
open Go.RowKit
instance:Std.Associative xorB:=⟨xorB_assoc⟩
instance:Std.Commutative xorB:=⟨xorB_comm⟩
def twB (x:UInt8):UInt8:=timesK x 2
def mix4 (a b c d:UInt8):UInt8:=xorB (xorB (xorB (xorB (twB a) (twB b)) b) c) d
abbrev B16:=Nat→UInt8
def addF (s k:B16):B16:=fun j=>xorB (s j) (k j)
def shiftF (s:B16):B16:=fun j=>subK (s (j%4+4*((j / 4+j%4)%4)))
def mixF (t:B16):B16:=fun j=>mix4 (t (4*(j / 4)+j%4)) (t (4*(j / 4)+(j%4+1)%4)) (t (4*(j / 4)+(j%4+2)%4)) (t (4*(j / 4)+(j%4+3)%4))
def sameF (s t:B16):Prop:=∀ j,j<16→s j=t j
def roundF (k:Nat→B16) (s:B16) (n:Nat):B16:=if n<10 then addF (mixF (shiftF s)) (k n) else addF (shiftF s) (k n)
def encF (k:Nat→B16) (s:B16):Nat→B16
  | 0=>addF s (k 0)
  | n+1=>roundF k (encF k s n) (n+1)
end Go.Proofs.YtbkhllchjbjhgaaDoor
namespace Go.Proofs.YtbkhllchjbjhgaaDoor
open Go.RowKit
def conK (n:Nat):UInt8:=xtN 1 n
def turnW (t:List UInt8) (n:Nat):List UInt8 :=
  if n%4=0 then [xorB (subK (t.getD 1 0)) (conK (n / 4)),subK (t.getD 2 0),subK (t.getD 3 0),subK (t.getD 0 0)]
  else [t.getD 0 0,t.getD 1 0,t.getD 2 0,t.getD 3 0]
def nextK (l:List UInt8) (n:Nat):List UInt8 :=
  (List.range 4).map fun k=>xorB (l.getD (4*n+k) 0) ((turnW (l.drop (12+4*n)) n).getD k 0)
def rkN (key:List UInt8):Nat→List UInt8
  | 0=>key
  | n+1=>rkN key n++nextK (rkN key n) n
def rkK (key:List UInt8):List UInt8:=rkN key 40
theorem nextK_len (l:List UInt8) (n:Nat):(nextK l n).length=4:=by simp[nextK]
theorem rkN_len {key:List UInt8} (h:key.length=16):∀ n,(rkN key n).length=16+4*n
  | 0=>h
  | n+1=>by rw[rkN,List.length_append,rkN_len h n,nextK_len]; omega
theorem rkK_len {key:List UInt8} (h:key.length=16):(rkK key).length=176:=rkN_len h 40
def toL (f:B16):List UInt8:=(List.range 16).map f
theorem toL_len (f:B16):(toL f).length=16:=by simp[toL]
theorem toL_get (f:B16) {j:Nat} (h:j<16):(toL f)[j]?=some (f j):=by simp[toL,h]
def ofB16 (l:List UInt8):B16:=fun j=>l.getD j 0
theorem toL_of {l:List UInt8} (h:l.length=16):toL (ofB16 l)=l:=by
  apply List.ext_getElem?
  intro i
  by_cases hi:i<16
  ·rw[toL_get _ hi,ofB16,List.getD_eq_getElem?_getD,List.getElem?_eq_getElem (by omega)]; rfl
  ·rw[List.getElem?_eq_none (by rw[toL_len]; omega),List.getElem?_eq_none (by omega)]
theorem toL_congr {f g:B16} (h:sameF f g):toL f=toL g:=List.map_congr_left fun j hj=>h j (List.mem_range.1 hj)
def keyF (rk:List UInt8) (n:Nat):B16:=fun j=>rk.getD (16*n+j) 0
def encK (rk b:List UInt8):List UInt8:=toL (encF (keyF rk) (ofB16 b) 10)
theorem encK_len (rk b:List UInt8):(encK rk b).length=16:=toL_len _
def blockC (key b:List UInt8):List UInt8:=encK (rkK key) b
def incL:List UInt8→List UInt8×Bool
  | []=>([],true)
  | x::r=>let (s,c):=incL r; if c then ((x+1)::s,x+1==0) else (x::s,false)
def nextC (c:List UInt8):List UInt8:=(incL c).1
theorem incL_len:∀ c,(incL c).1.length=c.length
  | []=>rfl
  | x::r=>by
    have:=incL_len r
    simp only[incL]
    split <;> simp[this]
theorem nextC_len (c:List UInt8):(nextC c).length=c.length:=incL_len c
def ctrC (c:List UInt8):Nat→List UInt8
  | 0=>c
  | n+1=>nextC (ctrC c n)
theorem ctrC_len (c:List UInt8):∀ n,(ctrC c n).length=c.length
  | 0=>rfl
  | n+1=>by rw[ctrC,nextC_len,ctrC_len c n]
def padC (rk c:List UInt8):Nat→List UInt8
  | 0=>[]
  | n+1=>padC rk c n++encK rk (ctrC c n)
theorem padC_len (rk c:List UInt8):∀ n,(padC rk c n).length=16*n
  | 0=>rfl
  | n+1=>by rw[padC,List.length_append,padC_len rk c n,encK_len]; omega
def xorL (a b:List UInt8):List UInt8:=List.zipWith xorB a b
def strmC (rk c b:List UInt8):List UInt8:=xorL b (padC rk c ((b.length+15) / 16))
theorem xorL_len {a b:List UInt8} (h:a.length≤b.length):(xorL a b).length=a.length:=by
  simp[xorL]; omega
theorem strmC_len (rk c b:List UInt8):(strmC rk c b).length=b.length:=xorL_len (by rw[padC_len]; omega)
theorem xorL_twice:∀ {a b:List UInt8},a.length≤b.length→xorL (xorL a b) b=a
  | [],_,_=>by simp[xorL]
  | x::a,[],h=>by simp at h
  | x::a,y::b,h=>by
    have h1:=xorL_twice (a:=a) (b:=b) (by simpa using h)
    simp only[xorL,List.zipWith_cons_cons,List.cons.injEq] at h1 ⊢
    exact⟨by rw[xorB_assoc,xorB_self,xorB_zero],h1⟩
theorem strmC_twice (rk c b:List UInt8):strmC rk c (strmC rk c b)=b:=by
  unfold strmC
  have h:b.length≤(padC rk c ((b.length+15) / 16)).length:=by rw[padC_len]; omega
  rw[xorL_len h,xorL_twice h]
end Go.Proofs.YtbkhllchjbjhgaaDoor
namespace Go.Proofs.YtbkhllchjbjhgaaDoor
open Go.RowKit
def dblF (b:B16):B16:=fun j=>xorB (xorB (shlB (b j) 1) (if j<15 then shrB (b (j+1)) 7 else 0)) (if j=15 then selB (bitB (b 0) 7) 135 else 0)
theorem or_low (x y:UInt8):orB (shlB x 1) (shrB y 7)=xorB (shlB x 1) (shrB y 7):=by
  have h:shrB y 7=0∨shrB y 7=1:=by
    have:=all_b (p:=fun y=>shrB y 7==0 || shrB y 7==1) (by decide +kernel) y
    simpa using this
  rcases h with h | h <;> rw[h]
  ·have:=all_b (p:=fun x=>orB (shlB x 1) 0==xorB (shlB x 1) 0) (by decide +kernel) x
   rw[beq_iff_eq] at this; exact this
  ·have:=all_b (p:=fun x=>orB (shlB x 1) 1==xorB (shlB x 1) 1) (by decide +kernel) x
   rw[beq_iff_eq] at this; exact this
def dblL (b:List UInt8):List UInt8:=if b.length=16 then toL (dblF (ofB16 b)) else []
theorem dblL_len {b:List UInt8} (h:b.length=16):(dblL b).length=16:=by rw[dblL,if_pos h,toL_len]
def xorP:List UInt8→List UInt8→List UInt8
  | x::a,y::b=>xorB x y::xorP a b
  | a,_=>a
theorem xorP_len:∀ a b:List UInt8,(xorP a b).length=a.length
  | [],_=>by simp[xorP]
  | x::a,[]=>rfl
  | x::a,y::b=>by simp[xorP,xorP_len a b]
theorem xorP_get:∀ (a b:List UInt8) (i:Nat),i<a.length→i<b.length→(xorP a b).getD i 0=xorB (a.getD i 0) (b.getD i 0)
  | [],_,_,h,_=>by simp at h
  | x::a,[],_,_,h=>by simp at h
  | x::a,y::b,0,_,_=>rfl
  | x::a,y::b,i+1,h,g=>by
    show (xorP a b).getD i 0=_
    rw[xorP_get a b i (by simpa using h) (by simpa using g)]; rfl
def zero16:List UInt8:=List.replicate 16 0
def padL (b:List UInt8):List UInt8:=b++List.replicate ((16-b.length%16)%16) 0
def sub1 (rk:List UInt8):List UInt8:=dblL (encK rk zero16)
def sub2 (rk:List UInt8):List UInt8:=dblL (sub1 rk)
def cbcM (rk b:List UInt8):Nat→List UInt8
  | 0=>zero16
  | n+1=>encK rk (xorP (cbcM rk b n) ((b.drop (16*n)).take 16))
def aheadM (b:List UInt8):Nat:=(b.length+15) / 16-1
def endM (rk e:List UInt8):List UInt8:=if e.length=16 then xorP e (sub1 rk) else xorP (padL (e++[128])) (sub2 rk)
def macM (rk b:List UInt8):List UInt8:=encK rk (xorP (cbcM rk b (aheadM b)) (endM rk (b.drop (16*aheadM b))))
theorem cbcM_len (rk b:List UInt8):∀ n,(cbcM rk b n).length=16
  | 0=>by simp[cbcM,zero16]
  | n+1=>encK_len _ _
theorem macM_len (rk b:List UInt8):(macM rk b).length=16:=encK_len _ _
theorem sub1_len (rk:List UInt8):(sub1 rk).length=16:=dblL_len (encK_len _ _)
theorem sub2_len (rk:List UInt8):(sub2 rk).length=16:=dblL_len (sub1_len _)
theorem padL_short {b:List UInt8} (h:b.length<16):(padL (b++[128])).length=16:=by
  simp[padL]; omega
theorem endM_len {rk e:List UInt8} (h:e.length≤16):(endM rk e).length=16:=by
  unfold endM
  split
  ·rw[xorP_len]; assumption
  ·rw[xorP_len,padL_short (by omega)]
def vecD (rk:List UInt8) (l:List (List UInt8)):Nat→List UInt8
  | 0=>macM rk zero16
  | n+1=>xorP (dblL (vecD rk l n)) (macM rk (l.getD n []))
def vecM (rk:List UInt8) (l:List (List UInt8)):List UInt8 :=
  if l.length=0 then macM rk (List.replicate 15 0++[1])
  else
    let d:=vecD rk l (l.length-1)
    let s:=l.getD (l.length-1) []
    if 16≤s.length then macM rk (s.take (s.length-16)++xorP (s.drop (s.length-16)) d)
    else macM rk (xorP (dblL d) (padL (s++[128])))
theorem vecD_len (rk:List UInt8) (l:List (List UInt8)):∀ n,(vecD rk l n).length=16
  | 0=>macM_len _ _
  | n+1=>by rw[vecD,xorP_len,dblL_len (vecD_len rk l n)]
theorem vecM_len (rk:List UInt8) (l:List (List UInt8)):(vecM rk l).length=16:=by
  unfold vecM
  split
  ·exact macM_len _ _
  ·dsimp only
   split <;> exact macM_len _ _
end Go.Proofs.YtbkhllchjbjhgaaDoor
namespace Go.Proofs.YtbkhllchjbjhgaaDoor
open Go.RowKit IntWalk
theorem ret_4 {σ:St} {p q r s:Nat×Option Kd} {x y z t:D} (h1:(resW σ p).bind (toW σ.h)=some x) (h2:(resW σ q).bind (toW σ.h)=some y) (h3:(resW σ r).bind (toW σ.h)=some z) (h4:(resW σ s).bind (toW σ.h)=some t):RetOk σ [p,q,r,s] (.tup [.c (.d x),.c (.d y),.c (.d z),.c (.d t)]):=by
  obtain⟨w1,e1,f1⟩:=Option.bind_eq_some_iff.1 h1
  obtain⟨w2,e2,f2⟩:=Option.bind_eq_some_iff.1 h2
  obtain⟨w3,e3,f3⟩:=Option.bind_eq_some_iff.1 h3
  obtain⟨w4,e4,f4⟩:=Option.bind_eq_some_iff.1 h4
  exact⟨[w1,w2,w3,w4],by simp[allSome,e1,e2,e3,e4],.inr (.cons ⟨_,rfl,f1⟩ (.cons ⟨_,rfl,f2⟩ (.cons ⟨_,rfl,f3⟩ (.cons ⟨_,rfl,f4⟩ .nil))))⟩
theorem qd4 {σ:St} {p q r s:Nat×Option Kd} {x y z t:D} (h1:(resW σ p).bind (toW σ.h)=some x:=by simp only[wal,stV,seval,iteOmega,toNatUp,reduceCtorEq] <;> rfl) (h2:(resW σ q).bind (toW σ.h)=some y:=by simp only[wal,stV,seval,iteOmega,toNatUp,reduceCtorEq] <;> rfl) (h3:(resW σ r).bind (toW σ.h)=some z:=by simp only[wal,stV,seval,iteOmega,toNatUp,reduceCtorEq] <;> rfl) (h4:(resW σ s).bind (toW σ.h)=some t:=by simp only[wal,stV,seval,iteOmega,toNatUp,reduceCtorEq] <;> rfl):RetOk σ [p,q,r,s] (.tup [.c (.d x),.c (.d y),.c (.d z),.c (.d t)]):=ret_4 h1 h2 h3 h4
end Go.Proofs.YtbkhllchjbjhgaaDoor
