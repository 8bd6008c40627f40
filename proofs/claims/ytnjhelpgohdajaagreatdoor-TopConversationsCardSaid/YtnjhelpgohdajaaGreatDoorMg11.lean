/- Texts of one's own, merged: from: The plain logic (1): data,what memory it lies in,and that it stays as it is while other memory is written. Own work,over any program. -/
import Derived.WalkKit
import Derived.Below
import Derived.Laws.AppendOwn
import Derived.RangeFuncNested
import Derived.RangeFuncCalls
import Derived.RangeFuncLeaves
set_option linter.unusedVariables false
set_option linter.unusedSimpArgs false
namespace Go.Proofs.YtnjhelpgohdajaaGreatDoor
open Go.RowKit
theorem apR:type_of% @List.getElem?_eq_getElem:=@List.getElem?_eq_getElem
theorem apS:type_of% @List.length_append:=@List.length_append
theorem apT:type_of% @List.getD_eq_getElem?_getD:=@List.getD_eq_getElem?_getD
theorem apV:type_of% @Option.map_eq_some_iff:=@Option.map_eq_some_iff
theorem apW:type_of% @List.map_cons:=@List.map_cons
theorem apX:type_of% @List.take_of_length_le:=@List.take_of_length_le
theorem apY:type_of% @List.mem_singleton:=@List.mem_singleton
theorem apZ:type_of% @Nat.zero_le:=@Nat.zero_le
theorem ap0:type_of% @List.length_take:=@List.length_take
theorem ap1:type_of% @List.length_map:=@List.length_map
theorem ap2:type_of% @Option.some.injEq:=@Option.some.injEq
theorem ap3:type_of% @Nat.le_refl:=@Nat.le_refl
theorem ap4:type_of% @List.map_nil:=@List.map_nil
theorem ap5:type_of% @List.length_drop:=@List.length_drop
theorem ap6:type_of% @List.append_assoc:=@List.append_assoc
theorem ap7:type_of% @List.append_nil:=@List.append_nil
theorem ap8:type_of% @List.map_append:=@List.map_append
theorem ap9:type_of% @List.all_eq_true:=@List.all_eq_true
theorem aqa:type_of% @List.mem_map:=@List.mem_map
theorem aqb:type_of% @List.flatMap_cons:=@List.flatMap_cons
theorem aqc:type_of% @List.mem_flatMap:=@List.mem_flatMap
theorem aqd:type_of% @List.getElem?_eq_some_iff:=@List.getElem?_eq_some_iff
theorem aqe:type_of% @Option.ne_none_iff_exists':=@Option.ne_none_iff_exists'
theorem aqf:type_of% @List.mem_cons_of_mem:=@List.mem_cons_of_mem
theorem aqg:type_of% @List.mem_append:=@List.mem_append
theorem aqh:type_of% @List.mem_cons:=@List.mem_cons
theorem aqi:type_of% @List.mem_append_right:=@List.mem_append_right
theorem aqj:type_of% @List.mem_cons_self:=@List.mem_cons_self
theorem aqk:type_of% @Nat.lt_or_ge:=@Nat.lt_or_ge
theorem aql:type_of% @List.getElem?_append_right:=@List.getElem?_append_right
theorem aqm:type_of% @Bool.and_eq_true:=@Bool.and_eq_true
theorem aqn:type_of% @List.getElem_map:=@List.getElem_map
theorem aqo:type_of% @List.length_replicate:=@List.length_replicate
theorem aqp:type_of% @Array.getElem?_eq_some_iff:=@Array.getElem?_eq_some_iff
theorem aqq:type_of% @List.take_append_drop:=@List.take_append_drop
theorem aqr:type_of% @List.getElem_mem:=@List.getElem_mem
theorem aqs:type_of% @List.getElem_of_mem:=@List.getElem_of_mem
theorem aqt:type_of% @Nat.mul_le_mul_right:=@Nat.mul_le_mul_right
theorem aqu:type_of% @List.map_congr_left:=@List.map_congr_left
theorem aqv:type_of% @Option.bind_eq_some_iff:=@Option.bind_eq_some_iff
theorem aqw:type_of% @List.length_singleton:=@List.length_singleton
theorem aqx:type_of% @List.length_cons:=@List.length_cons
theorem aqy:type_of% @List.take_length:=@List.take_length
theorem aqz:type_of% @List.nil_append:=@List.nil_append
theorem aqA:type_of% @List.length_eq_zero_iff:=@List.length_eq_zero_iff
theorem aqB:type_of% @Int.eq_ofNat_of_zero_le:=@Int.eq_ofNat_of_zero_le
theorem aqC:type_of% @Nat.add_mul:=@Nat.add_mul
theorem aqD:type_of% @List.flatten_cons:=@List.flatten_cons
theorem aqE:type_of% @List.cons_append:=@List.cons_append
theorem aqF:type_of% @List.flatten_nil:=@List.flatten_nil
theorem aqG:type_of% @Nat.le_trans:=@Nat.le_trans
theorem aqH:type_of% @List.getElem?_map:=@List.getElem?_map
theorem aqI:type_of% @List.getElem?_eq_none:=@List.getElem?_eq_none
theorem aqJ:type_of% @List.eq_nil_of_length_eq_zero:=@List.eq_nil_of_length_eq_zero
theorem aqK:type_of% @List.take_append_of_le_length:=@List.take_append_of_le_length
theorem aqL:type_of% @List.mem_append_left:=@List.mem_append_left
theorem aqM:type_of% @List.getElem?_append_left:=@List.getElem?_append_left
theorem aqN:type_of% @List.find?_cons_of_neg:=@List.find?_cons_of_neg
theorem aqO:type_of% @Nat.zero_add:=@Nat.zero_add
theorem aqP:type_of% @List.any_eq_true:=@List.any_eq_true
theorem aqQ:type_of% @List.map_map:=@List.map_map
theorem aqR:type_of% @List.getElem?_cons_succ:=@List.getElem?_cons_succ
theorem aqS:type_of% @List.range_succ:=@List.range_succ
theorem aqT:type_of% @List.take_succ_eq_append_getElem:=@List.take_succ_eq_append_getElem
theorem aqU:type_of% @List.any_eq_false:=@List.any_eq_false
theorem aqV:type_of% @List.length_range:=@List.length_range
theorem aqW:type_of% @Nat.testBit_xor:=@Nat.testBit_xor
theorem aqX:type_of% @List.mem_of_getElem?:=@List.mem_of_getElem?
theorem aqY:type_of% @List.drop_eq_nil_of_le:=@List.drop_eq_nil_of_le
theorem aqZ:type_of% @List.length_nil:=@List.length_nil
theorem aq0:type_of% @Nat.min_eq_left:=@Nat.min_eq_left
theorem aq1:type_of% @Array.getElem?_toList:=@Array.getElem?_toList
theorem aq2:type_of% @List.ext_getElem?:=@List.ext_getElem?
theorem aq3:type_of% @List.take_add_one:=@List.take_add_one
theorem aq4:type_of% @Option.map_some:=@Option.map_some
theorem aq5:type_of% @List.getElem?_take:=@List.getElem?_take
theorem aq6:type_of% @List.foldl_cons:=@List.foldl_cons
theorem aq7:type_of% @List.getElem?_drop:=@List.getElem?_drop
theorem aq8:type_of% @List.getElem_range:=@List.getElem_range
theorem aq9:type_of% @Option.getD_some:=@Option.getD_some
theorem ara:type_of% @List.nodup_append:=@List.nodup_append
theorem arb:type_of% @List.take_zero:=@List.take_zero
theorem arc:type_of% @List.sublist_append_left:=@List.sublist_append_left
theorem ard:type_of% @List.findIdx?_eq_some_iff_getElem:=@List.findIdx?_eq_some_iff_getElem
theorem arf:type_of% @List.mem_filter:=@List.mem_filter
theorem arh:type_of% @Nat.eq_zero_or_pos:=@Nat.eq_zero_or_pos
theorem ari:type_of% @Array.getD_eq_getD_getElem?:=@Array.getD_eq_getD_getElem?
theorem arj:type_of% @Array.toArray_toList:=@Array.toArray_toList
theorem ark:type_of% @Nat.add_zero:=@Nat.add_zero
theorem arl:type_of% @List.nodup_iff_pairwise_ne:=@List.nodup_iff_pairwise_ne
theorem arm:type_of% @List.drop_zero:=@List.drop_zero
theorem arn:type_of% @List.flatMap_append:=@List.flatMap_append
theorem aro:type_of% @List.replicate_zero:=@List.replicate_zero
theorem arp:type_of% @List.getElem?_range:=@List.getElem?_range
theorem arq:type_of% @List.length_set:=@List.length_set
theorem ars:type_of% @List.drop_eq_getElem_cons:=@List.drop_eq_getElem_cons
theorem art:type_of% @List.set_append_right:=@List.set_append_right
theorem aru:type_of% @List.mem_filterMap:=@List.mem_filterMap
theorem arv:type_of% @Option.getD_none:=@Option.getD_none
theorem arw:type_of% @Nat.mod_lt:=@Nat.mod_lt
theorem arx:type_of% @List.drop_drop:=@List.drop_drop
theorem ary:type_of% @List.replicate_succ':=@List.replicate_succ'
theorem arz:type_of% @List.foldl_nil:=@List.foldl_nil
theorem arA:type_of% @Nat.add_sub_cancel_left:=@Nat.add_sub_cancel_left
theorem arB:type_of% @List.nodup_cons:=@List.nodup_cons
theorem arC:type_of% @Array.length_toList:=@Array.length_toList
theorem arD:type_of% @Nat.mul_one:=@Nat.mul_one
theorem arE:type_of% @Nat.sub_self:=@Nat.sub_self
theorem arF:type_of% @Option.isSome_some:=@Option.isSome_some
theorem arG:type_of% @Nat.lt_of_le_of_lt:=@Nat.lt_of_le_of_lt
theorem arH:type_of% @List.mem_range:=@List.mem_range
theorem arI:type_of% @Option.isSome_none:=@Option.isSome_none
theorem arJ:type_of% @List.mem_of_find?_eq_some:=@List.mem_of_find?_eq_some
theorem arK:type_of% @List.sublist_append_right:=@List.sublist_append_right
theorem arL:type_of% @Nat.mul_comm:=@Nat.mul_comm
theorem arM:type_of% @Option.isSome_iff_exists:=@Option.isSome_iff_exists
theorem arN:type_of% @Int.emod_nonneg:=@Int.emod_nonneg
theorem arO:type_of% @Nat.add_assoc:=@Nat.add_assoc
theorem arP:type_of% @List.drop_append_of_le_length:=@List.drop_append_of_le_length
theorem arQ:type_of% @Int.mul_le_mul_of_nonneg_left:=@Int.mul_le_mul_of_nonneg_left
theorem arR:type_of% @List.filter_cons_of_pos:=@List.filter_cons_of_pos
theorem arS:type_of% @List.not_mem_nil:=@List.not_mem_nil
theorem arT:type_of% @Int.natCast_zero:=@Int.natCast_zero
theorem arU:type_of% @List.take_take:=@List.take_take
theorem arV:type_of% @List.getElem_cons_zero:=@List.getElem_cons_zero
theorem arW:type_of% @Int.cast_ofNat_Int:=@Int.cast_ofNat_Int
theorem arX:type_of% @Int.lt_or_le:=@Int.lt_or_le
theorem arY:type_of% @List.all_cons:=@List.all_cons
theorem arZ:type_of% @Bool.true_and:=@Bool.true_and
theorem ar0:type_of% @Int.toNat_natCast:=@Int.toNat_natCast
theorem ar1:type_of% @List.getElem_take:=@List.getElem_take
theorem ar2:type_of% @List.getElem?_set:=@List.getElem?_set
theorem ar3:type_of% @Nat.mod_eq_of_lt:=@Nat.mod_eq_of_lt
theorem ar4:type_of% @Nat.zero_mul:=@Nat.zero_mul
theorem ar5:type_of% @List.flatMap_nil:=@List.flatMap_nil
theorem ar6:type_of% @List.getElem_set:=@List.getElem_set
inductive D where
  | int (k:IntKind) (n:Int)
  | bool (b:Bool)
  | str (s:ByteArray)
  | sl (es:List D)
  | agg (cs:List D)
  | ref (cs:List D)
  | fn (f:Nat) (caps:List D)
  | mp (q:IntKind) (es:List (Int×D))
deriving Inhabited
def D.cells:D→List D
  | .agg cs=>cs
  | x=>[x]
def D.one:D→Bool
  | .agg _=>false
  | _=>true
theorem D.one_cells {x:D} (h:x.one=true):x.cells=[x]:=by cases x <;> first | rfl | simp[D.one] at h
inductive Cp where
  | d (x:D)
  | p (id sz i o:Nat)
deriving Inhabited
inductive C where
  | d (x:D)
  | nil
  | own (id sz off n:Nat)
  | ptr (id sz i o:Nat)
  | pa (id sz:Nat)
  | rp (cs:List D)
  | ra (es:List D)
  | fr (sz:Nat) (es:List D)
  | cf (f:Nat) (pre post:List Cp)
  | mp (id:Nat)
deriving Inhabited
inductive W where
  | c (x:C)
  | mix (cs:List C)
deriving Inhabited
inductive V where
  | w (x:W)
  | tup (ws:List W)
  | undef
deriving Inhabited
inductive Ob where
  | row (sz:Nat) (es:List D)
  | box (cs:List C)
  | mp (q:IntKind) (es:List (Int×C))
  | it (q:IntKind) (left:List (Int×D)) (last:Option (Int×D))
abbrev aI:=Nat→Option Ob
structure St where
  f:Nat→V
  h:aI
  u:Nat→Bool
inductive aD {α β:Type} (R:α→β→Prop):List α→List β→Prop
  | nil:aD R [] []
  | cons {a b as bs}:R a b→aD R as bs→aD R (a::as) (b::bs)
abbrev aT:=Nat→Nat→Prop
abbrev Mp:=Nat→Option (Nat×Nat)
def jQ (E:Array MapEntry) (clock:Nat):Prop:=(E.toList.map (·.born)).Nodup∧∀ e∈E.toList,e.born<clock
inductive Reads (S:aT) (w:World):Value→D→Prop
  | int (k:IntKind) (n:Int):Reads S w (.int k n) (.int k n)
  | bool (b:Bool):Reads S w (.bool b) (.bool b)
  | str (s:ByteArray):Reads S w (.string s) (.str s)
  | nil:Reads S w (.slice none 0 0) (.sl [])
  | sl (a:Addr) (cap sz:Nat) (es:List D) (u:Nat→Nat→Value) (hcap:es.length≤cap) (hmax:cap≤maxLen)
      (hsz:∀ i (h:i<es.length),es[i].cells.length=sz)
      (hS:∀ i j,i<es.length→j<sz→S a.block (a.off+(i*sz+j)))
      (hc:∀ i j,i<es.length→j<sz→w.cell? ⟨a.block,a.off+(i*sz+j),a.spot⟩=some (u i j))
      (hr:∀ i j (h:i<es.length) (h2:j<es[i].cells.length),Reads S w (u i j) es[i].cells[j]) :
      Reads S w (.slice (some a) es.length cap) (.sl es)
  | ref (a:Addr) (cs:List D) (u:Nat→Value) (hS:∀ j,j<cs.length→S a.block (a.off+j))
      (hc:∀ j,j<cs.length→w.cell? ⟨a.block,a.off+j,a.spot⟩=some (u j)) (hr:∀ j (h:j<cs.length),Reads S w (u j) cs[j]):Reads S w (.pointer (some a)) (.ref cs)
  | fn (f:Nat) (vs:List Value) (caps:List D) (u:Nat→Value) (hl:vs.length=caps.length) (hv:∀ j,j<vs.length→vs[j]?=some (u j)) (hr:∀ j (h:j<caps.length),Reads S w (u j) caps[j]):Reads S w (.func (.func f) #[] vs.toArray) (.fn f caps)
  | mpN (q:IntKind):Reads S w (.map none) (.mp q [])
  | mp (b:Nat) (q:IntKind) (E:Array MapEntry) (c:Nat) (es:List (Int×D)) (u:Nat→Value) (hS:S b 0) (hb:w.heap[b]?=some (.map E c)) (hB:jQ E c) (hl:E.toList.length=es.length)
      (hk:∀ j (h:j<E.toList.length) (h2:j<es.length),E.toList[j].key=.int q es[j].1∧E.toList[j].val=u j) (hr:∀ j (h:j<es.length),Reads S w (u j) es[j].2):Reads S w (.map (some b)) (.mp q es)
def fI (S:aT) (w:World) (a:Addr) (cs:List D):Prop :=
  ∀ j (h:j<cs.length),∃ v,S a.block (a.off+j)∧w.cell? ⟨a.block,a.off+j,a.spot⟩=some v∧Reads S w v cs[j]
def fJ (S:aT) (w:World) (a:Addr) (sz:Nat) (es:List D):Prop :=
  ∀ i (h:i<es.length),es[i].cells.length=sz∧fI S w ⟨a.block,a.off+i*sz,a.spot⟩ es[i].cells
theorem Reads.of_row {S:aT} {w:World} {a:Addr} {cap sz:Nat} {es:List D} (h:fJ S w a sz es) (hcap:es.length≤cap) (hmax:cap≤maxLen):Reads S w (.slice (some a) es.length cap) (.sl es):=by
  have h1:∀ i j,∃ v,∀ (h:i<es.length) (h2:j<es[i].cells.length),S a.block (a.off+(i*sz+j))∧w.cell? ⟨a.block,a.off+(i*sz+j),a.spot⟩=some v∧Reads S w v es[i].cells[j]:=by
    intro i j;by_cases hi:i<es.length
    ·by_cases hj:j<es[i].cells.length
     ·obtain⟨v,a1,a2,a3⟩:=(h i hi).2 j hj;simp only[Nat.add_assoc] at a1 a2;exact⟨v,fun _ _=>⟨a1,a2,a3⟩⟩
     ·exact⟨.bool false,fun _ h2=>absurd h2 hj⟩
    ·exact⟨.bool false,fun h=>absurd h hi⟩
  obtain⟨u,hu⟩:=Classical.axiomOfChoice (fun i=>Classical.axiomOfChoice (h1 i));refine .sl a cap sz es u hcap hmax (fun i hi=>(h i hi).1) (fun i j hi hj=>(hu i j hi (by rw[(h i hi).1]; exact hj)).1) (fun i j hi hj=>(hu i j hi (by rw[(h i hi).1]; exact hj)).2.1) (fun i j hi h2=>(hu i j hi h2).2.2)
theorem Reads.zero {S:aT} {w:World} (ad:Option Addr):Reads S w (.slice ad 0 0) (.sl []):=by
  cases ad with
  | none=>exact .nil
  | some a=>exact Reads.of_row (es:=[]) (sz:=0) (fun i hi=>by simp at hi) (Nat.le_refl _) (Nat.zero_le _)
theorem Reads.row {S:aT} {w:World} {v:Value} {es:List D} (h:Reads S w v (.sl es)) :
    (v=.slice none 0 0∧es=[])∨∃ a cap sz,v=.slice (some a) es.length cap∧es.length≤cap∧cap≤maxLen∧fJ S w a sz es:=by
  cases h with
  | nil=>exact .inl ⟨rfl,rfl⟩
  | sl a cap sz es u hcap hmax hsz hS hc hr =>
    refine .inr ⟨a,cap,sz,rfl,hcap,hmax,fun i hi=>⟨hsz i hi,fun j hj=>⟨u i j,?_,?_,hr i j hi hj⟩⟩⟩
    ·rw[Nat.add_assoc]; exact hS i j hi (by rw[← hsz i hi]; exact hj)
    grind
theorem Reads.oneCell {S:aT} {w:World} {v:Value} {x:D} (h:Reads S w v x):v.oneCell'=true:=by cases h <;> rfl
theorem Reads.cellsOf {S:aT} {w:World} {v:Value} {x:D} (h:Reads S w v x):x.cells=[x]:=by cases h <;> rfl
structure bR (S:aT) (w w':World):Prop where
  cell:∀ b i v,S b i→w.cell? ⟨b,i,none⟩=some v→w'.cell? ⟨b,i,none⟩=some v
  shape:∀ b s,w.shape? b=some s→w'.shape? b=some s
  map:∀ b i E c,S b i→w.heap[b]?=some (.map E c)→w'.heap[b]?=some (.map E c)
theorem bR.refl (S:aT) (w:World):bR S w w:=⟨fun _ _ _ _ h=>h,fun _ _ h=>h,fun _ _ _ _ _ h=>h⟩
theorem bR.sub {S S':aT} {w w':World} (k:bR S' w w') (h:∀ b i,S b i→S' b i):bR S w w' :=
  ⟨fun b i v hs hv=>k.cell b i v (h b i hs) hv,k.shape,fun b i E c hs hb=>k.map b i E c (h b i hs) hb⟩
theorem bR.trans {S:aT} {a b c:World} (h:bR S a b) (k:bR S b c):bR S a c :=
  ⟨fun x i v hs hv=>k.cell x i v hs (h.cell x i v hs hv),fun x s hs=>k.shape x s (h.shape x s hs),fun x i E c hs hb=>k.map x i E c hs (h.map x i E c hs hb)⟩
theorem cell_spot {w:World} {b i:Nat} {s:Option Nat} {v:Value} (h:w.cell? ⟨b,i,s⟩=some v):s=none:=by
  unfold World.cell? at h;split at h
  ·cases s with
   | none=>rfl
   | some x=>simp at h
  ·cases h
theorem bR.at {S:aT} {w w':World} (h:bR S w w') {b i:Nat} {s:Option Nat} {v:Value} (hs:S b i) (hv:w.cell? ⟨b,i,s⟩=some v):w'.cell? ⟨b,i,s⟩=some v:=by
  have:=cell_spot hv;subst this;exact h.cell b i v hs hv
theorem Reads.keep {S:aT} {w w':World} {v:Value} {x:D} (h:Reads S w v x) (k:bR S w w'):Reads S w' v x:=by
  induction h with
  | int k n=>exact .int k n
  | bool b=>exact .bool b
  | str s=>exact .str s
  | nil=>exact .nil
  | sl a cap sz es u hcap hmax hsz hS hc hr ih=>exact .sl a cap sz es u hcap hmax hsz hS (fun i j hi hj=>k.at (hS i j hi hj) (hc i j hi hj)) ih
  | ref a cs u hS hc hr ih=>exact .ref a cs u hS (fun j hj=>k.at (hS j hj) (hc j hj)) ih
  | fn f vs caps u hl hv hr ih=>exact .fn f vs caps u hl hv ih
  | mpN q=>exact .mpN q
  | mp b q E c es u hS hb hB hl hk hr ih=>exact .mp b q E c es u hS (k.map _ _ _ _ hS hb) hB hl hk ih
theorem Reads.mono {S S':aT} {w:World} {v:Value} {x:D} (h:Reads S w v x) (k:∀ b i,S b i→S' b i):Reads S' w v x:=by
  induction h with
  | int k n=>exact .int k n
  | bool b=>exact .bool b
  | str s=>exact .str s
  | nil=>exact .nil
  | sl a cap sz es u hcap hmax hsz hS hc hr ih=>exact .sl a cap sz es u hcap hmax hsz (fun i j hi hj=>k _ _ (hS i j hi hj)) hc ih
  | ref a cs u hS hc hr ih=>exact .ref a cs u (fun j hj=>k _ _ (hS j hj)) hc ih
  | fn f vs caps u hl hv hr ih=>exact .fn f vs caps u hl hv ih
  | mpN q=>exact .mpN q
  | mp b q E c es u hS hb hB hl hk hr ih=>exact .mp b q E c es u (k _ _ hS) hb hB hl hk ih
theorem fI.keep {S:aT} {w w':World} {a:Addr} {cs:List D} (h:fI S w a cs) (k:bR S w w'):fI S w' a cs:=by
  intro j hj;obtain⟨v,h1,h2,h3⟩:=h j hj;exact⟨v,h1,k.at h1 h2,h3.keep k⟩
theorem fI.mono {S S':aT} {w:World} {a:Addr} {cs:List D} (h:fI S w a cs) (k:∀ b i,S b i→S' b i):fI S' w a cs:=by
  intro j hj;obtain⟨v,h1,h2,h3⟩:=h j hj;exact⟨v,k _ _ h1,h2,h3.mono k⟩
theorem Reads.cellsAt {S:aT} {w:World} {v:Value} {cs:List D} (h:Reads S w v (.ref cs)):∃ a,v=.pointer (some a)∧fI S w a cs:=by
  cases h with
  | ref a cs u hS hc hr=>exact⟨a,rfl,fun j hj=>⟨u j,hS j hj,hc j hj,hr j hj⟩⟩
theorem Reads.of_cells {S:aT} {w:World} {a:Addr} {cs:List D} (h:fI S w a cs):Reads S w (.pointer (some a)) (.ref cs):=by
  obtain⟨u,hu⟩:=Classical.axiomOfChoice (r:=fun j v=>∀ h:j<cs.length,S a.block (a.off+j)∧w.cell? ⟨a.block,a.off+j,a.spot⟩=some v∧Reads S w v cs[j]) (fun j=>by
    by_cases hj:j<cs.length
    ·obtain⟨v,hv⟩:=h j hj; exact⟨v,fun _=>hv⟩
    ·exact⟨.bool false,fun h=>absurd h hj⟩)
  exact .ref a cs u (fun j hj=>(hu j hj).1) (fun j hj=>(hu j hj).2.1) (fun j hj=>(hu j hj).2.2)
theorem fJ.keep {S:aT} {w w':World} {a:Addr} {sz:Nat} {es:List D} (h:fJ S w a sz es) (k:bR S w w'):fJ S w' a sz es :=
  fun i hi=>⟨(h i hi).1,(h i hi).2.keep k⟩
theorem fJ.mono {S S':aT} {w:World} {a:Addr} {sz:Nat} {es:List D} (h:fJ S w a sz es) (k:∀ b i,S b i→S' b i):fJ S' w a sz es :=
  fun i hi=>⟨(h i hi).1,(h i hi).2.mono k⟩
def cO (m:Mp) (w:World) (v:Value) (id sz off n:Nat):Prop :=
  match m id with
  | none=>(∃ ad,v=.slice ad 0 0)∧off=0∧n=0
  | some (b,sz')=>sz'=sz∧∃ a cap ty N,v=.slice (some a) n cap∧n≤cap∧cap≤maxLen∧(0<cap∨off=0→a=⟨b,off*sz,none⟩)∧w.shape? b=some (ty,N)∧(off+cap)*sz≤N
def fu (m:Mp) (S:aT) (w:World) (v:Value):Cp→Prop
  | .d x=>Reads S w v x
  | .p id sz i o=>∃ b,m id=some (b,sz)∧v=.pointer (some ⟨b,i*sz+o,none⟩)
def RC (m:Mp) (S:aT) (w:World) (v:Value):C→Prop
  | .d x=>Reads S w v x
  | .nil=>∃ ad,v=.slice ad 0 0
  | .own id sz off n=>cO m w v id sz off n
  | .ptr id sz i o=>∃ b,m id=some (b,sz)∧v=.pointer (some ⟨b,i*sz+o,none⟩)
  | .pa id sz=>∃ b,m id=some (b,sz)∧v=.pointer (some ⟨b,0,none⟩)
  | .rp cs=>∃ a,v=.pointer (some a)∧fI S w a cs
  | .ra es=>∃ a sz,v=.pointer (some a)∧fJ S w a sz es
  | .fr _ _=>False
  | .cf f pre post=>∃ us vs:List Value,v=.func (.func f) us.toArray vs.toArray∧aD (fu m S w) us pre∧aD (fu m S w) vs post
  | .mp id=>∃ b,m id=some (b,1)∧v=.map (some b)
def RW (m:Mp) (S:aT) (w:World) (v:Value):W→Prop
  | .c (.d (.agg cs))=>∃ us:List Value,v=.agg us.toArray∧aD (Reads S w) us cs
  | .c x=>RC m S w v x
  | .mix cs=>∃ us:List Value,v=.agg us.toArray∧aD (RC m S w) us cs
def RV (m:Mp) (S:aT) (w:World) (v:Value):V→Prop
  | .w x=>RW m S w v x
  | .tup ws=>∃ us:List Value,v=.tuple us.toArray∧aD (RW m S w) us ws
  | .undef=>True
theorem aD.length {α β:Type} {R:α→β→Prop} {l:List α} {m:List β} (h:aD R l m):l.length=m.length:=by
  induction h with
  | nil=>rfl
  | cons _ _ ih=>simp[ih]
theorem aD.weak {α β:Type} {R R':α→β→Prop} {l:List α} {m:List β} (h:aD R l m) (k:∀ a b,a∈l→b∈m→R a b→R' a b):aD R' l m:=by
  induction h with
  | nil=>exact .nil
  | cons h _ ih=>exact .cons (k _ _ (by simp) (by simp) h) (ih fun a b ha hb=>k a b (by simp[ha]) (by simp[hb]))
theorem aD.get {α β:Type} {R:α→β→Prop} {l:List α} {m:List β} (h:aD R l m):∀ i (h1:i<l.length) (h2:i<m.length),R l[i] m[i]:=by
  induction h with
  | nil=>intro i h1; simp at h1
  | cons h _ ih =>
    grind
theorem aD.mk {α β:Type} {R:α→β→Prop}:∀ {l:List α} {m:List β},l.length=m.length→(∀ i (h1:i<l.length) (h2:i<m.length),R l[i] m[i])→aD R l m
  | [],[],_,_=>.nil
  | [],_::_,h,_=>by simp at h
  | _::_,[],h,_=>by simp at h
  | a::l,b::m,h,k=>.cons (k 0 (by simp) (by simp)) (aD.mk (by simpa using h) fun i h1 h2=>k (i+1) (by simpa using h1) (by simpa using h2))
theorem aD.append {α β:Type} {R:α→β→Prop} {l l':List α} {m m':List β} (h:aD R l m) (k:aD R l' m'):aD R (l++l') (m++m'):=by
  induction h with
  | nil=>exact k
  | cons h _ ih=>exact .cons h ih
theorem aD.get? {α β:Type} {R:α→β→Prop} {l:List α} {m:List β} (h:aD R l m) {i:Nat} {y:β} (hy:m[i]?=some y):∃ x,l[i]?=some x∧R x y:=by
  obtain⟨h2,rfl⟩:=List.getElem?_eq_some_iff.1 hy;have h1:i<l.length:=by rw[h.length]; exact h2
  exact⟨l[i],List.getElem?_eq_getElem h1,h.get i h1 h2⟩
theorem aD.take {α β:Type} {R:α→β→Prop} {l:List α} {m:List β} (h:aD R l m) (n:Nat):aD R (l.take n) (m.take n):=by
  have hl:=h.length;refine .mk (by simp[hl]) fun i h1 h2=>?_
  simp only[List.getElem_take];exact h.get i (by simp at h1; omega) (by simp at h2; omega)
theorem aD.drop {α β:Type} {R:α→β→Prop} {l:List α} {m:List β} (h:aD R l m) (n:Nat):aD R (l.drop n) (m.drop n):=by
  have hl:=h.length;refine .mk (by simp[hl]) fun i h1 h2=>?_
  simp only[List.getElem_drop];exact h.get _ (by simp at h1; omega) (by simp at h2; omega)
theorem Reads.map_inv {S:aT} {w:World} {v:Value} {q:IntKind} {es:List (Int×D)} (h:Reads S w v (.mp q es)):(v=.map none∧es=[]) ∨
    ∃ b E c,v=.map (some b)∧S b 0∧w.heap[b]?=some (.map E c)∧jQ E c∧aD (fun (e:MapEntry) (p:Int×D)=>e.key=.int q p.1∧Reads S w e.val p.2) E.toList es:=by
  cases h with
  | mpN=>exact .inl ⟨rfl,rfl⟩
  | mp b q E c es u hS hb hB hl hk hr=>grind [aD.mk]
theorem Reads.of_map {S:aT} {w:World} {q:IntKind} {es:List (Int×D)} {b c:Nat} {E:Array MapEntry} (hS:S b 0) (hb:w.heap[b]?=some (.map E c)) (hB:jQ E c) (h:aD (fun (e:MapEntry) (p:Int×D)=>e.key=.int q p.1∧Reads S w e.val p.2) E.toList es):Reads S w (.map (some b)) (.mp q es) :=
  .mp b q E c es (fun j=>((E.toList[j]?).map (·.val)).getD (.bool false)) hS hb hB h.length (fun j h1 h2=>⟨(h.get j h1 h2).1,by rw[List.getElem?_eq_getElem h1]; rfl⟩) fun j h2=>by
    have h1:j<E.toList.length:=by rw[h.length]; exact h2
    rw[List.getElem?_eq_getElem h1];exact (h.get j h1 h2).2
theorem cO.keep {m:Mp} {S:aT} {w w':World} {v:Value} {id sz off n:Nat} (h:cO m w v id sz off n) (k:bR S w w'):cO m w' v id sz off n:=by
  unfold cO at *
  split at h
  ·exact h
  ·obtain⟨h0,a,cap,ty,N,h1,h2,h3,h4,h5,h6⟩:=h;exact⟨h0,a,cap,ty,N,h1,h2,h3,h4,k.shape _ _ h5,h6⟩
theorem fu.keep {m:Mp} {S:aT} {w w':World} {v:Value} {x:Cp} (h:fu m S w v x) (k:bR S w w'):fu m S w' v x:=by
  cases x
  ·exact Reads.keep h k
  ·exact h
theorem fu.mono {m:Mp} {S S':aT} {w:World} {v:Value} {x:Cp} (h:fu m S w v x) (k:∀ b i,S b i→S' b i):fu m S' w v x:=by
  cases x
  ·exact Reads.mono h k
  ·exact h
theorem RC.keep {m:Mp} {S:aT} {w w':World} {v:Value} {x:C} (h:RC m S w v x) (k:bR S w w'):RC m S w' v x:=by
  cases x <;> simp only[RC] at *
  ·exact h.keep k
  ·exact h
  ·exact h.keep k
  ·exact h
  ·exact h
  ·obtain⟨a,h1,h2⟩:=h; exact⟨a,h1,h2.keep k⟩
  ·obtain⟨a,sz,h1,h2⟩:=h; exact⟨a,sz,h1,h2.keep k⟩
  ·obtain⟨us,vs,h1,h2,h3⟩:=h; exact⟨us,vs,h1,h2.weak fun _ _ _ _ h=>h.keep k,h3.weak fun _ _ _ _ h=>h.keep k⟩
  ·exact h
theorem RC.mono {m:Mp} {S S':aT} {w:World} {v:Value} {x:C} (h:RC m S w v x) (k:∀ b i,S b i→S' b i):RC m S' w v x:=by
  cases x <;> simp only[RC] at *
  ·exact h.mono k
  ·exact h
  ·exact h
  ·exact h
  ·exact h
  ·obtain⟨a,h1,h2⟩:=h; exact⟨a,h1,h2.mono k⟩
  ·obtain⟨a,sz,h1,h2⟩:=h; exact⟨a,sz,h1,h2.mono k⟩
  ·obtain⟨us,vs,h1,h2,h3⟩:=h; exact⟨us,vs,h1,h2.weak fun _ _ _ _ h=>h.mono k,h3.weak fun _ _ _ _ h=>h.mono k⟩
  ·exact h
theorem RW.keep {m:Mp} {S:aT} {w w':World} (k:bR S w w') {x:W} {v:Value} (h:RW m S w v x):RW m S w' v x:=by
  unfold RW at *
  split at h
  ·obtain⟨us,h1,h2⟩:=h;exact⟨us,h1,h2.weak fun _ _ _ _ h=>h.keep k⟩
  ·exact RC.keep h k
  ·obtain⟨us,h1,h2⟩:=h;exact⟨us,h1,h2.weak fun _ _ _ _ h=>h.keep k⟩
theorem RW.mono {m:Mp} {S S':aT} {w:World} (k:∀ b i,S b i→S' b i) {x:W} {v:Value} (h:RW m S w v x):RW m S' w v x:=by
  unfold RW at *
  split at h
  ·obtain⟨us,h1,h2⟩:=h;exact⟨us,h1,h2.weak fun _ _ _ _ h=>h.mono k⟩
  ·exact RC.mono h k
  ·obtain⟨us,h1,h2⟩:=h;exact⟨us,h1,h2.weak fun _ _ _ _ h=>h.mono k⟩
theorem RV.keep {m:Mp} {S:aT} {w w':World} (k:bR S w w') {x:V} {v:Value} (h:RV m S w v x):RV m S w' v x:=by
  cases x with
  | w x=>exact RW.keep k h
  | tup ws=>obtain⟨us,h1,h2⟩:=h; exact⟨us,h1,h2.weak fun _ _ _ _ h=>h.keep k⟩
  | undef=>trivial
theorem RV.mono {m:Mp} {S S':aT} {w:World} (k:∀ b i,S b i→S' b i) {x:V} {v:Value} (h:RV m S w v x):RV m S' w v x:=by
  cases x with
  | w x=>exact RW.mono k h
  | tup ws=>obtain⟨us,h1,h2⟩:=h; exact⟨us,h1,h2.weak fun _ _ _ _ h=>h.mono k⟩
  | undef=>trivial
def bE {α β:Type} (f:α→Option β):List α→Option (List β)
  | []=>some []
  | x::r=>match f x,bE f r with | some y,some l=>some (y::l) | _,_=>none
def upd {α:Type} (f:Nat→α) (i:Nat) (x:α):Nat→α:=fun j=>if j=i then x else f j
def bY {α:Type} (f:Nat→α) (i:Option Nat) (x:α):Nat→α:=match i with | some i=>upd f i x | none=>f
theorem upd_same {α:Type} (f:Nat→α) (i:Nat) (x:α):upd f i x i=x:=by simp[upd]
theorem upd_ne {α:Type} (f:Nat→α) {i j:Nat} (x:α) (h:j≠i):upd f i x j=f j:=by simp[upd,h]
inductive SX where
  | t (n:Nat)
  | k (v:W)
  | g (n:Nat)
  | u
deriving Inhabited
inductive Kd where
  | sc
  | ag (n:Nat)
deriving Inhabited,DecidableEq
def Kd.size:Kd→Nat | .sc=>1 | .ag n=>n
inductive Bx where
  | ownBox | ownArr | roBox | roArr
deriving Inhabited,DecidableEq
inductive bK where
  | mv (x:SX)
  | nilOwn (sz:Nat)
  | pick (c a b:SX)
  | alloc (cs:List C)
  | allocArr (es:List D)
  | box (m:Bx) (x:SX)
  | build (z:List C) (ps:List (Nat×Nat×SX))
  | bldSl (own:Bool) (n sz:Nat) (z:D) (ps:List (Nat×SX))
  | bldFz (n sz:Nat) (z:D) (ps:List (Nat×SX))
  | buildF (z:List C) (ps:List (Nat×Nat×SX))
  | load (kd:Kd) (x:SX)
  | loadB (kd:Kd) (x:SX)
  | loadX (kd:Kd) (x:SX) (ex:List SX)
  | store (kd:Kd) (x y:SX)
  | storeX (kd:Kd) (x y b:SX)
  | bin (op:BinOp) (x y:SX)
  | eqB (neg:Bool) (x y:SX)
  | eqA (neg:Bool) (ks:List Nat) (x y:SX)
  | un (op:UnOp) (x:SX)
  | conv (k:IntKind) (x:SX)
  | b2s (x:SX)
  | s2b (own:Bool) (x:SX)
  | make (own:Bool) (sz byt:Nat) (z:D) (l c:SX)
  | slice (sz:Nat) (x:SX) (lo hi mx:Option SX)
  | sliceStr (x:SX) (lo hi:Option SX)
  | sliceArr (sz n:Nat) (x:SX) (lo hi:Option SX)
  | fieldAddr (off:Nat) (x:SX)
  | field (off:Nat) (kd:Kd) (x:SX)
  | idxSl (sz:Nat) (x i:SX)
  | idxPa (sz n:Nat) (x i:SX)
  | idxArr (sz n:Nat) (kd:Kd) (x i:SX)
  | idxStr (x i:SX)
  | extract (x:SX) (i:Nat)
  | len (x:SX)
  | lenStr (x:SX)
  | lenArr (n:Nat)
  | app (str:Bool) (sz byt:Nat) (x y:SX)
  | appN (str:Bool) (sz byt:Nat) (x y:SX)
  | copy (sz:Nat) (x y:SX)
  | min (xs:List SX)
  | max (xs:List SX)
  | mark (x:SX)
  | frz (x:SX)
  | markF (x:SX)
  | clos (f:Nat) (xs:List SX)
  | call (f:FuncId) (xs:List SX) (own:Option (Nat×Nat))
  | closM (f:Nat) (xs ys:List SX)
  | callM (f:FuncId) (xs:List SX)
  | nilChk (x:SX)
  | mkMp (q:IntKind) (r:Option SX)
  | mpGet (q:IntKind) (z:D) (co:Bool) (x i:SX)
  | mpSet (q:IntKind) (x i y:SX)
  | mpIter (x:SX)
  | mpEnt (x:SX)
deriving Inhabited
def vd (x:D):V:=.w (.c (.d x))
def fV:V→Option (IntKind×Int) | .w (.c (.d (.int k n)))=>some (k,n) | _=>none
def bL {α:Type} (es:List (Int×α)) (x:Int):Option α:=(es.find? fun p=>p.1==x).map (·.2)
def dD {α:Type}:List (Int×α)→Int→α→List (Int×α)
  | [],x,v=>[(x,v)]
  | (y,u)::r,x,v=>if y=x then (x,v)::r else (y,u)::dD r x v
def wJ:V→Option Nat | .w (.c (.mp id))=>some id | _=>none
def v6:V→Option (IntKind×List (Int×D)) | .w (.c (.d (.mp q es)))=>some (q,es) | _=>none
def DK:Option Ob→Option V | some (.it q _ (some p))=>some (.tup [.c (.d (.int q p.1)),.c (.d p.2)]) | _=>none
def sw (h:aI):V→Option V | .w (.c (.ptr id _ 0 0))=>DK (h id) | _=>none
def wK:V→Option C | .w (.c x)=>some x | _=>none
def tQ (ρ:SX→V):Option SX→Bool | none=>true | some r=>(fV (ρ r)).isSome
def zC:D→C | .sl []=>.nil | d=>.d d
def nA (co:Bool) (x:Option C) (z:C):V:=if co then .tup [.c (x.getD z),.c (.d (.bool x.isSome))] else .w (.c (x.getD z))
def kJ (h:aI) (q:IntKind) (z:D) (co:Bool):V→Option (IntKind×Int)→Option V
  | .w (.c (.mp id)),some (k,n)=>match h id with
    | some (.mp q' es)=>if k=q∧q'=q then some (nA co (bL es n) (zC z)) else none
    | _=>none
  | .w (.c (.d (.mp q' es))),some (k,n)=>if k=q∧q'=q then some (nA co ((bL es n).map C.d) (.d z)) else none
  | _,_=>none
def wM (h:aI) (q:IntKind):Option Nat→Option (IntKind×Int)→Option C→Option aI
  | some id,some (k,n),some d=>match h id with
    | some (.mp q' es)=>if k=q∧q'=q then some (upd h id (some (.mp q (dD es n d)))) else none
    | _=>none
  | _,_,_=>none
def eD:V→Option Bool | .w (.c (.d (.bool b)))=>some b | _=>none
def j9:V→Option W | .w x=>some x | _=>none
def dX:W→List C
  | .c (.d (.agg cs))=>cs.map C.d
  | .c x=>[x]
  | .mix cs=>cs
def zr:W→Option (List C)
  | .c (.d (.agg cs))=>some (cs.map C.d)
  | .mix cs=>some cs
  | _=>none
def iZ:V→Option (List C) | .w x=>zr x | _=>none
def re:Nat→C→C→Option Bool
  | 0,.d (.int k a),.d (.int k' b)=>if k=k' then some (a==b) else none
  | 1,.d (.bool a),.d (.bool b)=>some (a==b)
  | 2,.d (.str a),.d (.str b)=>some (a.toList==b.toList)
  | _,_,_=>none
theorem am3 (k:IntKind) (a b:Int):re 0 (.d (.int k a)) (.d (.int k b))=some (if a=b then true else false):=by
  show (if k=k then some (a==b) else none)=_
  rw[if_pos rfl];by_cases h:a=b <;> simp[h]
theorem am4 (a b:Bool):re 1 (.d (.bool a)) (.d (.bool b))=some (a==b):=rfl
theorem am5 (a b:ByteArray):re 2 (.d (.str a)) (.d (.str b))=some (a.toList==b.toList):=rfl
def KB:Option Bool→Option Bool→Option Bool | some p,some q=>some (p&&q) | _,_=>none
def om:List Nat→List C→List C→Option Bool
  | [],[],[]=>some true
  | k::ks,a::r,b::s=>KB (re k a b) (om ks r s)
  | _,_,_=>none
def DL (neg:Bool):Option Bool→Option D | some r=>some (.bool (if neg then !r else r)) | none=>none
def KC (neg:Bool) (ks:List Nat):Option (List C)→Option (List C)→Option D | some a,some b=>DL neg (om ks a b) | _,_=>none
def zR (neg:Bool) (ks:List Nat) (x y:V):Option D:=KC neg ks (iZ x) (iZ y)
theorem acx (p q:Bool):KB (some p) (some q)=some (p&&q):=rfl
theorem ahb:om [] [] []=some true:=rfl
theorem Rq (k:Nat) (ks:List Nat) (a b:C) (r s:List C):om (k::ks) (a::r) (b::s)=KB (re k a b) (om ks r s):=rfl
theorem Rr (neg:Bool) (ks:List Nat) (x y:V):zR neg ks x y=KC neg ks (iZ x) (iZ y):=rfl
theorem O7 (neg:Bool) (ks:List Nat) (a b:List C):KC neg ks (some a) (some b)=DL neg (om ks a b):=rfl
theorem ahc (r:Bool):DL true (some r)=some (.bool (!r)):=rfl
theorem ahd (r:Bool):DL false (some r)=some (.bool r):=rfl
theorem ahe {neg:Bool} {ks:List Nat} {x y:V} {d:D} (h:zR neg ks x y=some d):∃ cs ds b,iZ x=some cs∧iZ y=some ds∧om ks cs ds=some b∧d=.bool (if neg then !b else b):=by
  rw[Rr] at h;cases hx:iZ x with
  | none=>rw[hx] at h; cases h
  | some cs =>
    cases hy:iZ y with
    | none=>rw[hx,hy] at h; cases h
    | some ds =>
      rw[hx,hy,O7] at h;cases hc:om ks cs ds with
      | none=>rw[hc] at h; cases h
      | some b =>
        rw[hc] at h;cases h;exact⟨cs,ds,b,rfl,rfl,hc,rfl⟩
def jX:List C→Option (List D)
  | []=>some []
  | .d x::r=>(jX r).map (x::·)
  | _::_=>none
def gY:List C→Option (List D)
  | []=>some []
  | .d x::r=>(gY r).map (x::·)
  | .nil::r=>(gY r).map (.sl []::·)
  | _::_=>none
def jC (cs:List C):W:=match jX cs with | some ds=>.c (.d (.agg ds)) | none=>.mix cs
def my:W→Option D
  | .c (.d x)=>some x
  | .c .nil=>some (.sl [])
  | .mix cs=>(gY cs).map .agg
  | _=>none
def CW:V→Option D | .w x=>my x | _=>none
def fZ (o:Ob) (off n:Nat):Option (List D) :=
  match o with
  | .row _ es=>if off+n≤es.length then some ((es.drop off).take n) else none
  | .box cs=>if off+n≤cs.length then jX ((cs.drop off).take n) else none
  | _=>none
def Ob.sz:Ob→Nat | .row sz _=>sz | _=>1
def gm (h:aI):C→Option D
  | .d x=>some x
  | .nil=>some (.sl [])
  | .own id _ off n=>match h id with | some o=>(fZ o off n).map .sl | none=>none
  | _=>none
def ma (h:aI):List C→Option (List D)
  | []=>some []
  | c::r=>match gm h c,ma h r with | some x,some l=>some (x::l) | _,_=>none
def toW (h:aI):W→Option D
  | .c x=>gm h x
  | .mix cs=>(ma h cs).map .agg
def pF (h:aI) (id i o:Nat):Option D:=match h id with
  | some (.box cs)=>if i=0∧o=0 then (gY cs).map .ref else none
  | _=>none
def mb (h:aI):List Cp→Option (List D)
  | []=>some []
  | .d x::r=>(mb h r).map (x::·)
  | .p id _ i o::r=>match pF h id i o,mb h r with | some x,some l=>some (x::l) | _,_=>none
def jc (h:aI):C→Option D
  | .d x=>some x
  | .nil=>some (.sl [])
  | .own id sz off n=>gm h (.own id sz off n)
  | .ptr id _ i o=>pF h id i o
  | .cf g pre post=>if pre.isEmpty=true then (mb h post).map (.fn g) else none
  | .pa ..=>none
  | .rp _=>none
  | .ra _=>none
  | .fr ..=>none
  | .mp _=>none
def js (h:aI):V→Option D
  | .w (.c x)=>jc h x
  | .w (.mix cs)=>(ma h cs).map .agg
  | _=>none
def fK (h:aI):List V→Option (List D)
  | []=>some []
  | v::r=>match js h v,fK h r with | some x,some l=>some (x::l) | _,_=>none
def killAll (h:aI):List C→aI
  | []=>h
  | .own id ..::r=>upd (killAll h r) id none
  | _::r=>killAll h r
def kK (h:aI):V→V
  | .w (.c (.own id _ off n))=>match h id with
    | some o=>match fZ o off n with | some es=>.w (.c (.d (.sl es))) | none=>.undef
    | none=>.undef
  | .w (.c .nil)=>.w (.c (.d (.sl [])))
  | .w (.mix cs)=>match ma h cs with | some ds=>.w (.c (.d (.agg ds))) | none=>.undef
  | v=>v
def qu:V→List C | .w y=>dX y | _=>[]
def Cp.isP:Cp→Bool | .p ..=>true | .d _=>false
def C.isOwn:C→Bool | .own ..=>true | .ptr ..=>true | .cf _ _ post=>post.any Cp.isP | _=>false
def V.hasOwn:V→Bool
  | .w (.c x)=>x.isOwn
  | .w (.mix cs)=>cs.any C.isOwn
  | _=>false
def D.flat:D→Bool | .int .. | .bool _ | .str _=>true | .sl _=>false | .agg cs=>cs.all (fun | .int .. | .bool _ | .str _=>true | _=>false) | .ref _=>false | .fn ..=>false | .mp ..=>false
def C.flat:C→Bool | .d x=>x.flat | .fr _ es=>es.all D.flat | _=>false
def W.flat:W→Bool | .c x=>x.flat | .mix cs=>cs.all C.flat
def V.flat:V→Bool | .w x=>x.flat | .tup ws=>ws.all W.flat | .undef=>false
def D.isU8:D→Bool | .int .u8 _=>true | _=>false
def D.byt1:D→Bool | .int .. | .bool _ | .str _=>true | .sl es=>es.all D.isU8 | _=>false
def C.byt:C→Bool | .d x=>x.byt1 | .fr _ es=>es.all (fun e=>e.cells.all D.byt1) | _=>false
def W.byt:W→Bool | .c (.d (.agg cs))=>cs.all D.byt1 | .c x=>x.byt | .mix cs=>cs.all C.byt
def V.byt:V→Bool | .w x=>x.byt | .tup ws=>ws.all W.byt | .undef=>false
def V.own1:V→Bool | .w (.c (.own ..))=>true | _=>false
def D.noU8:D→Bool | .sl es=>es.all (fun e=>e.cells.all fun x=>!x.isU8) | _=>false
def v7:List V→List D→Bool
  | v::vs,d::ds=>(!v.hasOwn || (v.own1&&d.noU8))&&v7 vs ds
  | _,_=>true
def qz (h:aI) (vs:List V) (res:V):Prop:=vs.any V.hasOwn=true→res.flat=true∨(res.byt=true∧∃ ds,fK h vs=some ds∧v7 vs ds=true)
def eO {α:Type} (l:List α) (off:Nat) (cs:List α):List α:=l.take off++cs++l.drop (off+cs.length)
def eZ (sz:Nat) (es:List D):Bool:=es.all fun e=>e.cells.length==sz
abbrev R:=V×aI×(Nat→Bool)
section
variable (ρ:SX→V) (h:aI) (u:Nat→Bool) (dst:Nat)
def eU (o:Ob) (v:C):Option R:=if u (8*dst) then none else some (.w (.c v),upd h (8*dst) (some o),upd u (8*dst) true)
def fc (h:aI) (kd:Kd):V→Option W
  | .w (.c (.ptr id _ i o)) =>
    match h id with
    | some (.box cs)=>match kd with
      | .sc=>(cs[i+o]?).map .c
      | .ag n=>if i+o+n≤cs.length then some (jC ((cs.drop (i+o)).take n)) else none
    | some (.row _ es)=>match es[i]? with
      | some e=>match kd with
        | .sc=>(e.cells[o]?).map fun x=>.c (.d x)
        | .ag n=>if o+n≤e.cells.length then some (.c (.d (.agg ((e.cells.drop o).take n)))) else none
      | none=>none
    | _=>none
  | .w (.c (.pa id _)) =>
    match h id with
    | some (.row sz es)=>if sz=1∧kd=.ag es.length then some (.c (.d (.agg (es.flatMap D.cells)))) else none
    | _=>none
  | .w (.c (.rp cs))=>match kd with
    | .sc=>(cs[0]?).map fun x=>.c (.d x)
    | .ag n=>if n≤cs.length then some (.c (.d (.agg (cs.take n)))) else none
  | .w (.c (.ra es))=>if eZ 1 es=true∧kd=.ag es.length then some (.c (.d (.agg (es.flatMap D.cells)))) else none
  | .w (.c (.d (.ref cs)))=>match kd with
    | .sc=>(cs[0]?).map fun x=>.c (.d x)
    | .ag n=>if n≤cs.length then some (.c (.d (.agg (cs.take n)))) else none
  | _=>none
def jF (h:aI) (kd:Kd):V→Option W
  | .w (.c (.ptr id _ i o)) =>
    match h id with
    | some (.box cs)=>match kd with
      | .sc=>(cs[i+o]?).map .c
      | .ag n=>if i+o+n≤cs.length then some (jC ((cs.drop (i+o)).take n)) else none
    | _=>none
  | .w (.c (.rp cs))=>match kd with
    | .sc=>(cs[0]?).map fun x=>.c (.d x)
    | .ag n=>if n≤cs.length then some (.c (.d (.agg (cs.take n)))) else none
  | .w (.c (.ra es))=>if eZ 1 es=true∧kd=.ag es.length then some (.c (.d (.agg (es.flatMap D.cells)))) else none
  | .w (.c (.d (.ref cs)))=>match kd with
    | .sc=>(cs[0]?).map fun x=>.c (.d x)
    | .ag n=>if n≤cs.length then some (.c (.d (.agg (cs.take n)))) else none
  | _=>none
def Cp.ids:Cp→List Nat
  | .d _=>[]
  | .p id ..=>[id]
def C.ids:C→List Nat
  | .own id ..=>[id]
  | .ptr id ..=>[id]
  | .pa id ..=>[id]
  | .cf _ pre post=>pre.flatMap Cp.ids++post.flatMap Cp.ids
  | .mp id=>[id]
  | _=>[]
def W.ids:W→List Nat
  | .c x=>x.ids
  | .mix cs=>cs.flatMap C.ids
def V.ids:V→List Nat
  | .w x=>x.ids
  | .tup ws=>ws.flatMap W.ids
  | .undef=>[]
def xg (b x:V):Bool:=x.ids.all fun i=>b.ids.contains i
def qM (l:List V) (x:V):Bool:=if l.isEmpty then x.ids.isEmpty else l.all fun y=>x.ids.all fun i=>!y.ids.contains i
def mG:V→Bool | .undef=>true | _=>false
def fe:Option Ob→Bool | some (.box _)=>true | _=>false
def t7 (h:aI):V→Bool | .w (.c (.ptr id ..))=>fe (h id) | _=>false
def iy (h:aI) (kd:Kd) (l:List V) (x:V):Option W:=if (qM l x&&(!l.any mG || t7 h x))=true then fc h kd x else none
theorem yj {h:aI} {kd:Kd} {l:List V} {v:V} {y:W} (e:iy h kd l v=some y):(qM l v&&(!l.any mG || t7 h v))=true∧fc h kd v=some y:=by
  unfold iy at e;split at e
  ·rename_i hd; exact⟨hd,e⟩
  ·cases e
theorem H1 {h:aI} {kd:Kd} {l:List V} {v:V} {y:W} (e:iy h kd l v=some y):qM l v=true∧fc h kd v=some y:=by
  obtain⟨h1,h2⟩:=yj e;rw[aqm] at h1;exact⟨h1.1,h2⟩
theorem ahf {h:aI} {kd:Kd} {l:List V} {v:V} {y:W} (e:iy h kd l v=some y) (hu:l.any mG=true):∀ id∈v.ids,fe (h id)=true:=by
  obtain⟨h1,h2⟩:=yj e;rw[aqm,hu] at h1;have h3:t7 h v=true:=h1.2;intro id hid;cases v with
  | w x=>cases x with
    | c c=>cases c with
      | ptr j _ _ _ =>
        have:id=j:=by simpa [V.ids,W.ids,C.ids] using hid
        rw[this]; exact h3
      | _=>cases h3
    | mix cs=>cases h3
  | _=>cases h3
theorem EZ {h h2:aI} {v:V} (e:∀ id∈v.ids,h2 id=h id):t7 h2 v=t7 h v:=by
  cases v with
  | w x=>cases x with
    | c c=>cases c with
      | ptr j _ _ _ =>
        have:=e j (by simp[V.ids,W.ids,C.ids])
        show fe (h2 j)=fe (h j)
        rw[this]
      | _=>rfl
    | mix cs=>rfl
  | _=>rfl
theorem Me {l:List V} {x:V} (h:qM l x=true):(l=[]→x.ids=[])∧∀ y∈l,∀ i∈x.ids,i∉y.ids:=by
  unfold qM at h;cases l with
  | nil=>exact⟨fun _=>List.isEmpty_iff.1 h,fun y hy=>by cases hy⟩
  | cons a l =>
    refine⟨fun e=>(by cases e),fun y hy i hi hc=>?_⟩;have:=ap9.1 (ap9.1 h y hy) i hi;simp[hc] at this
theorem ahg {h:aI} {kd:Kd} {v:V} {y:W} (e:jF h kd v=some y):fc h kd v=some y:=by
  unfold jF at e;split at e
  ·split at e
   ·rename_i id _ i o cs hid;simp only[fc,hid];exact e
   ·cases e
  ·exact e
  ·exact e
  ·exact e
  ·cases e
def pG:V→Option D
  | .w (.c (.rp cs))=>some (.ref cs)
  | .w (.c (.d x))=>match x with | .agg _=>none | x=>some x
  | _=>none
def im:List V→Option (List D)
  | []=>some []
  | v::r=>match pG v,im r with | some x,some l=>some (x::l) | _,_=>none
def wN:V→Option Cp
  | .w (.c (.ptr id sz i o))=>some (.p id sz i o)
  | v=>(pG v).map .d
def fa:List V→Option (List Cp)
  | []=>some []
  | v::r=>match wN v,fa r with | some x,some l=>some (x::l) | _,_=>none
def Cp.w:Cp→W | .d x=>.c (.d x) | .p id sz i o=>.c (.ptr id sz i o)
def oe:V→Bool
  | .w (.c (.ptr ..))=>true
  | .w (.c (.pa ..))=>true
  | .w (.c (.rp _))=>true
  | .w (.c (.ra _))=>true
  | .w (.c (.d (.ref _)))=>true
  | .w (.c (.d (.fn ..)))=>true
  | .w (.c (.cf ..))=>true
  | _=>false
def oA (kd:Kd) (y:W) (i o:Nat):Ob→Option Ob
  | .box cs=>if (dX y).length=kd.size∧i+o+kd.size≤cs.length then some (.box (eO cs (i+o) (dX y))) else none
  | .row sz es=>match es[i]?,my y with
    | some e,some x=>match e with
      | .agg ds=>if x.cells.length=kd.size∧o+kd.size≤ds.length then some (.row sz (es.set i (.agg (eO ds o x.cells)))) else none
      | _=>if kd=.sc∧o=0∧x.one=true then some (.row sz (es.set i x)) else none
    | _,_=>none
  | _=>none
def aa (h:aI) (kd:Kd) (x:V) (y:W):Option aI :=
  match x with
  | .w (.c (.ptr id _ i o))=>match h id with
    | some ob=>(oA kd y i o ob).map fun o'=>upd h id (some o')
    | none=>none
  | .w (.c (.pa id _))=>match h id,y with
    | some (.row sz es),.c (.d (.agg cs))=>if sz=1∧kd=.ag es.length∧cs.length=es.length then some (upd h id (some (.row sz cs))) else none
    | _,_=>none
  | _=>none
def cS (op:BinOp) (k:IntKind) (a:Int) (k':IntKind) (b:Int):Option D :=
  match op with
  | .shl=>if 0≤b then some (.int k (k.wrap (a*2^min b.toNat k.bits))) else none
  | .shr=>if 0≤b then some (.int k (a / 2^min b.toNat k.bits)) else none
  | _=>if k≠k' then none else match op with
    | .add=>some (.int k (k.wrap (a+b)))
    | .sub=>some (.int k (k.wrap (a-b)))
    | .mul=>some (.int k (k.wrap (a*b)))
    | .quo=>if b≠0 then some (.int k (k.wrap (a.tdiv b))) else none
    | .rem=>if b≠0 then some (.int k (a.tmod b)) else none
    | .and | .or | .xor | .andNot=>some (.int k (bits op k a b))
    | .eql=>some (.bool (a==b))
    | .neq=>some (.bool (a != b))
    | .lss=>some (.bool (a<b))
    | .leq=>some (.bool (a≤b))
    | .gtr=>some (.bool (a>b))
    | .geq=>some (.bool (a≥b))
    | _=>none
def pH (op:BinOp) (a b:ByteArray):Option D :=
  let eq:=a.toList==b.toList
  let lt:=Op.bytesLess a.toList b.toList
  match op with
  | .add=>if a.size+b.size≤9223372036854775807 then some (.str (a++b)) else none
  | .eql=>some (.bool eq)
  | .neq=>some (.bool !eq)
  | .lss=>some (.bool lt)
  | .leq=>some (.bool (lt || eq))
  | .gtr=>some (.bool !(lt || eq))
  | .geq=>some (.bool !lt)
  | _=>none
def db (op:BinOp):V→V→Option D
  | .w (.c (.d (.int k a))),.w (.c (.d (.int k' b)))=>cS op k a k' b
  | .w (.c (.d (.str a))),.w (.c (.d (.str b)))=>pH op a b
  | _,_=>none
def pS (op:UnOp):V→Option D
  | .w (.c (.d (.int k n)))=>match op with
    | .neg=>some (.int k (k.wrap (0-n)))
    | .xor=>some (.int k (bits .xor k (if k.signed then -1 else k.max) n))
    | _=>none
  | .w (.c (.d (.bool b)))=>match op with | .not=>some (.bool !b) | _=>none
  | _=>none
def bD (x:UInt8):D:=.int .u8 (x.toNat:Int)
def K7:D→Option UInt8 | .int .u8 n=>if 0≤n∧n<256 then some (UInt8.ofNat n.toNat) else none | _=>none
def sA:List D→Option (List UInt8)
  | []=>some []
  | x::r=>match K7 x,sA r with | some a,some l=>some (a::l) | _,_=>none
def cg (h:aI):Bool→V→Option (List D)
  | true,.w (.c (.d (.str s)))=>some (s.data.toList.map bD)
  | false,v=>match js h v with | some (.sl ys)=>some ys | _=>none
  | _,_=>none
def bound:Option SX→Nat→Option Nat
  | none,d=>some d
  | some x,_=>match fV (ρ x) with | some (_,n)=>if 0≤n then some n.toNat else none | none=>none
def xh (sz lo hi:Nat):V→Option C
  | .w (.c (.d (.sl es)))=>if lo≤hi∧hi≤es.length∧eZ sz es=true then some (.d (.sl ((es.drop lo).take (hi-lo)))) else none
  | .w (.c .nil)=>if lo=0∧hi=0 then some .nil else none
  | .w (.c (.own id sz' off n))=>if lo≤hi∧hi≤n∧sz'=sz then some (.own id sz (off+lo) (hi-lo)) else none
  | _=>none
def mz:V→Option Nat
  | .w (.c (.d (.sl es)))=>some es.length
  | .w (.c .nil)=>some 0
  | .w (.c (.own _ _ _ n))=>some n
  | _=>none
def xi (off:Nat):V→Option C
  | .w (.c (.ptr id sz i o))=>some (.ptr id sz i (o+off))
  | .w (.c (.rp cs))=>some (.rp (cs.drop off))
  | _=>none
def mP (cs:List C) (off:Nat):Kd→Option W
  | .sc=>(cs[off]?).map .c
  | .ag n=>if off+n≤cs.length then some (jC ((cs.drop off).take n)) else none
def lC (i:SX) (n:Nat):Option Nat:=match fV (ρ i) with | some (_,j)=>if 0≤j∧j<n then some j.toNat else none | none=>none
def parts (ps:List (Nat×Nat×SX)) (cs:List C):Option (List C) :=
  match ps with
  | []=>some cs
  | (off,size,x)::r=>match j9 (ρ x) with
    | some y=>if (dX y).length=size∧off+size≤cs.length then parts r (eO cs off (dX y)) else none
    | none=>none
def elems (sz:Nat) (ps:List (Nat×SX)) (es:List D):Option (List D) :=
  match ps with
  | []=>some es
  | (i,x)::r=>match CW (ρ x) with
    | some e=>if e.cells.length=sz∧i<es.length then elems sz r (es.set i e) else none
    | none=>none
def ints (xs:List SX):Option (IntKind×List Int) :=
  match xs with
  | []=>none
  | [x]=>(fV (ρ x)).map fun (k,n)=>(k,[n])
  | x::r=>match fV (ρ x),ints r with | some (k,n),some (k',l)=>if k=k' then some (k,n::l) else none | _,_=>none
def ef:bK→Option R
  | .mv x=>some (ρ x,h,u)
  | .nilOwn sz=>eU h u dst (.row sz []) (.own (8*dst) sz 0 0)
  | .pick c a b=>(eD (ρ c)).map fun t=>(if t then ρ a else ρ b,h,u)
  | .alloc cs=>eU h u dst (.box cs) (.ptr (8*dst) 1 0 0)
  | .allocArr es=>eU h u dst (.row 1 es) (.pa (8*dst) 1)
  | .box m x=>match j9 (ρ x) with
    | none=>none
    | some y=>match m with
      | .ownBox=>eU h u dst (.box (dX y)) (.ptr (8*dst) 1 0 0)
      | .ownArr=>match y with | .c (.d (.agg cs))=>eU h u dst (.row 1 cs) (.pa (8*dst) 1) | _=>none
      | .roBox=>(gY (dX y)).map fun cs=>(.w (.c (.rp cs)),h,u)
      | .roArr=>match y with | .c (.d (.agg cs))=>some (.w (.c (.ra cs)),h,u) | _=>none
  | .build z ps=>(parts ρ ps z).map fun cs=>(.w (jC cs),h,u)
  | .bldSl own n sz z ps=>match elems ρ sz ps (List.replicate n z) with
    | none=>none
    | some es=>if own then eU h u dst (.row sz es) (.own (8*dst) sz 0 n) else some (if n=0 then .w (.c .nil) else vd (.sl es),h,u)
  | .bldFz n sz z ps=>(elems (fun x=>kK h (ρ x)) sz ps (List.replicate n z)).map fun es=>(vd (.sl es),killAll h (ps.flatMap fun p=>qu (ρ p.2)),u)
  | .buildF z ps=>(parts (fun x=>kK h (ρ x)) ps z).map fun cs=>(.w (jC cs),killAll h (ps.flatMap fun p=>qu (ρ p.2.2)),u)
  | .load kd x=>(fc h kd (ρ x)).map fun w=>(.w w,h,u)
  | .loadB kd x=>(jF h kd (ρ x)).map fun w=>(.w w,h,u)
  | .loadX kd x ex=>(iy h kd (ex.map ρ) (ρ x)).map fun w=>(.w w,h,u)
  | .store kd x y=>match j9 (ρ y) with
    | none=>none
    | some w=>(aa h kd (ρ x) w).map fun h'=>(.undef,h',u)
  | .storeX kd x y b=>match j9 (ρ y) with
    | none=>none
    | some w=>if xg (ρ b) (ρ x)=true then (aa h kd (ρ x) w).map fun h'=>(.undef,h',u) else none
  | .bin op x y=>(db op (ρ x) (ρ y)).map fun d=>(vd d,h,u)
  | .eqB neg x y=>match eD (ρ x),eD (ρ y) with
    | some a,some b=>some (vd (.bool (if neg then !(a==b) else (a==b))),h,u)
    | _,_=>none
  | .eqA neg ks x y=>(zR neg ks (ρ x) (ρ y)).map fun d=>(vd d,h,u)
  | .un op x=>(pS op (ρ x)).map fun d=>(vd d,h,u)
  | .conv k x=>(fV (ρ x)).map fun (_,n)=>(vd (.int k (k.wrap n)),h,u)
  | .b2s x=>match js h (ρ x) with
    | some (.sl es)=>(sA es).map fun l=>(vd (.str ⟨l.toArray⟩),h,u)
    | _=>none
  | .s2b own x=>match ρ x with
    | .w (.c (.d (.str s)))=>if s.size≤maxLen then if own then eU h u dst (.row 1 (s.data.toList.map bD)) (.own (8*dst) 1 0 s.size) else some (vd (.sl (s.data.toList.map bD)),h,u) else none
    | _=>none
  | .make own sz byt z l c=>match fV (ρ l),fV (ρ c) with
    | some (.i64,a),some (.i64,b)=>if 0≤a∧a≤b∧b*byt≤140737488355328∧b≤140737488355328 then (if own then eU h u dst (.row sz (List.replicate a.toNat z)) (.own (8*dst) sz 0 a.toNat) else some (vd (.sl (List.replicate a.toNat z)),h,u)) else none
    | _,_=>none
  | .slice sz x lo hi mx=>match mz (ρ x) with
    | none=>none
    | some n=>match bound ρ lo 0,bound ρ hi n with
      | some l,some k=>match bound ρ mx n with
        | some m=>if k≤m∧m≤n then (xh sz l k (ρ x)).map fun c=>(.w (.c c),h,u) else none
        | none=>none
      | _,_=>none
  | .sliceStr x lo hi=>match ρ x with
    | .w (.c (.d (.str s)))=>match bound ρ lo 0,bound ρ hi s.size with
      | some l,some k=>if l≤k∧k≤s.size then some (vd (.str (s.extract l k)),h,u) else none
      | _,_=>none
    | _=>none
  | .sliceArr sz n x lo hi=>match bound ρ lo 0,bound ρ hi n with
    | some l,some k=>if l≤k∧k≤n then match ρ x with
      | .w (.c (.pa id sz'))=>match h id with
        | some (.row _ es)=>if sz'=sz∧es.length=n then some (.w (.c (.own id sz l (k-l))),h,u) else none
        | _=>none
      | .w (.c (.ra es))=>if es.length=n∧eZ sz es=true then some (vd (.sl ((es.drop l).take (k-l))),h,u) else none
      | .w (.c (.ptr id sz' i o))=>match h id with
        | some (.box cs)=>if sz=1∧sz'=1∧i+o+n≤cs.length then some (.w (.c (.own id 1 (i+o+l) (k-l))),h,u) else none
        | _=>none
      | _=>none
      else none
    | _,_=>none
  | .fieldAddr off x=>(xi off (ρ x)).map fun c=>(.w (.c c),h,u)
  | .field off kd x=>match iZ (ρ x) with
    | some cs=>(mP cs off kd).map fun w=>(.w w,h,u)
    | none=>none
  | .idxSl sz x i=>match ρ x with
    | .w (.c (.d (.sl es)))=>match lC ρ i es.length with
      | some j=>match es[j]? with
        | some e=>if e.cells.length=sz then some (.w (.c (.rp e.cells)),h,u) else none
        | none=>none
      | none=>none
    | .w (.c (.own id sz' off n))=>match lC ρ i n with
      | some j=>if sz'=sz then some (.w (.c (.ptr id sz (off+j) 0)),h,u) else none
      | none=>none
    | _=>none
  | .idxPa sz n x i=>match lC ρ i n with
    | none=>none
    | some j=>match ρ x with
      | .w (.c (.pa id sz'))=>if sz'=sz then some (.w (.c (.ptr id sz j 0)),h,u) else none
      | .w (.c (.ra es))=>match es[j]? with | some e=>if e.cells.length=sz∧es.length=n then some (.w (.c (.rp e.cells)),h,u) else none | none=>none
      | .w (.c (.ptr id sz' i o))=>some (.w (.c (.ptr id sz' i (o+j*sz))),h,u)
      | .w (.c (.rp cs))=>some (.w (.c (.rp ((cs.drop (j*sz)).take sz))),h,u)
      | _=>none
  | .idxArr sz n kd x i=>match iZ (ρ x),lC ρ i n with
    | some cs,some j=>(mP cs (j*sz) kd).map fun w=>(.w w,h,u)
    | _,_=>none
  | .idxStr x i=>match ρ x with
    | .w (.c (.d (.str s)))=>match lC ρ i s.size with
      | some j=>(s.data.toList[j]?).map fun b=>(vd (bD b),h,u)
      | none=>none
    | _=>none
  | .extract x i=>match ρ x with
    | .tup ws=>(ws[i]?).map fun w=>(.w w,h,u)
    | _=>none
  | .len x=>(mz (ρ x)).map fun (n:Nat)=>(vd (.int .i64 (n:Int)),h,u)
  | .lenStr x=>match ρ x with
    | .w (.c (.d (.str s)))=>some (vd (.int .i64 s.size),h,u)
    | _=>none
  | .lenArr n=>some (vd (.int .i64 n),h,u)
  | .app str sz byt x y=>match cg h str (ρ y) with
    | none=>none
    | some ys=>if eZ sz ys=true then match ρ x with
      | .w (.c .nil)=>if ys.length*byt≤140737488355328∧ys.length≤140737488355328 then eU h u dst (.row sz ys) (.own (8*dst) sz 0 ys.length) else none
      | .w (.c (.own id _ off n))=>match h id with
        | some (.row sz' es)=>if off=0∧n=es.length∧sz'=sz∧(es.length+ys.length)*byt≤140737488355328∧es.length+ys.length≤140737488355328 then
            eU (upd h id none) u dst (.row sz (es++ys)) (.own (8*dst) sz 0 (es++ys).length) else none
        | _=>none
      | _=>none
      else none
  | .appN str sz byt x y=>match cg h str (ρ y) with
    | none=>none
    | some ys=>if eZ sz ys=true then match ρ x with
      | .w (.c .nil)=>if ys.length*byt≤140737488355328∧ys.length≤140737488355328 then eU h u dst (.row sz ys) (.own (8*dst) sz 0 ys.length) else none
      | _=>none
      else none
  | .copy sz x y=>match js h (ρ y) with
    | some (.sl ys)=>if eZ sz ys=true then match ρ x with
      | .w (.c .nil)=>some (vd (.int .i64 0),h,u)
      | .w (.c (.own id _ off n))=>match h id with
        | some (.row sz' es)=>if sz'=sz∧off+n≤es.length then some (vd (.int .i64 (Nat.min ys.length n:Nat)),upd h id (some (.row sz (eO es off (ys.take n)))),u) else none
        | some (.box cs)=>if sz=1∧off+n≤cs.length then some (vd (.int .i64 (Nat.min ys.length n:Nat)),upd h id (some (.box (eO cs off (((ys.take n).flatMap D.cells).map C.d)))),u) else none
        | _=>none
      | _=>none
      else none
    | _=>none
  | .min xs=>(ints ρ xs).map fun (k,l)=>(vd (.int k (match l with | []=>0 | a::r=>r.foldl (fun x y=>if y<x then y else x) a)),h,u)
  | .max xs=>(ints ρ xs).map fun (k,l)=>(vd (.int k (match l with | []=>0 | a::r=>r.foldl (fun x y=>if y>x then y else x) a)),h,u)
  | .mark x=>match ρ x with
    | .w (.c (.own id sz off n))=>match h id with
      | some (.row sz' es)=>if sz'=sz∧0<n then some (.w (.c (.own id sz off n)),h,u) else none
      | _=>none
    | _=>none
  | .markF x=>match ρ x with
    | .w (.c (.own id sz off n))=>match h id with
      | some (.row sz' es)=>if sz'=sz∧0<n∧off+n≤es.length then some (vd (.sl ((es.drop off).take n)),upd h id none,u) else none
      | _=>none
    | _=>none
  | .frz x=>match ρ x with
    | .w y=>(toW h y).map fun d=>(vd d,killAll h (dX y),u)
    | _=>none
  | .clos f xs=>(im (xs.map ρ)).map fun ds=>(vd (.fn f ds),h,u)
  | .call ..=>none
  | .closM f xs ys=>match fa (xs.map ρ),fa (ys.map ρ) with
    | some a,some b=>some (.w (.c (.cf f a b)),h,u)
    | _,_=>none
  | .callM ..=>none
  | .mkMp q r=>if tQ ρ r=true then eU h u dst (.mp q []) (.mp (8*dst)) else none
  | .mpGet q z co x i=>(kJ h q z co (ρ x) (fV (ρ i))).map fun v=>(v,h,u)
  | .mpSet q x i y=>(wM h q (wJ (ρ x)) (fV (ρ i)) (wK (ρ y))).map fun h'=>(.undef,h',u)
  | .mpIter x=>match v6 (ρ x) with
    | some p=>eU h u dst (.it p.1 p.2 none) (.ptr (8*dst) 1 0 0)
    | none=>none
  | .mpEnt x=>(sw h (ρ x)).map fun v=>(v,h,u)
  | .nilChk x=>if oe (ρ x)=true then some (ρ x,h,u) else none
end
abbrev au:=List (Nat×C)
def au.at (G:au) (g:Nat):Option C:=(G.find? (·.1==g)).map (·.2)
def C.isR:C→Bool | .rp _=>true | .ra _=>true | _=>false
def Ng (w:World) (g:Nat) (c:C):Prop:=∀ es,c=.ra es→(∀ x∈es,x.cells.length=1)→∃ ty,w.shape? g=some (ty,es.length)
def nY (G:au) (S:aT) (w:World):Prop:=∀ p∈G,RC (fun _=>none) S w (.pointer (some ⟨p.1,0,none⟩)) p.2∧p.2.isR=true∧Ng w p.1 p.2
def iX (cur:Array Value) (fz:Nat×Nat):Prop:=fz.1≤fz.2∧(fz.1<fz.2→cur.size≤fz.1)
theorem iX.cell {cur:Array Value} {fz:Nat×Nat} (h:iX cur fz):∀ i,i<cur.size→¬ (fz.1≤i∧i<fz.2):=fun i hi hh=>by have:=h.2 (by omega); omega
theorem iX.of_size {cur cur':Array Value} {fz:Nat×Nat} (h:iX cur fz) (e:cur'.size=cur.size):iX cur' fz:=by unfold iX; rw[e]; exact h
def FU (S:aT) (w:World) (B b sz:Nat) (es:List D):Prop :=
  B≤b∧(∀ i,¬ S b i)∧∃ cur ty fz,w.heap[b]?=some (.cells cur ty fz)∧iX cur fz∧es.length*sz≤cur.size ∧
   ∀ i (h:i<es.length),es[i].cells.length=sz∧∀ j (h2:j<es[i].cells.length),∃ v,cur[i*sz+j]?=some v∧Reads S w v es[i].cells[j]
def jY (S:aT) (w:World) (B:Nat) (v:Value) (c:C) (bl:List Nat):Prop :=
  match c with
  | .d x=>Reads S w v x∧bl=[]
  | .fr sz es=>((∃ ad,v=.slice ad 0 0)∧es=[]∧bl=[])∨∃ b cap ty N,bl=[b]∧v=.slice (some ⟨b,0,none⟩) es.length cap∧es.length≤cap∧cap≤maxLen∧w.shape? b=some (ty,N)∧cap*sz≤N∧FU S w B b sz es
  | _=>False
inductive li (S:aT) (w:World) (B:Nat):List Value→List C→List Nat→Prop
  | nil:li S w B [] [] []
  | cons {v c b1 vs cs b2}:jY S w B v c b1→li S w B vs cs b2→li S w B (v::vs) (c::cs) (b1++b2)
def i5 (S:aT) (w:World) (B:Nat) (v:Value) (x:W) (bl:List Nat):Prop :=
  match x with
  | .c (.d (.agg cs))=>(∃ us:List Value,v=.agg us.toArray∧aD (Reads S w) us cs)∧bl=[]
  | .c x=>jY S w B v x bl
  | .mix cs=>∃ us:List Value,v=.agg us.toArray∧li S w B us cs bl
inductive lZ (S:aT) (w:World) (B:Nat):List Value→List W→List Nat→Prop
  | nil:lZ S w B [] [] []
  | cons {v c b1 vs cs b2}:i5 S w B v c b1→lZ S w B vs cs b2→lZ S w B (v::vs) (c::cs) (b1++b2)
def mH (S:aT) (w:World) (B:Nat) (v:Value) (x:V) (bl:List Nat):Prop :=
  match x with
  | .w x=>i5 S w B v x bl
  | .tup ws=>∃ us:List Value,v=.tuple us.toArray∧lZ S w B us ws bl
  | .undef=>False
def Ob.ids:Ob→List Nat
  | .row ..=>[]
  | .box cs=>cs.flatMap C.ids
  | .mp _ es=>es.flatMap fun p=>p.2.ids
  | .it ..=>[]
def dw (m:Mp) (S:aT) (w:World) (sz:Nat) (cur:Array Value):Ob→Prop
  | .row _ es=>es.length*sz≤cur.size∧∀ i (h:i<es.length),es[i].cells.length=sz∧∀ j (h2:j<es[i].cells.length),∃ v,cur[i*sz+j]?=some v∧Reads S w v es[i].cells[j]
  | .box cs=>cs.length≤cur.size∧∀ j (h:j<cs.length),∃ v,cur[j]?=some v∧RC m S w v cs[j]
  | _=>True
def H2 (m:Mp) (S:aT) (w:World) (q:IntKind) (E:Array MapEntry) (es:List (Int×C)):Prop:=aD (fun (e:MapEntry) (p:Int×C)=>e.key=.int q p.1∧RW m S w e.val (.c p.2)) E.toList es
theorem jQ.nil:jQ #[] 0:=⟨List.nodup_nil,fun e he=>by cases he⟩
theorem jQ.push {E:Array MapEntry} {clock:Nat} (h:jQ E clock) (k v:Value):jQ (E.push { key:=k,val:=v,born:=clock }) (clock+1):=by
  refine⟨?_,fun e he=>?_⟩
  ·rw[Array.toList_push,ap8,ara];refine⟨h.1,by simp,fun a ha b hb=>?_⟩;obtain⟨e,he,rfl⟩:=aqa.1 ha;rw[List.map_singleton,apY] at hb;have:=h.2 e he;subst hb;exact Nat.ne_of_lt this
  ·rw[Array.toList_push] at he;rcases aqg.1 he with he | he
   ·exact Nat.lt_succ_of_lt (h.2 e he)
   ·rw[apY.1 he]; exact Nat.lt_succ_self _
theorem jQ.same {E E':Array MapEntry} {clock:Nat} (h:jQ E clock) (e:E'.toList.map (·.born)=E.toList.map (·.born)):jQ E' clock:=by
  refine⟨e ▸ h.1,fun x hx=>?_⟩;have:x.born∈E.toList.map (·.born):=e ▸ aqa.2 ⟨x,hx,rfl⟩;obtain⟨y,hy,h2⟩:=aqa.1 this;exact h2 ▸ h.2 y hy
def t8 (S:aT) (w:World) (q:IntKind) (e:MapEntry) (p:Int×D):Prop:=e.key=.int q p.1∧Reads S w e.val p.2
def qA (E:Array MapEntry) (seen:Array Nat):Array MapEntry:=E.filter fun e=>!seen.contains e.born
def ahh (S:aT) (w:World) (q:IntKind) (left:List (Int×D)) (last:Option (Int×D)) (bm c:Nat) (seen:Array Nat):Prop :=
  S bm 0∧∃ E,w.heap[bm]?=some (.map E c)∧jQ E c∧aD (t8 S w q) (qA E seen).toList left∧∀ p,last=some p→∃ e∈E.toList,∃ s:Array Nat,seen=s.push e.born∧t8 S w q e p
def gG (m:Mp) (S:aT) (w:World) (b:Nat) (cur:Array Value) (ty:TypeId) (fz:Nat×Nat):Ob→Prop
  | .mp q es=>∃ E clock,w.heap[b]?=some (.map E clock)∧H2 m S w q E es∧jQ E clock
  | .it q left last=>(w.heap[b]?=some (.mapIter none 0 #[] 0)∧left=[]∧last=none)∨∃ bm c seen,w.heap[b]?=some (.mapIter (some bm) c seen c)∧ahh S w q left last bm c seen
  | _=>w.heap[b]?=some (.cells cur ty fz)
def Ob.isMp:Ob→Bool | .mp ..=>true | .it ..=>true | _=>false
theorem gG.of {m:Mp} {S:aT} {w:World} {b:Nat} {cur:Array Value} {ty:TypeId} {fz:Nat×Nat} {o:Ob} (h:w.heap[b]?=some (.cells cur ty fz)) (ho:o.isMp=false):gG m S w b cur ty fz o:=by
  cases o
  ·exact h
  ·exact h
  ·cases ho
  ·cases ho
theorem gG.cells {m:Mp} {S:aT} {w:World} {b:Nat} {cur cur':Array Value} {ty ty':TypeId} {fz fz':Nat×Nat} {o:Ob} (h:gG m S w b cur ty fz o) (hc:w.heap[b]?=some (.cells cur' ty' fz')):w.heap[b]?=some (.cells cur ty fz)∧o.isMp=false:=by
  cases o
  ·exact⟨h,rfl⟩
  ·exact⟨h,rfl⟩
  ·obtain⟨E,c,h1,_⟩:=h;rw[hc] at h1; cases h1
  ·rcases h with ⟨h1,_⟩ | ⟨bm,c,seen,h1,_⟩ <;> (rw[hc] at h1; cases h1)
theorem gG.some {m:Mp} {S:aT} {w:World} {b:Nat} {cur:Array Value} {ty:TypeId} {fz:Nat×Nat} {o:Ob} (h:gG m S w b cur ty fz o):∃ x,w.heap[b]?=some x:=by
  cases o
  ·exact⟨_,h⟩
  ·exact⟨_,h⟩
  ·obtain⟨E,c,h1,_⟩:=h; exact⟨_,h1⟩
  ·rcases h with ⟨h1,_⟩ | ⟨bm,c,seen,h1,_⟩ <;> exact⟨_,h1⟩
theorem gG.no {m:Mp} {S:aT} {w:World} {b:Nat} {cur:Array Value} {ty:TypeId} {fz:Nat×Nat} {o:Ob} (h:gG m S w b cur ty fz o) (ho:o.isMp=false):w.heap[b]?=Option.some (.cells cur ty fz):=by
  cases o
  ·exact h
  ·exact h
  ·cases ho
  ·cases ho
def bT (m:Mp) (S:aT) (B:Nat→Prop) (w:World) (id:Nat) (o:Ob):Prop :=
  match m id with
  | none=>∃ sz,o=.row sz []
  | some (b,sz)=>o.sz=sz∧B b∧(∀ i,¬ S b i)∧∃ cur ty fz,gG m S w b cur ty fz o∧iX cur fz∧dw m S w sz cur o
def wO:Obj→Bool
  | .cells ..=>true
  | .map ..=>true
  | .mapIter ..=>true
  | _=>false
structure eX (W W':World):Prop where
  size:W.heap.size≤W'.heap.size
  same:∀ (k:Nat) (o:Obj),W.heap[k]?=some o→wO o=false→W'.heap[k]?=some o
theorem eX.refl (W:World):eX W W:=⟨ap3 _,fun _ _ h _=>h⟩
theorem eX.trans {A B C:World} (h:eX A B) (k:eX B C):eX A C :=
  ⟨aqG h.size k.size,fun i o hi ho=>k.same i o (h.same i o hi ho) ho⟩
theorem eX.alloc (W:World) (o:Obj):eX W (W.alloc o) :=
  ⟨by simp,fun k o' hk _=>(Below.heap_alloc W o k (aqp.1 hk).1).trans hk⟩
structure dz (n:Nat) (B:Nat→Prop) (w w':World):Prop where
  os:w'.os=w.os
  tape:w'.tape=w.tape
  output:w'.output=w.output
  size:w.heap.size≤w'.heap.size
  block:∀ k,k<n→¬ B k→w'.heap[k]?=w.heap[k]?
theorem dz.refl (n:Nat) (B:Nat→Prop) (w:World):dz n B w w:=⟨rfl,rfl,rfl,ap3 _,fun _ _ _=>rfl⟩
theorem dz.trans {n:Nat} {B:Nat→Prop} {a b c:World} (h:dz n B a b) (k:dz n B b c):dz n B a c :=
  ⟨k.os.trans h.os,k.tape.trans h.tape,k.output.trans h.output,aqG h.size k.size,fun i hi hb=>(k.block i hi hb).trans (h.block i hi hb)⟩
theorem dz.of {n:Nat} {B:Nat→Prop} {w w':World} (h:Below n w w'):dz n B w w':=⟨h.os,h.tape,h.output,h.size,fun k hk _=>h.block k hk⟩
theorem dz.mono {n k:Nat} {B C:Nat→Prop} {w w':World} (h:dz k C w w') (hk:n≤k) (hB:∀ b,b<n→C b→B b):dz n B w w' :=
  ⟨h.os,h.tape,h.output,h.size,fun i hi hb=>h.block i (Nat.lt_of_lt_of_le hi hk) fun hc=>hb (hB i hi hc)⟩
theorem dz.below {n:Nat} {w w':World} {B:Nat→Prop} (h:dz n B w w') (hB:∀ b,b<n→¬ B b):Below n w w' :=
  ⟨h.os,h.tape,h.output,h.size,fun k hk=>h.block k hk (hB k hk)⟩
theorem dz.step {n:Nat} {B:Nat→Prop} {a w w':World} (h:dz n B a w) (hn:n≤a.heap.size) (k:Below w.heap.size w w'):dz n B a w' :=
  h.trans (dz.of (k.mono (aqG hn h.size)))
def pg (h:aI) (m:Mp) (b:Nat):Prop:=∃ id o s,h id=some o∧m id=some (b,s)
def sB (P:Program) (G:au) (f:FuncId) (args:List W) (h0:aI) (L:List Nat) (res:V) (h1:aI) (L1:List Nat):Prop :=
  ((∀ id o,h0 id=some o→id∈L∧∀ j∈o.ids,j∈L)∧(∀ id∈L,h0 id≠none)∧(∀ x∈args,∀ i∈x.ids,i∈L)∧(∀ id o,h1 id=some o→id∈L1∧∀ j∈o.ids,j∈L1)∧∀ i∈res.ids,i∈L1) ∧
  ∀ (w:World) (S:aT) (vs:List Value) (m:Mp),(∀ b i,S b i→b<w.heap.size)→nY G S w→(∀ id o,h0 id=some o→bT m S (fun _=>True) w id o) →
    (∀ i j b s s',h0 i≠none→h0 j≠none→m i=some (b,s)→m j=some (b,s')→i=j)→aD (fun v x=>RW m S w v x) vs args →
    Calls P f vs.toArray w fun e w'=>∃ v S' m',e=.returned v∧dz w.heap.size (pg h0 m) w w'∧eX w w'∧bR S w w'∧(∀ b i,S b i→S' b i)∧(∀ b i,S' b i→b<w'.heap.size∧(S b i∨w.heap.size≤b∨pg h0 m b)) ∧
      (∀ i∈L,i∈L1→m' i=m i)∧(∀ id o,h1 id=some o→bT m' S' (fun b=>w.heap.size≤b∨pg h0 m b) w' id o) ∧
      (∀ i j b s s',h1 i≠none→h1 j≠none→m' i=some (b,s)→m' j=some (b,s')→i=j)∧RV m' S' w' v res
def C.isPure:C→Bool | .d _=>true | .nil=>true | _=>false
def W.isPure:W→Bool | .c x=>x.isPure | .mix _=>false
def aF (P:Program) (G:au) (f:FuncId) (args:List D) (res:V):Prop :=
  ∀ (w:World) (S:aT) (vs:List Value),(∀ b i,S b i→b<w.heap.size)→nY G S w→aD (fun v x=>RW (fun _=>none) S w v (.c (.d x))) vs args →
    Calls P f vs.toArray w fun e w'=>∃ v S' bl,e=.returned v∧Below w.heap.size w w'∧(∀ b i,S' b i→(S b i∨w.heap.size≤b)∧b<w'.heap.size)∧bl.Nodup∧mH S' w' w.heap.size v res bl
def zs (P:Program) (G:au) (f:FuncId) (args:List W) (res:V):Prop :=
  ∀ (w:World) (S:aT) (vs:List Value),(∀ b i,S b i→b<w.heap.size)→nY G S w→aD (fun v x=>RW (fun _=>none) S w v x) vs args →
    Calls P f vs.toArray w fun e w'=>∃ v S' bl,e=.returned v∧Below w.heap.size w w'∧(∀ b i,S' b i→(S b i∨w.heap.size≤b)∧b<w'.heap.size)∧bl.Nodup∧mH S' w' w.heap.size v res bl
def oo (P:Program) (G:au) (g:FuncId) (caps ds:List D) (res:V):Prop :=
  (∀ (args:Array Value) (w:World),(callFunc g args).run P w=.ok (.enter g args) w)∧aF P G g (ds++caps) res
def jD:Nat:=1000000007
def qv (P:Program) (G:au) (h:aI) (f:FuncId) (vs:List V) (res:V):Prop :=
  (f≠jD∧∃ ds,fK h vs=some ds∧aF P G f ds res)∨(f=jD∧∃ g caps ds,fK h vs=some (.fn g caps::ds)∧oo P G g caps ds res) ∨
   (f≠jD∧∃ xs:List W,vs=xs.map V.w∧(∀ x∈xs,x.isPure=true)∧zs P G f xs res)
def KD (P:Program) (G:au) (g:Nat) (caps:List D) (xs:List (List D)):Prop :=
  (∀ (args:Array Value) (w:World),(callFunc g args).run P w=.ok (.enter g args) w)∧∀ (n:Nat) (w:World) (S:aT) (lb:List Value),(∀ b i,S b i→b<w.heap.size)→nY G S w→aD (fun v x=>RW (fun _=>none) S w v (.c (.d x))) lb caps →
    ∀ (l:Nat) (J:Nat→World→Prop) (Jx:World→Prop),(∀ k W,J k W→bR S w W∧w.heap.size≤W.heap.size) →
      (∀ k W W',J k W→Below W.heap.size W W'→J k W')→(∀ W W',Jx W→Below W.heap.size W W'→Jx W') →
      (∀ k r W us,xs[k]?=some r→J k W→aD (fun v x=>RW (fun _=>none) S W v (.c (.d x))) us r→YieldAt Fence.wide n P l us.toArray W fun e W'=>(e=.returned (.bool true)∧J (k+1) W')∨(e=.returned (.bool false)∧Jx W')) →
      J 0 w→CallsIn Fence.wide n P g (#[.func (.yield l) #[] #[]]++lb.toArray) w fun e W'=>(∃ v,e=.returned v)∧(J xs.length W'∨Jx W')
structure bi where
  dst:Option Nat
  op:bK
  guard:Option (Nat×Bool)
deriving Inhabited
def oO (d:Nat) (x:bK):bi:=⟨some d,x,none⟩
def oG (d:Nat) (x:bK) (g:Nat) (b:Bool):bi:=⟨some d,x,some (g,b)⟩
def oN (x:bK):bi:=⟨none,x,none⟩
def oM (d s:Nat):bi:=⟨some d,.mv (.t s),none⟩
def kI (n:Int):SX:=.k (.c (.d (.int .i64 n)))
theorem Jz (d:Nat) (x:bK):oO d x=⟨some d,x,none⟩:=rfl
theorem JA (d:Nat) (x:bK) (g:Nat) (b:Bool):oG d x g b=⟨some d,x,some (g,b)⟩:=rfl
theorem JB (x:bK):oN x=⟨none,x,none⟩:=rfl
theorem JC (d s:Nat):oM d s=⟨some d,.mv (.t s),none⟩:=rfl
theorem JD (n:Int):kI n=.k (.c (.d (.int .i64 n))):=rfl
def am (d:Nat) (n:Int):bi:=⟨some d,.mv (.k (.c (.d (.int .i64 n)))),none⟩
def aQ (d:Nat):bi:=⟨some d,.mv (.k (.c .nil)),none⟩
def bG (d:Nat) (b:Bool):bi:=⟨some d,.mv (.k (.c (.d (.bool b)))),none⟩
def aA (d s:Nat):bi:=⟨some d,.load .sc (.t s),none⟩
def bn (d k s:Nat):bi:=⟨some d,.load (.ag k) (.t s),none⟩
def d6 (s t:Nat):bi:=⟨none,.store .sc (.t s) (.t t),none⟩
def aS (k s t:Nat):bi:=⟨none,.store (.ag k) (.t s) (.t t),none⟩
def bd (d s:Nat):bi:=⟨some d,.len (.t s),none⟩
def aC (d s i:Nat):bi:=⟨some d,.extract (.t s) i,none⟩
def aL (d i s:Nat):bi:=⟨some d,.fieldAddr i (.t s),none⟩
def bU (d k s i:Nat):bi:=⟨some d,.idxSl k (.t s) (.t i),none⟩
def aU (b:BinOp) (d s t:Nat):bi:=⟨some d,.bin b (.t s) (.t t),none⟩
def ak (b:BinOp) (d s:Nat) (n:Int):bi:=⟨some d,.bin b (.t s) (.k (.c (.d (.int .i64 n)))),none⟩
def cv (d a b:Nat):bi:=⟨some d,.pick (.t a) (.k (.c (.d (.bool true)))) (.t b),none⟩
def ek (d a b:Nat):bi:=⟨some d,.pick (.t a) (.t b) (.k (.c (.d (.bool false)))),none⟩
def cX (d s:Nat):bi:=⟨some d,.box .roBox (.t s),none⟩
def cW (d s:Nat):bi:=⟨some d,.un .not (.t s),none⟩
def bJ (d s g:Nat) (b:Bool):bi:=⟨some d,.mv (.t s),some (g,b)⟩
def dt (d s g:Nat) (b:Bool):bi:=⟨some d,.load .sc (.t s),some (g,b)⟩
def dF (d i s g:Nat) (b:Bool):bi:=⟨some d,.fieldAddr i (.t s),some (g,b)⟩
def eY (d s g:Nat) (b:Bool):bi:=⟨some d,.len (.t s),some (g,b)⟩
def gn (d s g:Nat) (b:Bool):bi:=⟨some d,.un .not (.t s),some (g,b)⟩
def rh (o:BinOp) (d s t g:Nat) (b:Bool):bi:=⟨some d,.bin o (.t s) (.t t),some (g,b)⟩
def cC (o:BinOp) (d s:Nat) (n:Int) (g:Nat) (b:Bool):bi:=⟨some d,.bin o (.t s) (.k (.c (.d (.int .i64 n)))),some (g,b)⟩
def aY (d f a:Nat):bi:=⟨some d,.call f [.t a] none,none⟩
def ct (d f a b:Nat):bi:=⟨some d,.call f [.t a,.t b] none,none⟩
def gq (d f a b c:Nat):bi:=⟨some d,.call f [.t a,.t b,.t c] none,none⟩
def Ei (d f a b c e:Nat):bi:=⟨some d,.call f [.t a,.t b,.t c,.t e] none,none⟩
theorem H3 (d:Nat) (n:Int):am d n=⟨some d,.mv (.k (.c (.d (.int .i64 n)))),none⟩:=rfl
theorem H4 (d:Nat):aQ d=⟨some d,.mv (.k (.c .nil)),none⟩:=rfl
theorem H5 (d:Nat) (b:Bool):bG d b=⟨some d,.mv (.k (.c (.d (.bool b)))),none⟩:=rfl
theorem H6 (d s:Nat):aA d s=⟨some d,.load .sc (.t s),none⟩:=rfl
theorem H7 (d k s:Nat):bn d k s=⟨some d,.load (.ag k) (.t s),none⟩:=rfl
theorem H8 (s t:Nat):d6 s t=⟨none,.store .sc (.t s) (.t t),none⟩:=rfl
theorem H9 (k s t:Nat):aS k s t=⟨none,.store (.ag k) (.t s) (.t t),none⟩:=rfl
theorem ahi (d s:Nat):bd d s=⟨some d,.len (.t s),none⟩:=rfl
theorem ahj (d s i:Nat):aC d s i=⟨some d,.extract (.t s) i,none⟩:=rfl
theorem ahk (d i s:Nat):aL d i s=⟨some d,.fieldAddr i (.t s),none⟩:=rfl
theorem ahl (d k s i:Nat):bU d k s i=⟨some d,.idxSl k (.t s) (.t i),none⟩:=rfl
theorem ahm (b:BinOp) (d s t:Nat):aU b d s t=⟨some d,.bin b (.t s) (.t t),none⟩:=rfl
theorem ahn (b:BinOp) (d s:Nat) (n:Int):ak b d s n=⟨some d,.bin b (.t s) (.k (.c (.d (.int .i64 n)))),none⟩:=rfl
theorem aho (d a b:Nat):cv d a b=⟨some d,.pick (.t a) (.k (.c (.d (.bool true)))) (.t b),none⟩:=rfl
theorem ahp (d a b:Nat):ek d a b=⟨some d,.pick (.t a) (.t b) (.k (.c (.d (.bool false)))),none⟩:=rfl
theorem ahq (d s:Nat):cX d s=⟨some d,.box .roBox (.t s),none⟩:=rfl
theorem ahr (d s:Nat):cW d s=⟨some d,.un .not (.t s),none⟩:=rfl
theorem ahs (d s g:Nat) (b:Bool):bJ d s g b=⟨some d,.mv (.t s),some (g,b)⟩:=rfl
theorem aht (d s g:Nat) (b:Bool):dt d s g b=⟨some d,.load .sc (.t s),some (g,b)⟩:=rfl
theorem ahu (d i s g:Nat) (b:Bool):dF d i s g b=⟨some d,.fieldAddr i (.t s),some (g,b)⟩:=rfl
theorem ahv (d s g:Nat) (b:Bool):eY d s g b=⟨some d,.len (.t s),some (g,b)⟩:=rfl
theorem ahw (d s g:Nat) (b:Bool):gn d s g b=⟨some d,.un .not (.t s),some (g,b)⟩:=rfl
theorem ahx (o:BinOp) (d s t g:Nat) (b:Bool):rh o d s t g b=⟨some d,.bin o (.t s) (.t t),some (g,b)⟩:=rfl
theorem ahy (o:BinOp) (d s:Nat) (n:Int) (g:Nat) (b:Bool):cC o d s n g b=⟨some d,.bin o (.t s) (.k (.c (.d (.int .i64 n)))),some (g,b)⟩:=rfl
theorem ahz (d f a:Nat):aY d f a=⟨some d,.call f [.t a] none,none⟩:=rfl
theorem ahA (d f a b:Nat):ct d f a b=⟨some d,.call f [.t a,.t b] none,none⟩:=rfl
theorem ahB (d f a b c:Nat):gq d f a b c=⟨some d,.call f [.t a,.t b,.t c] none,none⟩:=rfl
theorem ahC (d f a b c e:Nat):Ei d f a b c e=⟨some d,.call f [.t a,.t b,.t c,.t e] none,none⟩:=rfl
def ah:C:=.d (.int .i64 0)
def bh:C:=.d (.int .u32 0)
def aW:C:=.d (.int .u64 0)
def cD:C:=.d (.bool false)
def dH:D:=.int .i64 0
def aj:D:=.int .u8 0
def aw:D:=.int .u32 0
theorem Ia:ah=.d (.int .i64 0):=rfl
theorem Ib:bh=.d (.int .u32 0):=rfl
theorem Ic:aW=.d (.int .u64 0):=rfl
theorem Ie:cD=.d (.bool false):=rfl
theorem Ig:dH=.int .i64 0:=rfl
theorem Ih:aj=.int .u8 0:=rfl
theorem Ii:aw=.int .u32 0:=rfl
inductive bp where
  | skip
  | reg (ops:List bi)
  | seq (a b:bp)
  | cond (c:SX) (a b:bp)
  | block (id:Nat) (c:bp)
  | loop (c:bp)
  | exit (id:Nat)
  | ret
  | rangeF (x:SX) (ps:List Nat) (asg body:bp)
  | nextM (d:Nat) (x:SX) (rest:List bi)
  | appD (pre:List bi) (d s b:Nat) (x y:SX) (rest:List bi)
  | ghost (t:Nat) (c:bp)
deriving Inhabited
def ae (l:List bi) (c:bp):bp:=.seq (.reg l) c
def ar (n:Nat) (a b:bp):bp:=.cond (.t n) a b
theorem Ij (l:List bi) (c:bp):ae l c=.seq (.reg l) c:=rfl
theorem Ik (n:Nat) (a b:bp):ar n a b=.cond (.t n) a b:=rfl
inductive AX where
  | nrm | ex (id:Nat) | ret
structure aO where
  np:Nat
  nt:Nat
  body:bp
  res:List (Nat×Option Kd)
deriving Inhabited
def ev (G:au) (f:Nat→V):SX→V
  | .t n=>f n
  | .k v=>.w v
  | .g n=>match G.at n with | some c=>.w (.c c) | none=>.undef
  | .u=>.undef
def C.ro:C→C | .fr _ es=>.d (.sl es) | c=>c
def W.ro:W→W | .c x=>.c x.ro | .mix cs=>jC (cs.map C.ro)
def V.ro:V→V | .w x=>.w x.ro | .tup ws=>.tup (ws.map W.ro) | .undef=>.undef
def sE (h:aI) (u:Nat→Bool) (dst k sz:Nat):V→Option R
  | .w (.c (.fr sz' es))=>if k=0∧sz'=sz∧u (8*dst)=false then some (.w (.c (.own (8*dst) sz 0 es.length)),upd h (8*dst) (some (.row sz es)),upd u (8*dst) true) else none
  | .tup ws=>match ws[k]? with
    | some (.c (.fr sz' es))=>if sz'=sz∧u (8*dst)=false then some (.tup ((ws.map W.ro).set k (.c (.own (8*dst) sz 0 es.length))),upd h (8*dst) (some (.row sz es)),upd u (8*dst) true) else none
    | _=>none
  | .w (.mix cs)=>match cs[k]? with
    | some (.fr sz' es)=>if sz'=sz∧u (8*dst)=false then some (.w (.mix ((cs.map C.ro).set k (.own (8*dst) sz 0 es.length))),upd h (8*dst) (some (.row sz es)),upd u (8*dst) true) else none
    | _=>none
  | _=>none
def gM (h:aI) (u:Nat→Bool) (dst:Nat) (own:Option (Nat×Nat)) (res:V):Option R :=
  match own with
  | none=>some (res.ro,h,u)
  | some (_,0)=>some (res.ro,h,u)
  | some (k,sz+1)=>sE h u dst k (sz+1) res
def mu (own:Option (Nat×Nat)) (vs:List V):Prop:=∀ k,own=some (k,0)→vs.all (fun v=>v.ids.isEmpty)=true
theorem uW (vs:List V):mu none vs:=fun _ e=>by cases e
theorem vk (k sz:Nat) (vs:List V):mu (some (k,sz+1)) vs:=fun _ e=>by cases e
theorem uX (own:Option (Nat×Nat)) (vs:List V) (h:vs.all (fun v=>v.ids.isEmpty)=true):mu own vs:=fun _ _=>h
def Cp.ren (g:Nat→Nat):Cp→Cp
  | .d x=>.d x
  | .p id sz i o=>.p (g id) sz i o
def C.ren (g:Nat→Nat):C→C
  | .own id sz off n=>.own (g id) sz off n
  | .ptr id sz i o=>.ptr (g id) sz i o
  | .pa id sz=>.pa (g id) sz
  | .cf f pre post=>.cf f (pre.map (Cp.ren g)) (post.map (Cp.ren g))
  | .mp id=>.mp (g id)
  | c=>c
def W.ren (g:Nat→Nat):W→W
  | .c x=>.c (x.ren g)
  | .mix cs=>.mix (cs.map (C.ren g))
def V.ren (g:Nat→Nat):V→V
  | .w x=>.w (x.ren g)
  | .tup ws=>.tup (ws.map (W.ren g))
  | .undef=>.undef
def Ob.ren (g:Nat→Nat):Ob→Ob
  | .row sz es=>.row sz es
  | .box cs=>.box (cs.map (C.ren g))
  | .mp q es=>.mp q (es.map fun p=>(p.1,p.2.ren g))
  | .it q left last=>.it q left last
def kG (h:aI) (g:Nat→Nat) (L L1:List Nat) (h1:aI):aI:=fun i=>match L1.find? (fun id=>g id==i) with
  | some id=>(h1 id).map (Ob.ren g)
  | none=>if (L.any fun id=>g id==i) then none else h i
def mC (u:Nat→Bool) (g:Nat→Nat) (L1:List Nat):Nat→Bool:=fun i=>u i || L1.any fun id=>g id==i
def oB (P:Program) (G:au) (h:aI) (u:Nat→Bool) (f:FuncId) (xs:List W) (r:R):Prop :=
  ∃ (g:Nat→Nat) (args:List W) (h0:aI) (L:List Nat) (res:V) (h1:aI) (L1:List Nat),sB P G f args h0 L res h1 L1∧xs=args.map (W.ren g)∧(∀ id o,h0 id=some o→h (g id)=some (o.ren g)) ∧
    (∀ i∈L++L1,∀ j∈L++L1,g i=g j→i=j)∧(∀ id∈L1,id∉L→u (g id)=false)∧(∀ i∈L,(∃ x∈args,i∈x.ids)∨(fe (h0 i)=false∧fe (h1 i)=false))∧r=(res.ren g,kG h g L L1 h1,mC u g L1)
def mD (P:Program) (G:au) (h:aI) (u:Nat→Bool) (f:FuncId) (vs:List V) (r:R):Prop :=
  (f≠jD∧∃ xs:List W,vs=xs.map V.w∧oB P G h u f xs r) ∨
   (f=jD∧∃ (g:FuncId) (pre post:List Cp) (xs:List W),vs=.w (.c (.cf g pre post))::xs.map V.w∧(∀ (args:Array Value) (w:World),(callFunc g args).run P w=.ok (.enter g args) w)∧oB P G h u g (pre.map Cp.w++xs++post.map Cp.w) r)
def SX.isU:SX→Bool | .u=>true | _=>false
def fR:List SX→List SX
  | []=>[]
  | .u::_=>[]
  | .t n::r=>.t n::fR r
  | .k v::r=>.k v::fR r
  | .g n::r=>.g n::fR r
def rj:List SX→List SX
  | []=>[]
  | .u::r=>r
  | .t _::r=>rj r
  | .k _::r=>rj r
  | .g _::r=>rj r
def oq (ρ:SX→V) (xs:List SX):Bool:=!xs.any SX.isU || (fR xs).all fun y=>(ρ y).ids.all fun i=>(rj xs).any fun z=>(ρ z).ids.contains i
theorem FV:∀ {xs:List SX},xs.any SX.isU=false→fR xs=xs
  | [],_=>rfl
  | z::r,h=>by
    rw[List.any_cons,Bool.or_eq_false_iff] at h;have:=FV h.2;cases z <;> first | (cases h.1; done) | (show _::fR r=_; rw[this])
theorem Mf:∀ {xs ds:List SX},xs.any SX.isU=false→fR (xs++.u::ds)=xs
  | [],_,_=>rfl
  | z::r,ds,h=>by
    rw[List.any_cons,Bool.or_eq_false_iff] at h;have:=Mf (ds:=ds) h.2;cases z <;> first | (cases h.1; done) | (show _::fR (r++.u::ds)=_; rw[this])
theorem xT:∀ {xs:List SX},∀ z∈fR xs,z∈xs
  | [],z,h=>by cases h
  | y::r,z,h=>by
    cases y <;> first | (cases h; done) | (refine (aqh.1 h).elim (fun e=>?_) (fun h=>aqf _ (xT z h)); rw[e]; exact aqj)
theorem O8:∀ {xs:List SX},∀ z∈rj xs,z∈xs
  | [],z,h=>by cases h
  | y::r,z,h=>by
    cases y <;> first | exact aqf _ (O8 z h) | exact aqf _ h
theorem acy (n:Nat) (r:List SX):fR (.t n::r)=.t n::fR r:=rfl
theorem acz (v:W) (r:List SX):fR (.k v::r)=.k v::fR r:=rfl
theorem acA (r:List SX):fR (.u::r)=[]:=rfl
theorem W7:fR []=[]:=rfl
section
variable (P:Program) (G:au)
def oC (s:bK) (ρ:SX→V) (h:aI) (u:Nat→Bool) (dst:Nat) (K:R→Prop):Prop :=
  match s with
  | .call f xs own=>∃ res,qv P G h f (xs.map ρ) res∧qz h (xs.map ρ) res∧mu own (xs.map ρ)∧(match gM h u dst own res with | some r=>K r | none=>False)
  | .callM f xs=>∃ r,(mD P G h u f ((fR xs).map ρ) r∧oq ρ xs=true)∧K r
  | s=>match ef ρ h u dst s with | some r=>K r | none=>False
def St.put (σ:St) (dst:Option Nat) (r:R):St:=⟨bY σ.f dst r.1,r.2.1,r.2.2⟩
def Ej (o:bi) (K:St→Prop) (σ:St):Prop :=
  match o.guard with
  | none=>oC P G o.op (ev G σ.f) σ.h σ.u (o.dst.getD 0) (fun r=>K (σ.put o.dst r))
  | some (t,want)=>match eD (σ.f t) with
    | some b=>(b=want→oC P G o.op (ev G σ.f) σ.h σ.u (o.dst.getD 0) (fun r=>K (σ.put o.dst r)))∧(b≠want→K (σ.put o.dst (.tup [],σ.h,σ.u)))
    | none=>σ.f t=.tup []∧K (σ.put o.dst (.tup [],σ.h,σ.u))
def bg:List bi→(St→Prop)→St→Prop
  | [],K,σ=>K σ
  | o::r,K,σ=>Ej P G o (bg r K) σ
structure fv (σ τ:St):Prop where
  ex:∃ g:Nat→Nat,(∀ t,τ.f t=.undef∨σ.f t=(τ.f t).ren g)∧(∀ i o,τ.h i=some o→σ.h (g i)=some (o.ren g))∧(∀ i j,τ.h i≠none→τ.h j≠none→g i=g j→i=j)
  slots:∀ t,∀ i∈(τ.f t).ids,τ.u i=true
  objs:∀ i o,τ.h i=some o→τ.u i=true∧∀ j∈o.ids,τ.u j=true
def bp.writes:bp→List Nat
  | .reg ops=>ops.filterMap bi.dst
  | .seq a b=>a.writes++b.writes
  | .cond _ a b=>a.writes++b.writes
  | .block _ c=>c.writes
  | .loop c=>c.writes
  | .rangeF _ ps a b=>ps++a.writes++b.writes
  | .nextM d _ rest=>d::rest.filterMap bi.dst
  | .appD pre d _ _ _ _ rest=>pre.filterMap bi.dst++d::rest.filterMap bi.dst
  | .ghost _ c=>c.writes
  | _=>[]
def v8 (f:Nat→V):List Nat→List D→(Nat→V)
  | t::ts,x::xs=>v8 (upd f t (vd x)) ts xs
  | _,_=>f
def qC (h:aI):List (Int×C)→Option (List (Int×D))
  | []=>some []
  | (k,c)::r=>match gm h c,qC h r with
    | some d,some l=>if d.one=true then some ((k,d)::l) else none
    | _,_=>none
def jT (h:aI):List C→Option (List C)
  | []=>some []
  | .nil::r=>(jT h r).map (.nil::·)
  | .d x::r=>(jT h r).map (.d x::·)
  | c::r=>match gm h c,jT h r with
    | some d,some l=>some (.d d::l)
    | _,_=>none
def sF (σ:St) (t:Nat):Option St:=match σ.f t with
  | .w (.c (.mp id))=>match σ.h id with
    | some (.mp q es)=>(qC σ.h es).map fun ds=>⟨upd σ.f t (vd (.mp q ds)),upd (killAll σ.h (es.map (·.2))) id none,σ.u⟩
    | _=>none
  | .w (.c (.ptr id _ 0 0))=>match σ.h id with
    | some (.box cs)=>match gY cs with
      | some ds=>some ⟨upd σ.f t (.w (.c (.rp ds))),upd σ.h id none,σ.u⟩
      | none=>match jT σ.h cs,killAll σ.h cs id with
        | some cs',some _=>some ⟨σ.f,upd (killAll σ.h cs) id (some (.box cs')),σ.u⟩
        | _,_=>none
    | _=>none
  | _=>none
def BV (σ:St) (d:Nat) (K:St→Prop):V→Prop
  | .w (.c (.ptr id _ 0 0))=>match σ.h id with
    | some (.it q left _)=>(left=[]→K (σ.put (some d) (.tup [.c (.d (.bool false))],σ.h,σ.u))) ∧
        ∀ j p,left[j]?=some p→K (σ.put (some d) (.tup [.c (.d (.bool true)),.c (.d (.int q p.1)),.c (.d p.2)],upd σ.h id (some (.it q (left.eraseIdx j) (some p))),σ.u))
    | _=>False
  | _=>False
def zb (σ:St) (d:Option Nat) (s b:Nat) (ys:List D) (K:St→Prop):V→Prop
  | .w (.c (.own id _ off n))=>match σ.h id with
    | some (.row sz' es)=>(off+n=es.length∧sz'=s∧(n+ys.length)*b≤140737488355328∧n+ys.length≤140737488355328∧σ.u (8*d.getD 0)=false) ∧
        ∀ pre:List D,(pre=es.take off∨pre=[])→K (σ.put d (.w (.c (.own (8*d.getD 0) s pre.length (n+ys.length))),upd (upd σ.h id none) (8*d.getD 0) (some (.row s (pre++es.drop off++ys))),upd σ.u (8*d.getD 0) true))
    | _=>False
  | _=>False
def tR (G:au) (σ:St) (d s b:Nat) (x y:SX) (K:St→Prop):Prop:=match cg σ.h false (ev G σ.f y) with
  | some ys=>eZ s ys=true∧zb σ (some d) s b ys K (ev G σ.f x)
  | none=>False
def cE:bp→(AX→St→Prop)→St→Prop
  | .skip,Q,σ=>Q .nrm σ
  | .reg ops,Q,σ=>bg P G ops (Q .nrm) σ
  | .seq a b,Q,σ=>cE a (fun e s=>match e with | .nrm=>cE b Q s | e=>Q e s) σ
  | .cond c a b,Q,σ=>match eD (ev G σ.f c) with
    | some t=>(t=true→cE a Q σ)∧(t=false→cE b Q σ)
    | none=>False
  | .block id c,Q,σ=>cE c (fun e s=>match e with | .ex i=>if i=id then Q .nrm s else Q (.ex i) s | e=>Q e s) σ
  | .loop c,Q,σ=>∃ I:Nat→St→Prop,(∃ n τ,fv σ τ∧I n τ)∧∀ n s,I n s→cE c (fun e s'=>match e with | .nrm=>∃ n' τ,n'<n∧fv s' τ∧I n' τ | e=>Q e s') s
  | .exit id,Q,σ=>Q (.ex id) σ
  | .ret,Q,σ=>Q .ret σ
  | .rangeF x ps asg body,Q,σ=>∃ (g:Nat) (caps:List D) (xs:List (List D)) (f0:Nat→V) (h0:aI) (u0:Nat→Bool) (I:Nat→aI→(Nat→Bool)→Prop),
      ev G σ.f x=.w (.c (.d (.fn g caps)))∧KD P G g caps xs∧(∀ r∈xs,r.length=ps.length)∧fv σ ⟨f0,h0,u0⟩∧(∀ t∈ps++asg.writes++body.writes,f0 t=.undef)∧I 0 h0 u0 ∧
      (∀ k r h u,xs[k]?=some r→I k h u→cE asg (fun e s=>match e with
        | .nrm=>cE body (fun e s'=>match e with
          | .nrm=>∃ h' u',fv s' ⟨f0,h',u'⟩∧I (k+1) h' u'
          | e=>∃ h' u',fv s' ⟨f0,h',u'⟩∧Q e ⟨f0,h',u'⟩) s
        | _=>False) ⟨v8 f0 ps r,h,u⟩) ∧
      ∀ h u,I xs.length h u→Q .nrm ⟨f0,h,u⟩
  | .nextM d x rest,Q,σ=>BV σ d (bg P G rest (Q .nrm)) (ev G σ.f x)
  | .appD pre d s b x y rest,Q,σ=>bg P G pre (fun τ=>tR G τ d s b x y (bg P G rest (Q .nrm))) σ
  | .ghost t c,Q,σ=>match sF σ t with | some τ=>cE c Q τ | none=>False
def xj (h:aI):C→C→Prop
  | .own id sz off n,.fr sz' es=>off=0∧sz'=sz∧match h id with | some o=>fZ o 0 n=some es∧(match o with | .row ..=>True | _=>False) | none=>False
  | .nil,.fr _ es=>es=[]
  | .nil,.d x=>x=.sl []
  | .d x,.d y=>x=y
  | _,_=>False
def zS (h:aI):W→W→Prop
  | .c x,.c y=>xj h x y
  | .mix cs,.mix ds=>aD (xj h) cs ds
  | .mix cs,.c (.d (.agg ds))=>gY cs=some ds
  | _,_=>False
def dd (σ:St):Nat×Option Kd→Option W
  | (t,none)=>j9 (σ.f t)
  | (t,some kd)=>fc σ.h kd (σ.f t)
def K8 (h:aI):List W→V→Prop
  | [x],.w y=>zS h x y
  | x::y::r,.tup ws=>aD (zS h) (x::y::r) ws
  | [],.tup ws=>ws=[]
  | _,_=>False
def KE (h:aI):List W→V→Prop
  | [x],.w (.c (.d d))=>toW h x=some d
  | x::y::r,.tup ws=>aD (fun x z=>∃ d,z=.c (.d d)∧toW h x=some d) (x::y::r) ws
  | _,_=>False
def fi (σ:St) (l:List (Nat×Option Kd)) (res:V):Prop :=
  ∃ ws,bE (dd σ) l=some ws∧(((ws.flatMap W.ids).Nodup∧K8 σ.h ws res)∨KE σ.h ws res)
def entry (args:List D):St:=⟨fun t=>match args[t]? with | some x=>vd x | none=>.undef,fun _=>none,fun _=>false⟩
end
structure Gh extends World where
  wo:World
  so:aT
  fx:Nat→Option Value
  ext:Nat→Prop
def Gh.may (w0:Gh) (b:Nat):Prop:=w0.heap.size≤b∨w0.ext b
instance:CoeOut Gh World:=⟨Gh.toWorld⟩
def Gh.of (w:World):Gh:={ w with wo:=w,so:=fun _ _=>False,fx:=fun _=>none,ext:=fun _=>False }
def l9 (B:Nat) (w:World):List Deferred→Prop
  | []=>True
  | d::ds=>(∃ D,d={ target:=.collected D,args:=#[] }∧B≤D∧w.heap[D]?=some (.deferred (some []))∧∀ d'∈ds,d'.target≠.collected D)∧l9 B w ds
theorem l9.keep {B:Nat} {w w':World} (k:eX w w'):∀ {ds:List Deferred},l9 B w ds→l9 B w' ds
  | [],_=>trivial
  | _::_,⟨⟨D,h1,h2,h3,h4⟩,h5⟩=>⟨⟨D,h1,h2,k.same _ _ h3 rfl,h4⟩,h5.keep k⟩
theorem Lw {w w':World} (hb:∀ b,b<w.heap.size→w'.heap[b]?=w.heap[b]?) (hsz:w.heap.size≤w'.heap.size):eX w w' :=
  ⟨hsz,fun k o hk _=>(hb k (aqp.1 hk).1).trans hk⟩
theorem Lq {w w':World} {b:Nat} {cur:Array Value} {ty:TypeId} {fz:Nat×Nat} (hc:w.heap[b]?=some (.cells cur ty fz)) (hother:∀ k,k≠b→w'.heap[k]?=w.heap[k]?) (hsize:w'.heap.size=w.heap.size):eX w w' :=
  ⟨Nat.le_of_eq hsize.symm,fun k o hk ho=>by
    by_cases e:k=b
    ·subst e; rw[hc] at hk; cases hk; cases ho
    ·rw[hother k e]; exact hk⟩
structure Inv (G:au) (N:Nat) (Sin:aT) (w0:Gh) (σ:St) (a:Act) (w:World) (S:aT) (m:Mp):Prop where
  size:a.tmps.size=N
  defers:l9 w0.heap.size w a.defers
  slot:∀ t,RV m S w (a.tmps.getD t undef) (σ.f t)
  used:∀ t,∀ i∈(σ.f t).ids,σ.u i=true
  obj:∀ id o,σ.h id=some o→bT m S w0.may w id o∧σ.u id=true∧∀ j∈o.ids,σ.u j=true
  inj:∀ i j b s s',σ.h i≠none→σ.h j≠none→m i=some (b,s)→m j=some (b,s')→i=j
  sin:∀ b i,S b i→b<w.heap.size∧(Sin b i∨w0.may b)
  sub:∀ b i,Sin b i→S b i
  glob:nY G S w
  below:dz w0.heap.size w0.ext w0 w
  oth:eX w0.wo w
  kso:bR w0.so w0.wo w
  sso:∀ b i,w0.so b i→S b i
  fix:∀ t v,w0.fx t=some v→a.tmps.getD t undef=v
theorem cO.congr {m m':Mp} {w:World} {v:Value} {id sz off n:Nat} (h:cO m w v id sz off n) (e:m' id=m id):cO m' w v id sz off n:=by
  unfold cO at *; rw[e]; exact h
theorem fu.congr {m m':Mp} {S:aT} {w:World} {v:Value} {x:Cp} (h:fu m S w v x) (e:∀ i∈x.ids,m' i=m i):fu m' S w v x:=by
  cases x with
  | d x=>exact h
  | p id sz i o =>
    obtain⟨b,h1,h2⟩:=h;exact⟨b,by rw[e id (by simp[Cp.ids])]; exact h1,h2⟩
theorem RC.congr {m m':Mp} {S:aT} {w:World} {v:Value} {x:C} (h:RC m S w v x) (e:∀ i∈x.ids,m' i=m i):RC m' S w v x:=by
  cases x <;> simp only[RC,C.ids] at *
  ·exact h
  ·exact h
  ·exact h.congr (e _ (by simp))
  ·rw[e _ (by simp)]; exact h
  ·rw[e _ (by simp)]; exact h
  ·exact h
  ·exact h
  ·obtain⟨us,vs,h1,h2,h3⟩:=h;exact⟨us,vs,h1,h2.weak fun _ c _ hc h=>h.congr fun i hi=>e i (aqL _ (aqc.2 ⟨c,hc,hi⟩)),h3.weak fun _ c _ hc h=>h.congr fun i hi=>e i (aqi _ (aqc.2 ⟨c,hc,hi⟩))⟩
  grind
theorem aD.congrC {m m':Mp} {S:aT} {w:World} {us:List Value} {cs:List C} (h:aD (RC m S w) us cs) (e:∀ i∈cs.flatMap C.ids,m' i=m i):aD (RC m' S w) us cs :=
  h.weak fun _ c _ hc h=>h.congr fun i hi=>e i (aqc.2 ⟨c,hc,hi⟩)
theorem RW.congr {m m':Mp} {S:aT} {w:World} {v:Value} {x:W} (h:RW m S w v x) (e:∀ i∈x.ids,m' i=m i):RW m' S w v x:=by
  unfold RW at *
  split at h
  ·exact h
  ·exact RC.congr h e
  ·obtain⟨us,h1,h2⟩:=h; exact⟨us,h1,h2.congrC e⟩
theorem RV.congr {m m':Mp} {S:aT} {w:World} {v:Value} {x:V} (h:RV m S w v x) (e:∀ i∈x.ids,m' i=m i):RV m' S w v x:=by
  cases x with
  | w x=>exact RW.congr h e
  | tup ws =>
    obtain⟨us,h1,h2⟩:=h;exact⟨us,h1,h2.weak fun _ c _ hc h=>h.congr fun i hi=>e i (aqc.2 ⟨c,hc,hi⟩)⟩
  | undef=>trivial
theorem dw.step {m m':Mp} {S S':aT} {w w':World} {sz:Nat} {cur:Array Value} {o:Ob} (h:dw m S w sz cur o) (k:bR S w w') (hS:∀ b i,S b i→S' b i) (e:∀ i∈o.ids,m' i=m i):dw m' S' w' sz cur o:=by
  cases o with
  | row s es =>
    refine⟨h.1,fun i hi=>⟨(h.2 i hi).1,fun j hj=>?_⟩⟩;obtain⟨v,h1,h2⟩:=(h.2 i hi).2 j hj;exact⟨v,h1,(h2.keep k).mono hS⟩
  | box cs =>
    refine⟨h.1,fun j hj=>?_⟩;obtain⟨v,h1,h2⟩:=h.2 j hj;refine⟨v,h1,((h2.keep k).mono hS).congr fun i hi=>e i ?_⟩;exact aqc.2 ⟨cs[j],aqr hj,hi⟩
  | mp q es=>trivial
  | it q left last=>trivial
theorem gG.step {m m':Mp} {S S':aT} {w w':World} {b:Nat} {cur:Array Value} {ty:TypeId} {fz:Nat×Nat} {o:Ob} (h:gG m S w b cur ty fz o) (k:bR S w w') (hS:∀ b i,S b i→S' b i) (e:∀ i∈o.ids,m' i=m i) (hb:w'.heap[b]?=w.heap[b]?):gG m' S' w' b cur ty fz o:=by
  cases o with
  | row s es=>exact hb.trans h
  | box cs=>exact hb.trans h
  | mp q es =>
    obtain⟨E,c,h1,h2,h3⟩:=h;exact⟨E,c,hb.trans h1,h2.weak fun _ p _ hp h=>⟨h.1,((h.2.keep k).mono hS).congr fun i hi=>e i (aqc.2 ⟨p,hp,hi⟩)⟩,h3⟩
  | it q left last =>
    rcases h with ⟨h1,h2⟩ | ⟨bm,c,seen,h1,h2,E,h3,h4,h5,h6⟩
    ·exact .inl ⟨hb.trans h1,h2⟩
    ·have kE:∀ e p,t8 S w q e p→t8 S' w' q e p:=fun e p h=>⟨h.1,(h.2.keep k).mono hS⟩
     exact .inr ⟨bm,c,seen,hb.trans h1,hS _ _ h2,E,k.map _ _ _ _ h2 h3,h4,h5.weak fun _ _ _ _ h=>kE _ _ h,fun p hp=>by grind⟩
theorem bT.step {m m':Mp} {S S':aT} {B:Nat→Prop} {w w':World} {id:Nat} {o:Ob} (h:bT m S B w id o) (k:bR S w w') (hS:∀ b i,S b i→S' b i) (e:∀ i∈o.ids,m' i=m i) (e0:m' id=m id)
    (hb:∀ b s,m id=some (b,s)→w'.heap[b]?=w.heap[b]?∧∀ i,¬ S' b i):bT m' S' B w' id o:=by
  unfold bT at *
  rw[e0];split at h
  ·exact h
  ·rename_i b s hm;obtain⟨h1,h2,h3,cur,ty,fz,h4,h5,h6⟩:=h;obtain⟨g1,g2⟩:=hb b s hm;exact⟨h1,h2,g2,cur,ty,fz,h4.step k hS e g1,h5,h6.step k hS e⟩
theorem bT.lt {m:Mp} {S:aT} {B:Nat→Prop} {w:World} {id:Nat} {o:Ob} (h:bT m S B w id o) {b s:Nat} (hm:m id=some (b,s)):b<w.heap.size:=by
  unfold bT at h;rw[hm] at h;obtain⟨_,_,_,cur,ty,fz,h4,_⟩:=h;rcases aqk b w.heap.size with hlt | hge
  ·exact hlt
  ·obtain⟨x,hx⟩:=h4.some;rw[Array.getElem?_eq_none hge] at hx; cases hx
theorem bT.apart {m:Mp} {S:aT} {B:Nat→Prop} {w:World} {id:Nat} {o:Ob} (h:bT m S B w id o) {b s:Nat} (hm:m id=some (b,s)):∀ i,¬ S b i:=by
  unfold bT at h;rw[hm] at h;exact h.2.2.1
theorem nY.step {G:au} {S S':aT} {w w':World} (h:nY G S w) (k:bR S w w') (hS:∀ b i,S b i→S' b i):nY G S' w' :=
  fun p hp=>⟨((h p hp).1.keep k).mono hS,(h p hp).2.1,fun es he h1=>by obtain⟨ty,h2⟩:=(h p hp).2.2 es he h1; exact⟨ty,k.shape _ _ h2⟩⟩
theorem Nh {a:Act} {d:Option Tmp} {v:Value} {t:Nat}:(a.put d v).tmps.getD t undef=if d=some t∧t<a.tmps.size then v else a.tmps.getD t undef:=by
  cases d with
  | none=>simp[Act.put]
  | some i =>
    simp only[Act.put,ap2];by_cases h:i=t
    ·simp_all
    simp_all
theorem size_put (a:Act) (d:Option Tmp) (v:Value):(a.put d v).tmps.size=a.tmps.size:=by cases d <;> simp[Act.put]
theorem Wi (a:Act) (d:Option Tmp) (v:Value):(a.put d v).defers=a.defers:=by cases d <;> rfl
section
variable {G:au} {N:Nat} {Sin:aT} {w0:Gh} {σ:St} {a:Act} {w:World} {S:aT} {m:Mp}
theorem Inv.put (h:Inv G N Sin w0 σ a w S m) (d:Option Nat) (hd:∀ t,d=some t→t<N∧w0.fx t=none) {v:Value} {x:V} (hv:RV m S w v x) (hx:∀ i∈x.ids,σ.u i=true) :
    Inv G N Sin w0 ⟨bY σ.f d x,σ.h,σ.u⟩ (a.put d v) w S m:=by
  refine⟨by rw[size_put]; exact h.size,by rw[Wi]; exact h.defers,fun t=>?_,fun t i hi=>?_,h.obj,h.inj,h.sin,h.sub,h.glob,h.below,h.oth,h.kso,h.sso,fun t v ht=>?_⟩
  ·rw[Nh];by_cases e:d=some t
   ·subst e;rw[if_pos ⟨rfl,by rw[h.size]; exact (hd t rfl).1⟩];simp only[bY,upd,if_true];exact hv
   ·rw[if_neg (fun k=>e k.1)];have:bY σ.f d x t=σ.f t:=by
      cases d with
      | none=>rfl
      | some i=>simp only[bY,upd]; rw[if_neg (fun k=>e (by rw[k]))]
    show RV m S w _ (bY σ.f d x t)
    rw[this]; exact h.slot t
  ·show σ.u i=true
   have hi':i∈(bY σ.f d x t).ids:=hi;cases d with
   | none=>exact h.used t i hi'
   | some k =>
     simp only[bY,upd] at hi';split at hi'
     ·exact hx i hi'
     ·exact h.used t i hi'
  ·rw[Nh,if_neg (fun k=>by have:=(hd t k.1).2; rw[ht] at this; cases this)];exact h.fix t v ht
theorem Inv.move (h:Inv G N Sin w0 σ a w S m) {w':World} {S':aT} {m':Mp} {h':aI} {u':Nat→Bool} (k:bR S w w') (ko:eX w w') (hS:∀ b i,S b i→S' b i) (hm:∀ i,σ.u i=true→m' i=m i) (hu:∀ i,σ.u i=true→u' i=true)
    (obj:∀ id o,h' id=some o→bT m' S' w0.may w' id o∧u' id=true∧∀ j∈o.ids,u' j=true)
    (inj:∀ i j b s s',h' i≠none→h' j≠none→m' i=some (b,s)→m' j=some (b,s')→i=j)
    (sin:∀ b i,S' b i→b<w'.heap.size∧(Sin b i∨w0.may b)) (below:dz w0.heap.size w0.ext w0 w') :
    Inv G N Sin w0 ⟨σ.f,h',u'⟩ a w' S' m' :=
  ⟨h.size,h.defers.keep ko,fun t=>(((h.slot t).keep k).mono hS).congr fun i hi=>hm i (h.used t i hi),fun t i hi=>hu i (h.used t i hi),obj,inj,sin,fun b i hi=>hS b i (h.sub b i hi),h.glob.step k hS,below,h.oth.trans ko,h.kso.trans (k.sub h.sso),fun b i hs=>hS b i (h.sso b i hs),h.fix⟩
theorem Inv.bsize (h:Inv G N Sin w0 σ a w S m):w0.heap.size≤w.heap.size:=h.below.size
theorem uJ {w w':World} {S:aT} (hS:∀ b i,S b i→b<w.heap.size) (h:∀ b,b<w.heap.size→w'.heap[b]?=w.heap[b]?):bR S w w':=by
  refine⟨fun b i v hs hv=>?_,fun b s hs=>?_,fun b i E c hs hb=>(h b (hS b i hs)).trans hb⟩
  ·unfold World.cell? at *; rw[h b (hS b i hs)]; exact hv
  ·have hb:b<w.heap.size:=by
     unfold World.shape? at hs;grind
   unfold World.shape? at *; rw[h b hb]; exact hs
theorem Inv.grow (h:Inv G N Sin w0 σ a w S m) {w':World} (hb:∀ b,b<w.heap.size→w'.heap[b]?=w.heap[b]?) (below:dz w0.heap.size w0.ext w0 w') (hsz:w.heap.size≤w'.heap.size):Inv G N Sin w0 σ a w' S m:=by
  have k:bR S w w':=uJ (fun b i hs=>(h.sin b i hs).1) hb
  have:=h.move (h':=σ.h) (u':=σ.u) (S':=S) (m':=m) k (Lw hb hsz) (fun _ _ h=>h) (fun _ _=>rfl) (fun _ h=>h)
    (fun id o ho=>⟨(h.obj id o ho).1.step k (fun _ _ h=>h) (fun _ _=>rfl) rfl fun b s hm=>⟨hb b ((h.obj id o ho).1.lt hm),(h.obj id o ho).1.apart hm⟩,(h.obj id o ho).2⟩)
    h.inj (fun b i hs=>⟨Nat.lt_of_lt_of_le (h.sin b i hs).1 hsz,(h.sin b i hs).2⟩) below
  exact this
theorem Inv.drew (h:Inv G N Sin w0 σ a w S m):Inv G N Sin w0 σ a w.drew S m :=
  h.grow (fun _ _=>rfl) (h.below.step (ap3 _) (Below.refl _ w).drew) (ap3 _)
theorem Inv.newRo (h:Inv G N Sin w0 σ a w S m) (o:Obj):Inv G N Sin w0 σ a (w.alloc o) (fun b i=>S b i∨b=w.heap.size) m:=by
  have hb:∀ b,b<w.heap.size→(w.alloc o).heap[b]?=w.heap[b]?:=fun b hlt=>Below.heap_alloc w o b hlt
  have k:bR S w (w.alloc o):=uJ (fun b i hs=>(h.sin b i hs).1) hb;refine h.move k (eX.alloc w o) (fun _ _ h=>.inl h) (fun _ _=>rfl) (fun _ h=>h) (fun id ob ho=>?_) h.inj (fun b i hs=>?_) (h.below.step (ap3 _) ((Below.refl _ w).alloc (ap3 _) o))
  ·refine⟨(h.obj id ob ho).1.step k (fun _ _ h=>.inl h) (fun _ _=>rfl) rfl fun b s hm=>?_,(h.obj id ob ho).2⟩;have hlt:=(h.obj id ob ho).1.lt hm;exact⟨hb b hlt,fun i hi=>hi.elim ((h.obj id ob ho).1.apart hm i) (fun e=>by omega)⟩
  ·rcases hs with hs | rfl
   ·exact⟨by have:=(h.sin b i hs).1; simp; omega,(h.sin b i hs).2⟩
   ·exact⟨by simp,.inr (.inl h.bsize)⟩
theorem Inv.newObj (o2:Obj) (h:Inv G N Sin w0 σ a w S m) {id sz:Nat} {ob:Ob} {cur:Array Value} {ty:TypeId} {fz:Nat×Nat} (hu:σ.u id=false) (hsz:ob.sz=sz) (hfz:iX cur fz) (hc:dw m S w sz cur ob) (hids:∀ j∈ob.ids,σ.u j=true) (hblk:gG m S (w.alloc o2) w.heap.size cur ty fz ob) :
    Inv G N Sin w0 ⟨σ.f,upd σ.h id (some ob),upd σ.u id true⟩ a (w.alloc o2) S (upd m id (some (w.heap.size,sz))):=by
  have hb:∀ b,b<w.heap.size→(w.alloc o2).heap[b]?=w.heap[b]?:=fun b hlt=>Below.heap_alloc w _ b hlt
  have k:bR S w (w.alloc o2):=uJ (fun b i hs=>(h.sin b i hs).1) hb;have hm:∀ i,σ.u i=true→upd m id (some (w.heap.size,sz)) i=m i:=fun i hi=>by
    unfold upd; rw[if_neg (fun e=>by rw[e,hu] at hi; cases hi)]
  have huu:∀ i,σ.u i=true→upd σ.u id true i=true:=fun i hi=>by unfold upd; split <;> simp_all
  refine h.move k (eX.alloc w _) (fun _ _ h=>h) hm huu (fun i o ho=>?_) (fun i j b s s' h1 h2 h3 h4=>?_) (fun b i hs=>⟨by have:=(h.sin b i hs).1; simp; omega,(h.sin b i hs).2⟩) (h.below.step (ap3 _) ((Below.refl _ w).alloc (ap3 _) _))
  ·by_cases e:i=id
   ·subst e;simp only[upd,if_true,ap2] at ho;subst ho;refine⟨?_,by simp[upd],fun j hj=>huu j (hids j hj)⟩;unfold bT;simp only[upd,if_true];exact⟨hsz,.inl h.bsize,fun q hq=>by have:=(h.sin _ q hq).1; omega,cur,ty,fz,hblk.step (bR.refl _ _) (fun _ _ h=>h) (fun j hj=>hm j (hids j hj)) rfl,hfz,hc.step k (fun _ _ h=>h) fun j hj=>hm j (hids j hj)⟩
   ·simp only[upd,e,if_false] at ho;have ho':=h.obj i o ho;refine⟨ho'.1.step k (fun _ _ h=>h) (fun j hj=>hm j (ho'.2.2 j hj)) (hm i ho'.2.1) fun b s hb'=>⟨hb b (ho'.1.lt hb'),ho'.1.apart hb'⟩,huu i ho'.2.1,fun j hj=>huu j (ho'.2.2 j hj)⟩
  ·have live:∀ i b s,upd σ.h id (some ob) i≠none→upd m id (some (w.heap.size,sz)) i=some (b,s)→i≠id→σ.h i≠none∧m i=some (b,s)∧b<w.heap.size:=by
     intro i b s g1 g2 e;simp only[upd,e,if_false] at g1 g2;obtain⟨o,ho⟩:=aqe.1 g1;exact⟨g1,g2,(h.obj i o ho).1.lt g2⟩
   by_cases e1:i=id
   ·by_cases e2:j=id
    ·rw[e1,e2]
    ·have:=live j b s' h2 h4 e2;subst e1;simp only[upd,if_true,ap2,Prod.mk.injEq] at h3;omega
   ·have l1:=live i b s h1 h3 e1;by_cases e2:j=id
    ·subst e2;simp only[upd,if_true,ap2,Prod.mk.injEq] at h4;omega
    ·have l2:=live j b s' h2 h4 e2;exact h.inj i j b s s' l1.1 l2.1 l1.2.1 l2.2.1
theorem Inv.newOb (h:Inv G N Sin w0 σ a w S m) {id sz:Nat} {ob:Ob} {cur:Array Value} {ty:TypeId} {fz:Nat×Nat} (hu:σ.u id=false) (hsz:ob.sz=sz) (hfz:iX cur fz) (hc:dw m S w sz cur ob) (hids:∀ j∈ob.ids,σ.u j=true) (hmp:ob.isMp=false:=by rfl) :
    Inv G N Sin w0 ⟨σ.f,upd σ.h id (some ob),upd σ.u id true⟩ a (w.alloc (.cells cur ty fz)) S (upd m id (some (w.heap.size,sz))) :=
  h.newObj _ hu hsz hfz hc hids (gG.of (heap_alloc_new w _) hmp)
theorem Inv.newNil (h:Inv G N Sin w0 σ a w S m) {id sz:Nat} (hu:σ.u id=false) :
    Inv G N Sin w0 ⟨σ.f,upd σ.h id (some (.row sz [])),upd σ.u id true⟩ a w S (upd m id none):=by
  have hm:∀ i,σ.u i=true→upd m id none i=m i:=fun i hi=>by
    unfold upd; rw[if_neg (fun e=>by rw[e,hu] at hi; cases hi)]
  have huu:∀ i,σ.u i=true→upd σ.u id true i=true:=fun i hi=>by unfold upd; split <;> simp_all
  refine h.move (bR.refl _ _) (eX.refl _) (fun _ _ h=>h) hm huu (fun i o ho=>?_) (fun i j b s s' h1 h2 h3 h4=>?_) h.sin h.below
  ·by_cases e:i=id
   ·subst e;simp only[upd,if_true,ap2] at ho;subst ho;refine⟨?_,by simp[upd],fun j hj=>by simp[Ob.ids] at hj⟩;unfold bT;simp only[upd,if_true];exact⟨_,rfl⟩
   ·simp only[upd,e,if_false] at ho;have ho':=h.obj i o ho;exact⟨ho'.1.step (bR.refl _ _) (fun _ _ h=>h) (fun j hj=>hm j (ho'.2.2 j hj)) (hm i ho'.2.1) fun b s hb'=>⟨rfl,ho'.1.apart hb'⟩,huu i ho'.2.1,fun j hj=>huu j (ho'.2.2 j hj)⟩
  ·have ne:∀ i b s,upd m id none i=some (b,s)→i≠id:=fun i b s g e=>by rw[e] at g; simp[upd] at g
   have e1:=ne i b s h3;have e2:=ne j b s' h4;simp only[upd,e1,e2,if_false] at h1 h2 h3 h4;exact h.inj i j b s s' h1 h2 h3 h4
theorem Inv.kill (h:Inv G N Sin w0 σ a w S m) (id:Nat):Inv G N Sin w0 ⟨σ.f,upd σ.h id none,σ.u⟩ a w S m:=by
  have sub:∀ i o,upd σ.h id none i=some o→σ.h i=some o:=fun i o hi=>by
    unfold upd at hi; split at hi
    ·cases hi
    ·exact hi
  refine⟨h.size,h.defers,h.slot,h.used,fun i o ho=>h.obj i o (sub i o ho),fun i j b s s' h1 h2 h3 h4=>?_,h.sin,h.sub,h.glob,h.below,h.oth,h.kso,h.sso,h.fix⟩;refine h.inj i j b s s' ?_ ?_ h3 h4
  ·obtain⟨o,ho⟩:=aqe.1 h1; rw[sub i o ho]; simp
  ·obtain⟨o,ho⟩:=aqe.1 h2; rw[sub j o ho]; simp
theorem Inv.freeze (h:Inv G N Sin w0 σ a w S m) (id:Nat) (o:Ob) (ho:σ.h id=some o) :
    Inv G N Sin w0 ⟨σ.f,upd σ.h id none,σ.u⟩ a w (fun b i=>S b i∨∃ s,m id=some (b,s)) m:=by
  have hk:=h.kill id;have hS:∀ b i,S b i→S b i∨∃ s,m id=some (b,s):=fun _ _ h=>.inl h
  refine hk.move (bR.refl _ _) (eX.refl _) hS (fun _ _=>rfl) (fun _ h=>h) (fun i ob hi=>?_) hk.inj (fun b i hs=>?_) h.below
  ·have h1:=hk.obj i ob hi;refine⟨h1.1.step (bR.refl _ _) hS (fun _ _=>rfl) rfl fun b s hb=>⟨rfl,fun q hq=>?_⟩,h1.2⟩;rcases hq with hq | ⟨s',hs'⟩
   ·exact h1.1.apart hb q hq
   ·have hne:i≠id:=fun e=>by subst e; simp[upd] at hi
    have hi':σ.h i=some ob:=by simpa [upd,hne] using hi
    exact hne (h.inj i id b s s' (by rw[hi']; simp) (by rw[ho]; simp) hb hs')
  ·rcases hs with hs | ⟨s,hs⟩
   ·exact h.sin b i hs
   ·refine⟨(h.obj id o ho).1.lt hs,.inr ?_⟩;have:=(h.obj id o ho).1;unfold bT at this;rw[hs] at this;exact this.2.1
theorem Inv.write (h:Inv G N Sin w0 σ a w S m) {id b sz:Nat} {o o':Ob} {cur cur':Array Value} {ty:TypeId} {fz:Nat×Nat} {w':World} (ho:σ.h id=some o) (hm:m id=some (b,sz)) (hsz:o'.sz=sz)
    (hcur:w.heap[b]?=some (.cells cur ty fz)) (hcur':w'.heap[b]?=some (.cells cur' ty fz)) (hlen:cur'.size=cur.size)
    (hother:∀ k,k≠b→w'.heap[k]?=w.heap[k]?) (hc:dw m S w sz cur' o') (hids:∀ j∈o'.ids,σ.u j=true) (below:dz w0.heap.size w0.ext w0 w') (hsize:w'.heap.size=w.heap.size) (hmp:o'.isMp=false:=by rfl) :
    Inv G N Sin w0 ⟨σ.f,upd σ.h id (some o'),σ.u⟩ a w' S m:=by
  have hob:=(h.obj id o ho).1;have hap:=hob.apart hm;unfold bT at hob;rw[hm] at hob;obtain⟨g1,g2,g3,cur0,ty0,fz0,g4,g5,g6⟩:=hob;have g4:=(g4.cells hcur).1;rw[hcur] at g4;obtain⟨rfl,rfl,rfl⟩:cur=cur0∧ty=ty0∧fz=fz0:=by simpa using g4
  have k:bR S w w':=by
    refine⟨fun x i v hs hv=>?_,fun x s hs=>?_,fun x i E c hs hb=>(hother x fun e=>hap i (e ▸ hs)).trans hb⟩
    ·have hx:x≠b:=fun e=>hap i (e ▸ hs)
     unfold World.cell? at *; rw[hother x hx]; exact hv
    ·by_cases hx:x=b
     ·subst hx;unfold World.shape? at *
      rw[hcur] at hs;rw[hcur',← hs];simp[hlen]
     ·unfold World.shape? at *; rw[hother x hx]; exact hs
  refine h.move k (Lq hcur hother hsize) (fun _ _ h=>h) (fun _ _=>rfl) (fun _ h=>h) (fun i ob hi=>?_) (fun i j x s s' h1 h2 h3 h4=>?_) (fun x i hs=>by rw[hsize]; exact h.sin x i hs) below
  ·by_cases e:i=id
   ·subst e;simp only[upd,if_true,ap2] at hi;subst hi;refine⟨?_,(h.obj i o ho).2.1,hids⟩;unfold bT;rw[hm];exact⟨hsz,g2,g3,cur',ty,fz,gG.of hcur' hmp,g5.of_size hlen,hc.step k (fun _ _ h=>h) fun _ _=>rfl⟩
   ·simp only[upd,e,if_false] at hi;have h1:=h.obj i ob hi;refine⟨h1.1.step k (fun _ _ h=>h) (fun _ _=>rfl) rfl fun x s hx=>⟨?_,h1.1.apart hx⟩,h1.2⟩;refine hother x fun e'=>e ?_
    subst e';exact h.inj i id x s sz (by rw[hi]; simp) (by rw[ho]; simp) hx hm
  ·have live:∀ i,upd σ.h id (some o') i≠none→σ.h i≠none:=by
     grind [upd]
   exact h.inj i j x s s' (live i h1) (live j h2) h3 h4
theorem Inv.writeObj (h:Inv G N Sin w0 σ a w S m) {id b sz:Nat} {ob ob':Ob} {x y:Obj} (ho:σ.h id=some ob) (hm:m id=some (b,sz))
    (hcur:w.heap[b]?=some x) (hx:wO x=true) (hxc:∀ c t f,x≠.cells c t f) (hsz:ob'.sz=ob.sz) (hcl:∀ cur w',dw m S w' sz cur ob')
    (hblk:∀ w' cur ty fz,bR S w w'→w'.heap[b]?=some y→gG m S w' b cur ty fz ob') (hids:∀ j∈ob'.ids,σ.u j=true) :
    Inv G N Sin w0 ⟨σ.f,upd σ.h id (some ob'),σ.u⟩ a { w with heap:=w.heap.setIfInBounds b y } S m:=by
  have hob:=(h.obj id _ ho).1;have hap:=hob.apart hm;have hlt:=hob.lt hm;unfold bT at hob;rw[hm] at hob;obtain⟨g1,g2,g3,cur0,ty0,fz0,g4,g5,g6⟩:=hob;have hother:∀ k,k≠b→(w.heap.setIfInBounds b y)[k]?=w.heap[k]?:=fun k hk=>by
    rw[Array.getElem?_setIfInBounds_ne (fun e=>hk e.symm)]
  have hcur':(w.heap.setIfInBounds b y)[b]?=some y:=by
    simp[hlt]
  have k:bR S w { w with heap:=w.heap.setIfInBounds b y }:=by
    refine⟨fun x i v hs hv=>?_,fun x s hs=>?_,fun x i E c hs hb=>(hother x fun e=>hap i (e ▸ hs)).trans hb⟩
    ·have hx:x≠b:=fun e=>hap i (e ▸ hs)
     unfold World.cell? at *; simp only[hother x hx]; exact hv
    ·by_cases hx:x=b
     ·subst hx;unfold World.shape? at hs;grind
     ·unfold World.shape? at *; simp only[hother x hx]; exact hs
  refine h.move k ⟨by simp,fun x o hx' hl=>?_⟩ (fun _ _ h=>h) (fun _ _=>rfl) (fun _ h=>h) (fun i ob hi=>?_) (fun i j x s s' h1 h2 h3 h4=>?_) (fun x i hs=>by simpa using h.sin x i hs) (h.below.trans ⟨rfl,rfl,rfl,by simp,fun x hx hB=>hother x fun e=>?_⟩)
  ·grind
  ·by_cases e:i=id
   ·subst e;simp only[upd,if_true,ap2] at hi;subst hi;refine⟨?_,(h.obj i _ ho).2.1,hids⟩;unfold bT;rw[hm];exact⟨hsz.trans g1,g2,g3,cur0,ty0,fz0,hblk _ _ _ _ k hcur',g5,hcl _ _⟩
   ·simp only[upd,e,if_false] at hi;have h1:=h.obj i _ hi;refine⟨h1.1.step k (fun _ _ h=>h) (fun _ _=>rfl) rfl fun x s hx=>⟨?_,h1.1.apart hx⟩,h1.2⟩;refine hother x fun e'=>e ?_
    subst e';exact h.inj i id x s sz (by rw[hi]; simp) (by rw[ho]; simp) hx hm
  ·have live:∀ i,upd σ.h id (some ob') i≠none→σ.h i≠none:=by
     grind [upd]
   exact h.inj i j x s s' (live i h1) (live j h2) h3 h4
  ·subst e;rcases g2 with g2 | g2
   ·omega
   ·exact hB g2
theorem Inv.writeMp (h:Inv G N Sin w0 σ a w S m) {id b sz:Nat} {q:IntKind} {es es':List (Int×C)} {E E':Array MapEntry} {clock clock':Nat} (ho:σ.h id=some (.mp q es)) (hm:m id=some (b,sz))
    (hcur:w.heap[b]?=some (.map E clock)) (hE:H2 m S w q E' es') (hBo:jQ E' clock') (hids:∀ j∈(Ob.mp q es').ids,σ.u j=true) :
    Inv G N Sin w0 ⟨σ.f,upd σ.h id (some (.mp q es')),σ.u⟩ a { w with heap:=w.heap.setIfInBounds b (.map E' clock') } S m :=
  h.writeObj ho hm hcur rfl (fun _ _ _ e=>by cases e) rfl (fun _ _=>trivial) (fun w' _ _ _ k hb=>⟨E',clock',hb,hE.weak fun _ _ _ _ h=>⟨h.1,h.2.keep k⟩,hBo⟩) hids
theorem Inv.mark (h:Inv G N Sin w0 σ a w S m) {id b sz:Nat} {o:Ob} {cur:Array Value} {ty:TypeId} {fz fz':Nat×Nat} {w':World} (ho:σ.h id=some o) (hm:m id=some (b,sz))
    (hcur:w.heap[b]?=some (.cells cur ty fz)) (hcur':w'.heap[b]?=some (.cells cur ty fz')) (hth:iX cur fz')
    (hother:∀ k,k≠b→w'.heap[k]?=w.heap[k]?) (below:dz w0.heap.size w0.ext w0 w') (hsize:w'.heap.size=w.heap.size) :
    Inv G N Sin w0 σ a w' S m:=by
  have hob:=(h.obj id o ho).1;have hap:=hob.apart hm;unfold bT at hob;rw[hm] at hob;obtain⟨g1,g2,g3,cur0,ty0,fz0,g4,g5,g6⟩:=hob;have hmp:=(g4.cells hcur).2;have g4:=(g4.cells hcur).1;rw[hcur] at g4;obtain⟨rfl,rfl,rfl⟩:cur=cur0∧ty=ty0∧fz=fz0:=by simpa using g4
  have k:bR S w w':=by
    refine⟨fun x i v hs hv=>?_,fun x s hs=>?_,fun x i E c hs hb=>(hother x fun e=>hap i (e ▸ hs)).trans hb⟩
    ·have hx:x≠b:=fun e=>hap i (e ▸ hs)
     unfold World.cell? at *; rw[hother x hx]; exact hv
    ·by_cases hx:x=b
     ·subst hx;unfold World.shape? at *
      rw[hcur] at hs;rw[hcur',← hs]
     ·unfold World.shape? at *; rw[hother x hx]; exact hs
  refine h.move k (Lq hcur hother hsize) (fun _ _ h=>h) (fun _ _=>rfl) (fun _ h=>h) (fun i ob hi=>?_) (fun i j x s s' h1 h2 h3 h4=>h.inj i j x s s' h1 h2 h3 h4) (fun x i hs=>by rw[hsize]; exact h.sin x i hs) below;by_cases e:i=id
  ·subst e;rw[ho] at hi;cases hi;refine⟨?_,(h.obj i o ho).2.1,(h.obj i o ho).2.2⟩;unfold bT;rw[hm];exact⟨g1,g2,g3,cur,ty,fz',gG.of hcur' hmp,hth,g6.step k (fun _ _ h=>h) fun _ _=>rfl⟩
  ·have h1:=h.obj i ob hi;refine⟨h1.1.step k (fun _ _ h=>h) (fun _ _=>rfl) rfl fun x s hx=>⟨?_,h1.1.apart hx⟩,h1.2⟩;refine hother x fun e'=>e ?_
   subst e';exact h.inj i id x s sz (by rw[hi]; simp) (by rw[ho]; simp) hx hm
end
structure Hint where
  own:List Nat:=[]
  comp:List (Nat×Nat):=[]
  frz:List Nat:=[]
  nils:List Nat:=[]
  bx:List Nat:=[]
  lx:List (Nat×List Nat):=[]
  pur:List Nat:=[]
  bad:Bool:=false
  mt:List Nat:=[]
  mv:Bool:=false
  gh:List (Nat×Nat):=[]
  md:List (Nat×List Nat):=[]
deriving Inhabited
def nZ:Value→Option C
  | .int k n=>some (.d (.int k n))
  | .bool b=>some (.d (.bool b))
  | .string s=>some (.d (.str s))
  | .slice none 0 0=>some .nil
  | .map none=>some (.d (.mp .i64 []))
  | _=>none
def pi:Value→Option D
  | .int k n=>some (.int k n)
  | .bool b=>some (.bool b)
  | .string s=>some (.str s)
  | .slice none 0 0=>some (.sl [])
  | .map none=>some (.mp .i64 [])
  | _=>none
def Il:Value→Option W
  | .agg cs=>(bE pi cs.toList).map fun ds=>.c (.d (.agg ds))
  | v=>(nZ v).map .c
def be:Operand→Option SX
  | .tmp t=>some (.t t)
  | .const v=>match Il v with | some x=>some (.k x) | none=>some .u
  | .global g=>some (.g g)
  | .func f=>some (.k (.c (.d (.fn f []))))
def jS:Option Operand→Option (Option SX)
  | none=>some none
  | some x=>(be x).map some
section
variable (P:Program)
def ga (t:TypeId):Option Kd :=
  match P.info? t,P.underlying t with
  | some i,some (.struct _)=>some (.ag i.size)
  | some i,some (.array _ _)=>some (.ag i.size)
  | some i,some _=>if i.size=1 then some .sc else none
  | _,_=>none
def mI (e:TypeId):Option (Nat×Nat×D) :=
  match ga P e,P.info? e with
  | some .sc,some i=>match i.zero with | some z=>(pi z).map fun d=>(1,i.bytes,d) | none=>none
  | some (.ag n),some i=>match i.zero with | some z=>(match bE pi z.cells.toList with | some ds=>if 0<n∧ds.length=n then some (n,i.bytes,.agg ds) else none | none=>none) | none=>none
  | _,_=>none
def El (e:TypeId):Option D :=
  match P.info? e with
  | some i=>(match i.zero with | some (.agg cs)=>if cs.size=0 then some (.agg []) else none | some z=>pi z | none=>none)
  | none=>none
def sG (t:TypeId):Option (IntKind×D) :=
  match P.underlying t with
  | some (.map k e)=>(match P.underlying k,El P e with | some (.int q),some z=>some (q,z) | _,_=>none)
  | _=>none
def gZ (t:TypeId):Option (TypeId×Nat×Nat×D) :=
  match P.underlying t with
  | some (.slice e)=>(mI P e).map fun (s,b,z)=>(e,s,b,z)
  | _=>none
def isNil (H:Hint) (o:Oper):SX→Bool
  | .k (.c .nil)=>true
  | _=>match o.dst with | some d=>decide (d∈H.nils) | none=>false
def O9 (H:Hint) (o:Oper):Option (Option (Nat×Nat)) :=
  match o.dst with
  | some d=>if d∈H.pur then some (some (0,0)) else if d∈H.own then (match gZ P o.type with | some (_,s,_,_)=>some (some (0,s)) | none=>none)
    else match H.comp.find? (·.1==d) with
      | some (_,k)=>match P.underlying o.type with
        | some (.tuple ts)=>match (ts[k]?).bind (gZ P) with | some (_,s,_,_)=>some (some (k,s)) | none=>none
        | some (.struct _)=>some (some (k%1000,k / 1000))
        | _=>none
      | none=>some none
  | none=>some none
def K9 (H:Hint) (o:Oper):Bool:=match o.dst with | some d=>decide (d∈H.mt) | none=>H.mv
def Em (H:Hint) (o:Oper) (xs:List SX):List SX:=match o.dst with
  | some d=>match H.md.find? fun p=>p.1==d with | some p=>xs++.u::p.2.map SX.t | none=>xs
  | none=>xs
theorem Rs {H:Hint} {o:Oper} {xs:List SX} (h:xs.any SX.isU=false):fR (Em H o xs)=xs:=by
  unfold Em;split
  ·split
   ·exact Mf h
   ·exact FV h
  ·exact FV h
def FW (H:Hint) (o:Oper) (c:Call):Option bK :=
  match c.callee with
  | .value (.func f)=>match P.funcs[f]?,bE be c.args.toList,O9 P H o with
    | some fn, some xs, some own => if fn.body.isSome ∧ (fn.name == "runtime.NumGoroutine") = false ∧ f ≠ jD then (if K9 H o = true then (if xs.any SX.isU = true then none else some (.callM f (Em H o xs))) else some (.call f xs own)) else none
    | _,_,_=>none
  | .value x=>match bE be (x::c.args.toList),O9 P H o with
    | some xs,some own=>if K9 H o=true then (if xs.any SX.isU=true then none else some (.callM jD (Em H o xs))) else some (.call jD xs own)
    | _,_=>none
  | .builtin .len=>match c.argTypes.toList,c.args.toList with
    | [t],[x]=>match P.underlying t,be x with
      | some (.slice _),some x=>some (.len x)
      | some .string,some x=>some (.lenStr x)
      | some (.array n _),_=>some (.lenArr n)
      | _,_=>none
    | _,_=>none
  | .builtin .append=>match c.argTypes.toList,c.args.toList with
    | [t,u],[x,y]=>match gZ P t,be x,be y with
      | some (e,s,b,_),some x,some y=>match P.underlying u with
        | some (.slice e')=>if e'=e then some (if isNil H o x then .appN false s b x y else .app false s b x y) else none
        | some .string=>if s=1 then some (if isNil H o x then .appN true s b x y else .app true s b x y) else none
        | _=>none
      | _,_,_=>none
    | _,_=>none
  | .builtin .copy=>match c.argTypes.toList,c.args.toList with
    | [t,u],[x,y]=>match gZ P t,be x,be y with
      | some (e,s,_,_),some x,some y=>match P.underlying u with
        | some (.slice e')=>if e'=e then some (.copy s x y) else none
        | _=>none
      | _,_,_=>none
    | _,_=>none
  | .builtin .min=>(bE be c.args.toList).map .min
  | .builtin .max=>(bE be c.args.toList).map .max
  | _=>none
def v9 (H:Hint) (o:Oper):Bool:=match o.dst with | some d=>decide (d∈H.own) | none=>false
def apk (H:Hint) (o:Oper):Bool:=match o.dst with | some d=>decide (d∈H.bx) | none=>false
def apl (H:Hint) (o:Oper):Option (List Nat):=match o.dst with | some d=>(H.lx.find? fun p=>p.1==d).map (·.2) | none=>none
def am6 (H:Hint):SX→Option Nat | .t n=>(H.lx.find? fun p=>p.1==n).bind fun p=>p.2.head? | _=>none
def wa (H:Hint) (o:Oper):Bool:=match o.dst with | some d=>decide (d∈H.frz) | none=>false
def BW (H:Hint) (o:Oper) (x:Operand):Option bK :=
  match be x with
  | some y=>if wa H o=true then some (.frz y) else if v9 H o=true then (match y with
      | .k (.c .nil)=>(match gZ P o.type with | some (_,s,_,_)=>some (.nilOwn s) | none=>none)
      | _=>some (.mv y))
    else some (.mv y)
  | none=>none
def La (t:TypeId):Option Nat:=match P.underlying t with
  | some (.int _)=>some 0
  | some .bool=>some 1
  | some .string=>some 2
  | _=>none
def DN:List Field→Nat→Option (List Nat)
  | [],_=>some []
  | f :: r, i => if f.name ≠ "_" ∧ f.offset = i then match La P f.type, DN r (i + 1) with
    | some k,some ks=>some (k::ks)
    | _,_=>none
    else none
def KF (t:TypeId):Option (List Nat):=match P.underlying t with
  | some (.struct fs)=>if P.stoodInHeld t=false∧P.eqGuardType P.depth t=false then DN P fs.toList 0 else none
  | _=>none
def yD (H:Hint) (o:Oper):Option bK :=
  match o.op with
  | .move x=>BW P H o x
  | .assign x=>BW P H o x
  | .pick c a b=>match be c,be a,be b with | some c,some a,some b=>some (.pick c a b) | _,_,_=>none
  | .alloc t=>match P.info? t,P.underlying t with
    | some i,some (.array n e)=>match i.zero,ga P e with
      | some z,some .sc=>match bE pi z.cells.toList with | some ds=>if ds.length=n then some (.allocArr ds) else none | none=>none
      | some z,some (.ag _)=>(bE nZ z.cells.toList).map .alloc
      | _,_=>none
    | some i,some _=>match i.zero with
      | some z=>(bE nZ z.cells.toList).map .alloc
      | none=>none
    | _,_=>none
  | .box t x=>match be x,P.underlying t with
    | some x,some (.array _ e)=>match ga P e with
      | some .sc=>some (.box (if v9 H o then .ownArr else .roArr) x)
      | some (.ag _)=>some (.box (if v9 H o then .ownBox else .roBox) x)
      | _=>none
    | some x,some _=>some (.box (if v9 H o then .ownBox else .roBox) x)
    | _,_=>none
  | .build t ps=>match P.info? t,P.underlying t with
    | some i,some (.struct fs)=>match i.zero with
      | some z=>match bE nZ z.cells.toList,bE (fun p:Nat×Operand=>match fs[p.1]?,be p.2 with
          | some f,some x=>match P.info? f.type with | some j=>some (f.offset,j.size,x) | none=>none
          | _,_=>none) ps.toList with
        | some cs,some ps=>if fs.all fun f=>(P.info? f.type).isSome then some (if wa H o=true then .buildF cs ps else .build cs ps) else none
        | _,_=>none
      | none=>none
    | some i,some (.array _ e)=>match i.zero,P.info? e with
      | some z,some j=>match bE nZ z.cells.toList,bE (fun p:Nat×Operand=>(be p.2).map fun x=>(p.1*j.size,j.size,x)) ps.toList with
        | some cs,some ps=>some (.build cs ps)
        | _,_=>none
      | _,_=>none
    | _,_=>none
  | .buildSlice t n ps=>match gZ P t with
    | some (_,s,_,z)=>match bE (fun p:Nat×Operand=>(be p.2).map fun x=>(p.1,x)) ps.toList with
      | some ps=>if n*s≤2^24 then if wa H o=true∧0<n then some (.bldFz n s z ps) else some (.bldSl (v9 H o) n s z ps) else none
      | none=>none
    | none=>none
  | .load t x=>match ga P t,be x with | some kd,some x=>some (match apl H o with | some l=>.loadX kd x (l.map fun n=>if n=999999 then SX.u else .t n) | none=>if apk H o=true then .loadB kd x else .load kd x) | _,_=>none
  | .store t x y=>match ga P t,be x,be y with | some kd,some x,some y=>if o.dst=none then some (match am6 H x with | some b=>.storeX kd x y (.t b) | none=>.store kd x y) else none | _,_,_=>none
  | .binOp op t x y _=>match P.underlying t,be x,be y with
    | some (.int _),some x,some y=>some (.bin op x y)
    | some .string,some x,some y=>some (.bin op x y)
    | some .bool,some x,some y=>match op with
      | .eql=>some (.eqB false x y)
      | .neq=>some (.eqB true x y)
      | _=>none
    | some (.struct _),some x,some y=>match KF P t,op with
      | some ks,.eql=>some (.eqA false ks x y)
      | some ks,.neq=>some (.eqA true ks x y)
      | _,_=>none
    | _,_,_=>none
  | .unOp op _ x=>(be x).map (.un op)
  | .convert s d x=>match P.underlying s,P.underlying d,be x with
    | some (.int _),some (.int k),some x=>some (.conv k x)
    | some (.slice e),some .string,some x=>match P.underlying e with | some (.int .u8)=>some (.b2s x) | _=>none
    | some .string,some (.slice e),some x=>match P.underlying e with | some (.int .u8)=>some (.s2b (v9 H o) x) | _=>none
    | some (.slice e),some (.slice _),some x=>match P.underlying e with | some (.int .u8)=>if s=d then some (if wa H o=true then .markF x else .mark x) else none | _=>none
    | _,_,_=>none
  | .makeSlice t l c=>match gZ P t,be l,be c with
    | some (_,s,b,z),some l,some c=>if 0<s then some (.make (!wa H o) s b z l c) else none
    | _,_,_=>none
  | .slice t x lo hi mx=>match P.underlying t,be x,jS lo,jS hi,jS mx with
    | some (.slice _),some x,some lo,some hi,some mx=>match gZ P t with
      | some (_,s,_,_)=>if mx.isSome&&hi.isNone then none else some (.slice s x lo hi mx)
      | none=>none
    | some .string,some x,some lo,some hi,some none=>some (.sliceStr x lo hi)
    | some (.array n e),some x,some lo,some hi,some none=>match mI P e with
      | some (s,_,_)=>if n≤16777216 then some (.sliceArr s n x lo hi) else none
      | none=>none
    | _,_,_,_,_=>none
  | .fieldAddr t x f=>match P.underlying t,be x with
    | some (.struct fs),some x=>match fs[f]? with
      | some f=>match P.info? f.type with | some i=>if i.size≠0 then some (.fieldAddr f.offset x) else none | none=>none
      | none=>none
    | _,_=>none
  | .field t x f=>match P.underlying t,be x with
    | some (.struct fs),some x=>match fs[f]? with
      | some f=>(ga P f.type).map fun kd=>.field f.offset kd x
      | none=>none
    | _,_=>none
  | .indexAddr t x i=>match P.underlying t,be x,be i with
    | some (.slice _),some x,some i=>match gZ P t with | some (_,s,_,_)=>some (.idxSl s x i) | none=>none
    | some (.array n e),some x,some i=>match mI P e with | some (s,_,_)=>some (.idxPa s n x i) | none=>none
    | _,_,_=>none
  | .index t x i=>match P.underlying t,be x,be i with
    | some (.array n e),some x,some i=>match ga P e,mI P e with | some kd,some (s,_,_)=>some (.idxArr s n kd x i) | _,_=>none
    | some .string,some x,some i=>some (.idxStr x i)
    | _,_,_=>none
  | .extract x i=>(be x).map fun x=>.extract x i
  | .makeFunc (.func f) fs cs=>if fs=#[]∧K9 H o=false then (bE be cs.toList).map (.clos f) else match bE be fs.toList,bE be cs.toList with | some xs,some ys=>some (.closM f xs ys) | _,_=>none
  | .nilCheck x=>(be x).map .nilChk
  | .makeMap t r=>match sG P t,jS r with | some (q,_),some r=>some (.mkMp q r) | _,_=>none
  | .lookup t x i co=>match sG P t,be x,be i with | some (q,z),some x,some i=>some (.mpGet q z co x i) | _,_,_=>none
  | .mapUpdate t x i y=>match sG P t,be x,be i,be y with | some (q,_),some x,some i,some y=>if o.dst=none then some (.mpSet q x i y) else none | _,_,_,_=>none
  | .range t x=>match P.underlying t,be x with | some (.map _ _),some x=>some (.mpIter x) | _,_=>none
  | .entry x=>(be x).map .mpEnt
  | .call c=>FW P H o c
  | _=>none
end
theorem Ao {m:Mp} {S:aT} {w:World} {v:Value} {c:C} (h:nZ v=some c):RC m S w v c∧c.ids=[]∧v.cells=#[v]:=by
  unfold nZ at h;split at h <;> first | (cases h; done) | (cases h; refine⟨?_,rfl,rfl⟩)
  ·exact .int _ _
  ·exact .bool _
  ·exact .str _
  ·exact⟨none,rfl⟩
  ·exact .mpN _
theorem tc {S:aT} {w:World} {v:Value} {x:D} (h:pi v=some x):Reads S w v x:=by
  unfold pi at h;split at h <;> first | (cases h; done) | (cases h)
  ·exact .int _ _
  ·exact .bool _
  ·exact .str _
  ·exact .nil
  ·exact .mpN _
theorem mn {α β:Type} {f:α→Option β} {R:α→β→Prop}:∀ {l:List α} {k:List β},(∀ x y,f x=some y→R x y)→bE f l=some k→aD R l k
  | [],k,_,h=>by simp[bE] at h; subst h; exact .nil
  | x::r,k,hf,h=>by
    simp only[bE] at h;split at h
    ·rename_i y l h1 h2;cases h;exact .cons (hf _ _ h1) (mn hf h2)
    ·cases h
theorem W8 {m:Mp} {S:aT} {w:World} {v:Value} {x:W} (h:Il v=some x):RW m S w v x∧x.ids=[]:=by
  unfold Il at h;split at h
  ·rename_i cs;simp only[apV] at h;obtain⟨ds,h1,rfl⟩:=h;exact⟨⟨cs.toList,by simp,mn (fun _ _=>tc) h1⟩,rfl⟩
  ·simp only[apV] at h;obtain⟨c,h1,rfl⟩:=h;have:=Ao (m:=m) (S:=S) (w:=w) h1;refine⟨?_,this.2.1⟩;unfold RW;split
   ·rename_i hc; cases hc; exact absurd this.1 (by intro h; cases h)
   ·rename_i hc; cases hc; exact this.1
   ·rename_i hc; cases hc
theorem RC.rpra {m m':Mp} {S:aT} {w:World} {v:Value} {c:C} (h:RC m S w v c) (hc:c.isR=true):RW m' S w v (.c c)∧c.ids=[]:=by
  cases c <;> first | (simp[C.isR] at hc; done) | exact⟨h,rfl⟩
section
variable {G:au} {N:Nat} {Sin:aT} {w0:Gh} {σ:St} {a:Act} {w:World} {S:aT} {m:Mp}
theorem Inv.operand (h:Inv G N Sin w0 σ a w S m) {x:Operand} {y:SX} (hx:be x=some y):RV m S w (a.eval x) (ev G σ.f y)∧∀ i∈(ev G σ.f y).ids,σ.u i=true:=by
  unfold be at hx;split at hx
  ·cases hx; exact⟨h.slot _,h.used _⟩
  ·rename_i v;split at hx
   ·rename_i x h1;cases hx;have:=W8 (m:=m) (S:=S) (w:=w) h1;refine⟨this.1,fun i hi=>?_⟩;have hi':i∈x.ids:=hi;rw[this.2] at hi';cases hi'
   ·cases hx;exact⟨trivial,fun i hi=>by cases hi⟩
  ·rename_i g;cases hx
   show RV m S w (.pointer (some ⟨g,0,none⟩)) (match G.at g with | some c=>.w (.c c) | none=>.undef)∧_
   cases hg:G.at g with
   | none=>exact⟨trivial,fun i hi=>by simp[ev,hg,V.ids] at hi⟩
   | some c =>
     unfold au.at at hg;simp only[apV] at hg;obtain⟨p,hp,rfl⟩:=hg;have hm:=arJ hp;have he:p.1=g:=by simpa using List.find?_some hp
     have hk:=h.glob p hm;have h2:=hk.1.rpra (m':=m) hk.2.1;rw[he] at h2;refine⟨h2.1,fun i hi=>?_⟩;simp only[ev,au.at,hp,aq4,V.ids,W.ids,h2.2] at hi;cases hi
  ·rename_i f;cases hx;exact⟨Reads.fn f [] [] (fun _=>.bool false) rfl (fun j hj=>by cases hj) (fun j hj=>by cases hj),fun i hi=>by cases hi⟩
end
end Go.Proofs.YtnjhelpgohdajaaGreatDoor
