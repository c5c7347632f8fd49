/-
  graph.Add.
  The vector that every right program answers: three nodes, put behind one another.
  GraphOrder: the law, walked.
  slices.IndexFunc, ContainsFunc, BinarySearch over numbers; groups.
  roster: listed, ahead, removes.
  roster: admits, and the roster of a set.
  roster: the group of a set; a group's members.
  roster.look: which nodes count.
  roster.isSet, Of, All.
  roster.All.
  The vector of layer 16.
  The document's rosters: removal, lets.
  The document's rosters: Roster, Counts, All.
  The document's rosters: All, Set.
  RosterTells: the law, walked.
  RosterStrong: the law, walked.
  GraphHeads: the law, walked.
  The same operations in another order: what is ahead, and the heads.
  The roster hangs on the set alone: the same nodes in another order have the same roster; nodes that neither admit nor remove turn nothing.
  GraphShuffled: the law, walked.
  RosterStill: the law, walked.
  RosterShuffled: the law, walked.
  Held operations as data; how a value shows one; a queue by its addresses.
  queue.Find.
  The reference's Find; Right, both.
  Great of queues; IndexFunc and ContainsFunc on keys; Ready.
  The reference's Ready.
  Boxes, compared.
  slices.Equal at int, Key, Box.
  cabalref11.SameOp: are two operations the same?
  frame.sameOp: are two operations the same?
  frame.Same over frames of nothing but an operation; graph.Same's comparison of two nodes.
  cabalref15.Same: are two graphs the same?
  graph.Same: are two graphs the same?
  queue.Same.
  The reference's Same of queues.
  deep.Held: a queue, copied into new memory.
  queue.Put.
-/
import Derived.Test.YtdeccbjdhcifiaaME
import Derived.Test.YtdeccbjdhcifiaaMC
import Derived.Test.YtdeccbjdhcifiaaMD
namespace Go.Proofs.Ytdeccbjdhcifiaa
open Go Go.RowKit
set_option linter.unusedSimpArgs false
set_option linter.unusedVariables false
set_option maxRecDepth 100000
set_option maxHeartbeats 4000000
section
def aheadL (l : List NodeD) (P : List Int) (x : Int) : Nat := (P.filter fun z => (nd l z.toNat).op.author == x).length
theorem aheadL_pastL (l : List NodeD) (n : Nat) (ps : List (List Int)) (x : Int) : aheadL l (pastL l n ps) x = (((List.range n).filter fun a => (nd l a).op.author == x).filter (inB l n ps)).length := by
 unfold aheadL pastL
 rw [List.filter_map, List.length_map, List.filter_filter, List.filter_filter]
 congr 1
 refine List.filter_congr fun k _ => ?_
 show (_ && _) = (_ && _)
 rw [Bool.and_comm]
 rfl
theorem ahead_all (l : List NodeD) (n : Nat) (ps : List (List Int)) (x : Int) : aheadL l (pastL l n ps) x = autN l n x ↔ autA l n x (pastL l n ps) = true := by
 rw [aheadL_pastL]
 unfold autN autA
 rw [List.length_filter_eq_length_iff, List.all_eq_true]
 refine ⟨fun h k hk => ?_, fun h k hk => ?_⟩
 ·by_cases e : ((nd l k).op.author == x) = true
  ·have := h k (List.mem_filter.2 ⟨hk, e⟩)
   have h2 : (k : Int) ∈ pastL l n ps := mem_pastL.2 ⟨List.mem_range.1 hk, this⟩
   simp [h2]
  ·simp only [Bool.not_eq_true] at e
   simp [e]
 ·rw [List.mem_filter] at hk
  have := h k hk.1
  rw [hk.2] at this
  have h2 : (k : Int) ∈ pastL l n ps := by simpa using this
  exact (mem_pastL.1 h2).2
theorem aheadL_le (l : List NodeD) (P : List Int) (x : Int) : aheadL l P x ≤ P.length := List.length_filter_le _ _
theorem aheadL_succ {l : List NodeD} {P : List Int} {e : Nat} {z : Int} (x : Int) (h : P[e]? = some z) : aheadL l (P.take (e + 1)) x = aheadL l (P.take e) x + if (nd l z.toNat).op.author = x then 1 else 0 := by
 unfold aheadL
 rw [List.take_add_one, h, List.filter_append, List.length_append]
 congr 1
 show (List.filter _ [z]).length = _
 by_cases hc : (nd l z.toNat).op.author = x
 ·simp [hc]
 ·have : ((nd l z.toNat).op.author == x) = false := by simpa using hc
  simp [this, hc]
def seqOk (l : List NodeD) (o : OpD) : Bool := !(decide (o.kind = 1) && decide (0 < l.length)) && (decide (o.seq = 1 + (aheadL l (pastL l l.length o.parents) o.author : Nat)) && decide (aheadL l (pastL l l.length o.parents) o.author = autN l l.length o.author))
def addE (l : List NodeD) (id : List Int) (o : OpD) : Int :=
 if rightG l = false then 1 else if rightO o = false then 1 else if (findN l l.length id).isSome = true then 13 else if l.length = 96 then 8 else if o.parents.all (fun p => (findN l l.length p).isSome) = false then 14 else if seqOk l o = false then 15 else 0
def addD (l : List NodeD) (id : List Int) (o : OpD) : NodeD := ⟨id, o, pastL l l.length o.parents⟩
def NewG (n : Nat) (H : AH) (v : Value) (l : List NodeD) : Prop := ∀ G, KeepN n H G → NdV G v l
def AddQ (l : List NodeD) (id : List Int) (o : OpD) (H : AH) (v' : Value) (H' : AH) : Prop :=
 Low H.length H H' ∧ ∃ sv, v' = .tuple #[sv, .int .i64 (addE l id o)] ∧ ((addE l id o = 0 ∧ NewG H.length H' sv (l ++ [addD l id o])) ∨ (addE l id o ≠ 0 ∧ sv = .slice none 0 0))
theorem AddQ.bad {l : List NodeD} {id : List Int} {o : OpD} {H H' : AH} {z : Int} (hl : Low H.length H H') (h : addE l id o = z) (hz : z ≠ 0) : AddQ l id o H (.tuple #[.slice none 0 0, .int .i64 z]) H' :=
 ⟨hl, _, by rw [h], .inr ⟨by rw [h]; exact hz, rfl⟩⟩
theorem fill_row {Z row : List Value} (hr : row.length = 104) (hZ : Z.length = 104) : xfill (fun i => some (i * 104, 104)) Z [(0, .agg row.toArray)] = some row := by
 have h1 : (Value.agg row.toArray).cells.size = 104 := by simpa [Value.cells] using hr
 unfold xfill
 simp only [Nat.zero_mul]
 rw [if_pos ⟨h1, by omega⟩]
 unfold xfill
 rw [setR_all _ _ (by simp [Value.cells, hr, hZ])]
 rfl
attribute [local simp] wb_bool wb_undef with_lit XL_nil XL_cons XLc_val XLc_call step1_eq stepW_t stepW_f stepC_n stepC_s stepX_s stepX_n stepN_s calleeX xrecv oneV xop_eq xopR_s xopR_n wantedA_eq wantedG_n wantedG_s plain1_int plain1_bool plain1_string bits_i64 bits_u64 bits_u32 bits_u16 bits_u8 xeqA xagg xcmp xarr allK_iv num_iv calleeOf xread xeff xbin xint xnil xun xstr xload xconv xpart xfield xfieldAddr xindexAddr xindex bnd asInt? xslice xlen xmin xmax xbuild xfill xappend xapp2 xappstr xappmk xcap xcopy xcells eval_tmp eval_const put_at put_none fr0_at cells_agg cells_int cells_bool cells_string cells_ptr cells_slice notTuple tab iv_all hget_app hget_app0 hget_cons0 hget_cons set_app set_app0 setR setR_one QL_nil QL_cons QLc_val stepQ_t stepQ_f stepQC_n stepQC_s stepQX_s SL_nil SL_cons SLc_val stepS_t stepS_f ltT ltF leT leF eqT eqF ltTn ltFn leTn leFn eqTn eqFn beqT beqF bneT bneF wi64 wu64 wu32 wu16 wu8 tmodP tdivP hgetL hgetNe hgetEq setL nums_def nums_len Nat.succ_le_of_lt List.getElem?_cons_zero List.getElem?_cons_succ Option.getD_some Int.toNat_add Int.toNat_mul agM okM agB agI agS agP agL agA okB okI okS okP okSl okA
theorem add_rc {γ : Nat → Option Nat} {H : AH} {nv pv wv bv : Value} {l : List NodeD} {id : List Int} {us : List Value} {o : OpD} (hN : NdA H nv l) (hid : Key32 id) (hO : OpC H us o pv wv bv) (hw : o.Wf) : AC Try.prog H.length γ 31 #[nv, .agg (iv .u8 id).toArray, .agg us.toArray] H (AddQ l id o H) := by
 have hivl : (iv .u8 id).length = 32 := by rw [iv_length, hid.1]
 have hta : (iv .u8 id).take 32 = iv .u8 id := List.take_of_length_le (by omega)
 have hul := hO.len
 have htu : us.take 71 = us := List.take_of_length_le (by omega)
 refine ac_of_aw Try.func31 rfl Try.ntmps31 Try.results31 (by simp) ?_
 refine aw_seq ?_
 (refine aw_ops (by kernel_rfl) (fun K hK => ?_); simp (disch := first | omega | (simp only [lnS]; try omega)) [-getElem?_pos, -getElem?_neg, hivl, hul, nt_aggG]; refine hK _ _ ?_; clear hK K)
 obtain ⟨G, hG⟩ : ∃ G : AH, G = H ++ [some ⟨iv .u8 id, 38, none⟩, some ⟨us, 41, none⟩] := ⟨_, rfl⟩
 have b4 : hget G H.length = some ⟨iv .u8 id, 38, none⟩ := by rw [hG, hget_app0]; rfl
 have b5 : hget G (H.length + 1) = some ⟨us, 41, none⟩ := by rw [hG, hget_app]; rfl
 have lw : Low H.length H G := hG ▸ Low.push (Nat.le_refl _) _
 have gl : G.length = H.length + 2 := by simp [hG]
 rw [← hG]
 clear hG
 have hNG := hN.lowG lw
 have hOG : OpC G us o pv wv bv := hO.low lw.1
 have hnt := hN.nt
 have hvc := hN.cs
 have hxl := hN.len
 have r1 := graph_right_rc (γ := γ) hNG
 have r2 := right_rc (γ := γ) hOG hw
 obtain ⟨n, hn⟩ : ∃ n, n = H.length := ⟨_, rfl⟩
 rw [← hn] at b4 b5 gl lw ⊢
 refine aw_seq ?_
 refine aw_block ?_
 refine aw_seq ?_
 refine aw_seq ?_
 refine aw_ops (by kernel_rfl) (fun K hK => ?_)
 simp (disch := first | omega | (simp only [lnS]; try omega)) [-getElem?_pos, -getElem?_neg, -notTuple, hnt, hvc, nt_intG]
 refine ⟨by kernel_rfl, ac_of_rc r1 (by simp [pv_iv, pv_int, pv_bool, pv_string, pv_tup2, pv_tup3, iv_plain, p2_int, p2_bool, p2_string]) ?_⟩
 cases h1 : rightG l with
 | false =>
  try simp (disch := first | omega | (simp only [lnS]; try omega)) [-getElem?_pos, -getElem?_neg]
  refine hK _ _ ?_; clear hK K
  refine aw_t (by (first | (simp [eval_tmp, put_at]; done) | (simp [eval_tmp, put_at]; omega))) (by kernel_rfl) ?_
  refine aw_skip ?_
  refine aw_t (by (first | (simp [eval_tmp, put_at]; done) | (simp [eval_tmp, put_at]; omega))) (by kernel_rfl) ?_
  refine aw_seq ?_
  (refine aw_ops (by kernel_rfl) (fun K hK => ?_); simp (disch := first | omega | (simp only [lnS]; try omega)) [-getElem?_pos, -getElem?_neg]; refine hK _ _ ?_; clear hK K)
  (refine aw_ret ?_; simp (disch := first | omega | (simp only [lnS]; try omega)) [-getElem?_pos, -getElem?_neg, thenQ_ret, scopeQ_ret, inBlockQ_ret, RQ, resL, resV])
  exact AddQ.bad (hn ▸ lw) (by simp [addE, h1]) (by decide)
 | true =>
 try simp (disch := first | omega | (simp only [lnS]; try omega)) [-getElem?_pos, -getElem?_neg]
 refine hK _ _ ?_; clear hK K
 refine aw_f (by (first | (simp [eval_tmp, put_at]; done) | (simp [eval_tmp, put_at]; omega))) (by kernel_rfl) ?_
 refine aw_ops (by kernel_rfl) (fun K hK => ?_)
 simp (disch := first | omega | (simp only [lnS]; try omega)) [-getElem?_pos, -getElem?_neg, b5, hul, htu, nt_aggG]
 refine ⟨by kernel_rfl, ac_of_rc r2 (by simp [pv_iv, pv_int, pv_bool, pv_string, pv_tup2, pv_tup3, iv_plain, p2_int, p2_bool, p2_string]) ?_⟩
 cases h2 : rightO o with
 | false =>
  try simp (disch := first | omega | (simp only [lnS]; try omega)) [-getElem?_pos, -getElem?_neg]
  refine hK _ _ ?_; clear hK K
  refine aw_t (by (first | (simp [eval_tmp, put_at]; done) | (simp [eval_tmp, put_at]; omega))) (by kernel_rfl) ?_
  refine aw_seq ?_
  (refine aw_ops (by kernel_rfl) (fun K hK => ?_); simp (disch := first | omega | (simp only [lnS]; try omega)) [-getElem?_pos, -getElem?_neg]; refine hK _ _ ?_; clear hK K)
  (refine aw_ret ?_; simp (disch := first | omega | (simp only [lnS]; try omega)) [-getElem?_pos, -getElem?_neg, thenQ_ret, scopeQ_ret, inBlockQ_ret, RQ, resL, resV])
  exact AddQ.bad (hn ▸ lw) (by simp [addE, h1, h2]) (by decide)
 | true =>
 try simp (disch := first | omega | (simp only [lnS]; try omega)) [-getElem?_pos, -getElem?_neg]
 refine hK _ _ ?_; clear hK K
 refine aw_f (by (first | (simp [eval_tmp, put_at]; done) | (simp [eval_tmp, put_at]; omega))) (by kernel_rfl) ?_
 have hl := rightG_len h1
 have r4 := find_rc (γ := γ) hNG (by simp only [maxLen]; omega) hid.1
 refine aw_seq ?_
 refine aw_ops (by kernel_rfl) (fun K hK => ?_)
 simp (disch := first | omega | (simp only [lnS]; try omega)) [-getElem?_pos, -getElem?_neg, b4, hivl, hta, -notTuple, hnt, hvc, nt_intG, nt_aggG]
 refine ⟨by kernel_rfl, ac_of_rc r4 (by simp [pv_iv, pv_int, pv_bool, pv_string, pv_tup2, pv_tup3, iv_plain, p2_int, p2_bool, p2_string]) ?_⟩
 unfold findI
 cases h3 : findN l l.length id with
 | some a =>
  have ha := findN_lt h3
  try simp (disch := first | omega | (simp only [lnS]; try omega)) [-getElem?_pos, -getElem?_neg]
  refine hK _ _ ?_; clear hK K
  refine aw_t (by (first | (simp [eval_tmp, put_at]; done) | (simp [eval_tmp, put_at]; omega))) (by kernel_rfl) ?_
  refine aw_seq ?_
  (refine aw_ops (by kernel_rfl) (fun K hK => ?_); simp (disch := first | omega | (simp only [lnS]; try omega)) [-getElem?_pos, -getElem?_neg]; refine hK _ _ ?_; clear hK K)
  (refine aw_ret ?_; simp (disch := first | omega | (simp only [lnS]; try omega)) [-getElem?_pos, -getElem?_neg, thenQ_ret, scopeQ_ret, inBlockQ_ret, RQ, resL, resV])
  exact AddQ.bad (hn ▸ lw) (by simp [addE, h1, h2, h3]) (by decide)
 | none =>
 try simp (disch := first | omega | (simp only [lnS]; try omega)) [-getElem?_pos, -getElem?_neg]
 refine hK _ _ ?_; clear hK K
 refine aw_f (by (first | (simp [eval_tmp, put_at]; done) | (simp [eval_tmp, put_at]; omega))) (by kernel_rfl) ?_
 refine aw_seq ?_
 by_cases h4 : l.length = 96
 ·(refine aw_ops (by kernel_rfl) (fun K hK => ?_); simp (disch := first | omega | (simp only [lnS]; try omega)) [-getElem?_pos, -getElem?_neg, -notTuple, hnt, hvc, nt_intG, -xlen, hxl, h4]; refine hK _ _ ?_; clear hK K)
  refine aw_t (by (first | (simp [eval_tmp, put_at, h4]; done) | (simp [eval_tmp, put_at, h4]; omega))) (by kernel_rfl) ?_
  refine aw_seq ?_
  (refine aw_ops (by kernel_rfl) (fun K hK => ?_); simp (disch := first | omega | (simp only [lnS]; try omega)) [-getElem?_pos, -getElem?_neg]; refine hK _ _ ?_; clear hK K)
  (refine aw_ret ?_; simp (disch := first | omega | (simp only [lnS]; try omega)) [-getElem?_pos, -getElem?_neg, thenQ_ret, scopeQ_ret, inBlockQ_ret, RQ, resL, resV])
  exact AddQ.bad (hn ▸ lw) (by unfold addE; rw [h1, h2, h3, if_neg (by simp), if_neg (by simp), if_neg (by simp), if_pos h4]) (by decide)
 have h4n : l.length < 96 := by omega
 have h4i : ¬ (l.length : Int) = 96 := by omega
 (refine aw_ops (by kernel_rfl) (fun K hK => ?_); simp (disch := first | omega | (simp only [lnS]; try omega)) [-getElem?_pos, -getElem?_neg, -notTuple, hnt, hvc, nt_intG, -xlen, hxl, h4i]; refine hK _ _ ?_; clear hK K)
 refine aw_f (by (first | (simp [eval_tmp, put_at]; done) | (simp [eval_tmp, put_at]; omega))) (by kernel_rfl) ?_
 refine aw_skip ?_
 have hP := hOG.parents
 have hP4 := val_nt hP
 have hps := rightO_sm h2
 have c2 := hOG.c2
 have hpk : ∀ k ∈ o.parents, k.length = 32 := fun k hk => (hw.parents k hk).1
 have rp := (pastF_rc (γ := γ) hNG hl hP hpk (by simp only [maxLen]; omega)).thaw (nro := n) (fun v H' h => ⟨h.1.2, h.1.1⟩)
 refine aw_seq ?_
 refine aw_ops (by kernel_rfl) (fun K hK => ?_)
 simp (disch := first | omega | (simp only [lnS]; try omega)) [-getElem?_pos, -getElem?_neg, b5, hul, c2, -notTuple, hnt, hvc, hP4.1, hP4.2, nt_intG, nt_aggG]
 refine ⟨by kernel_rfl, rp.mono ?_⟩
 rintro v1 G1 ⟨hlow1, ⟨hall, sv, F, rfl, hown, hF⟩ | ⟨hall, rfl⟩⟩
 case inr =>
  simp (disch := first | omega | (simp only [lnS]; try omega)) [-getElem?_pos, -getElem?_neg]
  refine hK _ _ ?_; clear hK K
  refine aw_seq ?_
  refine aw_seq ?_
  (refine aw_ops (by kernel_rfl) (fun K hK => ?_); simp (disch := first | omega | (simp only [lnS]; try omega)) [-getElem?_pos, -getElem?_neg]; refine hK _ _ ?_; clear hK K)
  refine aw_t (by (first | (simp [eval_tmp, put_at]; done) | (simp [eval_tmp, put_at]; omega))) (by kernel_rfl) ?_
  refine aw_seq ?_
  (refine aw_ops (by kernel_rfl) (fun K hK => ?_); simp (disch := first | omega | (simp only [lnS]; try omega)) [-getElem?_pos, -getElem?_neg]; refine hK _ _ ?_; clear hK K)
  (refine aw_ret ?_; simp (disch := first | omega | (simp only [lnS]; try omega)) [-getElem?_pos, -getElem?_neg, thenQ_ret, scopeQ_ret, inBlockQ_ret, RQ, resL, resV])
  exact AddQ.bad ⟨fun j hj => (hlow1.1 j (by have := lw.2; omega)).trans (lw.1 j (by omega)), by have := hlow1.2; have := lw.2; omega⟩ (by simp [addE, h1, h2, h3, h4, hall]) (by decide)
 obtain ⟨v1, v2⟩ := own_nt hown
 have hFn : ∀ j ∈ F, n + 2 ≤ j := fun j hj => by have := hF j hj; omega
 clear hF
 simp (disch := first | omega | (simp only [lnS]; try omega)) [-getElem?_pos, -getElem?_neg, -notTuple, v1, v2, nt_intG]
 refine hK _ _ ?_; clear hK K
 refine aw_seq ?_
 refine aw_seq ?_
 (refine aw_ops (by kernel_rfl) (fun K hK => ?_); simp (disch := first | omega | (simp only [lnS]; try omega)) [-getElem?_pos, -getElem?_neg]; refine hK _ _ ?_; clear hK K)
 refine aw_f (by (first | (simp [eval_tmp, put_at]; done) | (simp [eval_tmp, put_at]; omega))) (by kernel_rfl) ?_
 refine aw_skip ?_
 have hPl := pastL_length l l.length o.parents
 have hPb : ∀ z ∈ pastL l l.length o.parents, ∃ k : Nat, z = k ∧ k < l.length := fun z hz => by
  obtain ⟨k, e, hk, _⟩ := pastL_bd hz
  exact ⟨k, e, hk⟩
 have hseq : seqOk l o = (!(decide (o.kind = 1) && decide (0 < l.length)) && (decide (o.seq = 1 + (aheadL l (pastL l l.length o.parents) o.author : Nat)) && decide (aheadL l (pastL l l.length o.parents) o.author = autN l l.length o.author))) := rfl
 have hle : addE l id o = if seqOk l o = false then 15 else 0 := by unfold addE; rw [h1, h2, h3, hall, if_neg (by simp), if_neg (by simp), if_neg (by simp), if_neg h4, if_neg (by simp)]
 have hInv := own_inv hown
 have hacc := hInv.acc
 have hdd : addD l id o = ⟨id, o, pastL l l.length o.parents⟩ := rfl
 obtain ⟨P, hPe⟩ : ∃ P, P = pastL l l.length o.parents := ⟨_, rfl⟩
 rw [← hPe] at hPl hPb hown hInv hacc hseq hdd
 have hlowG1 : Low n H G1 := ⟨fun j hj => (hlow1.1 j (by omega)).trans (lw.1 j (by omega)), by have := hlow1.2; omega⟩
 have hNG1 := hN.lowG (hn ▸ hlowG1)
 have d4 := (hlow1.1 n (by omega)).trans b4
 have d5 := (hlow1.1 (n + 1) (by omega)).trans b5
 have hOG1 : OpC G1 us o pv wv bv := hOG.low hlow1.1
 have hat := hNG1.at_
 have ca := hOG1.c0
 have hlG1 : n + 2 ≤ G1.length := by have := hlow1.2; omega
 refine aw_seq ?_
 (refine aw_ops (by kernel_rfl) (fun K hK => ?_); simp (disch := first | omega | (simp only [lnS]; try omega)) [-getElem?_pos, -getElem?_neg]; refine hK _ _ ?_; clear hK K)
 refine aw_seq ?_
 refine aw_seq ?_
 (refine aw_ops (by kernel_rfl) (fun K hK => ?_); simp (disch := first | omega | (simp only [lnS]; try omega)) [-getElem?_pos, -getElem?_neg, -notTuple, v1, v2, nt_intG, -xlen, hacc.len]; refine hK _ _ ?_; clear hK K)
 refine aw_block ?_
 refine aw_loop (fun c α G => ∃ e : Nat, e + c = P.length ∧ G = G1 ∧ α 0 = nv ∧ α 4 = .pointer (some ⟨n, 0, none⟩) ∧ α 5 = .pointer (some ⟨n + 1, 0, none⟩) ∧ α 8 = sv ∧ α 10 = .int .i64 (aheadL l (P.take e) o.author : Nat) ∧ α 39 = sv ∧ α 40 = .int .i64 (P.length : Nat) ∧ α 41 = .int .i64 (e : Nat)) P.length ?_ ?_
 ·exact ⟨0, by omega, rfl, by (first | (simp [put_at, put_none, fr0_at]; done) | rfl), by (first | (simp [put_at, put_none, fr0_at]; done) | rfl), by (first | (simp [put_at, put_none, fr0_at]; done) | rfl), by (first | (simp [put_at, put_none, fr0_at]; done) | rfl), by (first | (simp [put_at, put_none, fr0_at]; done) | rfl), by (first | (simp [put_at, put_none, fr0_at]; done) | rfl), by (first | (simp [put_at, put_none, fr0_at]; done) | rfl), by (first | (simp [put_at, put_none, fr0_at]; done) | rfl)⟩
 rintro c α G2 ⟨e, hec, rfl, q0, q4, q5, q8, q10, q39, q40, q41⟩
 refine aw_seq ?_
 by_cases he : e < P.length
 case pos =>
  obtain ⟨p2, x2, p21, p22, p23, p24, p25⟩ := hacc.at_ e he
  subst p24
  obtain ⟨z, hz⟩ : ∃ z, z = P.getD e 0 := ⟨_, rfl⟩
  rw [← hz] at p25
  have hze : P[e]? = some z := by rw [hz, List.getD_eq_getElem?_getD, List.getElem?_eq_getElem he]; rfl
  have hsu := aheadL_succ (l := l) o.author hze
  have hal := aheadL_le l (P.take e) o.author
  rw [List.length_take] at hal
  have p25 := p25 G2 (Low.refl (Nat.le_refl _))
  obtain ⟨kz, rfl, hkz⟩ := hPb z (List.mem_of_getElem? hze)
  rw [Int.toNat_natCast] at hsu
  obtain ⟨j, q, bb, ws, pv', wv', bv', qv', hx, hbb, hq, hcell, hws, hC⟩ := hat kz _ (nd_get hkz)
  have cz : bb.cells[q + 32]? = some (.int .i64 (nd l kz).op.author) := by
   have := hC.op.c0
   rw [List.getElem?_take_of_lt (by omega), List.getElem?_drop] at this
   exact (hcell 32 (by omega)).trans this
  (refine aw_ops (by kernel_rfl) (fun K hK => ?_); simp (disch := first | omega | (simp only [lnS]; try omega)) [-getElem?_pos, -getElem?_neg, q40, q41, he]; refine hK _ _ ?_; clear hK K)
  refine aw_seq ?_
  refine aw_t (by (first | (simp [eval_tmp, put_at, he]; done) | (simp [eval_tmp, put_at, he]; omega))) (by kernel_rfl) ?_
  refine aw_skip ?_
  refine aw_seq ?_
  refine aw_block ?_
  refine aw_seq ?_
  (refine aw_ops (by kernel_rfl) (fun K hK => ?_); simp (disch := first | omega | (simp only [lnS]; try omega)) [-getElem?_pos, -getElem?_neg, q39, q41, -notTuple, v1, v2, p21, nt_intG, -xindexAddr, p22, -xload, p25]; refine hK _ _ ?_; clear hK K)
  refine aw_seq ?_
  obtain ⟨x, hxa⟩ : ∃ x, x = (nd l kz).op.author := ⟨_, rfl⟩
  rw [← hxa] at cz hsu
  by_cases hxz : x = o.author
  ·have hxb : (x == o.author) = true := by simp [hxz]
   rw [if_pos hxz] at hsu
   (refine aw_plan [] [] [0, 1, 2, 3, 4, 5, 6, 7, 8] 9 0 (by kernel_rfl) (by kernel_rfl) (by kernel_rfl) (fun K hK => ?_)); simp only [sel, List.getElem?_cons_succ, List.getElem?_cons_zero, List.drop_succ_cons, List.drop_zero]; simp (disch := first | omega | (simp only [lnS]; try omega)) [-getElem?_pos, -getElem?_neg, q0, q5, -notTuple, hnt, hvc, nt_intG, nt_ptrG, -xindexAddr, hx, hbb, cz, d5, ca, hxz, hxb, PL_nil, plainB_lit, PL_cons, PLc_val, PLc_new, stepP_t, stepP_f, stepPC_n, stepPC_s, stepPX_s, stepPX_n, stepPV_n, stepPV_s, stepPA_t, stepPA_c, stepPA_l, stepPN_s, allocOp, reloc_sl, reloc_ptr, List.map_cons, List.map_nil, List.nil_append, List.append_assoc, List.cons_append, Nat.add_assoc]
   refine hK _ _ ?_; clear hK K
   refine aw_t (by (first | (simp [eval_tmp, put_at, hxz, hxb]; done) | (simp [eval_tmp, put_at, hxz, hxb]; omega))) (by kernel_rfl) ?_
   (refine aw_ops (by kernel_rfl) (fun K hK => ?_); simp (disch := first | omega | (simp only [lnS]; try omega)) [-getElem?_pos, -getElem?_neg, q10]; refine hK _ _ ?_; clear hK K)
   (refine aw_ops (by kernel_rfl) (fun K hK => ?_); simp (disch := first | omega | (simp only [lnS]; try omega)) [-getElem?_pos, -getElem?_neg, q41]; refine hK _ _ ?_; clear hK K)
   exact ⟨c - 1, by omega, e + 1, by omega, rfl, by (first | (simp [put_at, put_none, fr0_at, q0]; done) | rfl), by (first | (simp [put_at, put_none, fr0_at, q4]; done) | rfl), by (first | (simp [put_at, put_none, fr0_at, q5]; done) | rfl), by (first | (simp [put_at, put_none, fr0_at, q8]; done) | rfl), by rw [hsu]; (first | (simp [put_at, put_none, fr0_at]; done) | rfl), by (first | (simp [put_at, put_none, fr0_at, q39]; done) | rfl), by (first | (simp [put_at, put_none, fr0_at, q40]; done) | rfl), by (first | (simp [put_at, put_none, fr0_at]; done) | rfl)⟩
  ·have hxb : (x == o.author) = false := by simp [hxz]
   rw [if_neg hxz] at hsu
   (refine aw_plan [] [] [0, 1, 2, 3, 4, 5, 6, 7, 8] 9 0 (by kernel_rfl) (by kernel_rfl) (by kernel_rfl) (fun K hK => ?_)); simp only [sel, List.getElem?_cons_succ, List.getElem?_cons_zero, List.drop_succ_cons, List.drop_zero]; simp (disch := first | omega | (simp only [lnS]; try omega)) [-getElem?_pos, -getElem?_neg, q0, q5, -notTuple, hnt, hvc, nt_intG, nt_ptrG, -xindexAddr, hx, hbb, cz, d5, ca, hxz, hxb, PL_nil, plainB_lit, PL_cons, PLc_val, PLc_new, stepP_t, stepP_f, stepPC_n, stepPC_s, stepPX_s, stepPX_n, stepPV_n, stepPV_s, stepPA_t, stepPA_c, stepPA_l, stepPN_s, allocOp, reloc_sl, reloc_ptr, List.map_cons, List.map_nil, List.nil_append, List.append_assoc, List.cons_append, Nat.add_assoc]
   refine hK _ _ ?_; clear hK K
   refine aw_f (by (first | (simp [eval_tmp, put_at, hxz, hxb]; done) | (simp [eval_tmp, put_at, hxz, hxb]; omega))) (by kernel_rfl) ?_
   refine aw_skip ?_
   (refine aw_ops (by kernel_rfl) (fun K hK => ?_); simp (disch := first | omega | (simp only [lnS]; try omega)) [-getElem?_pos, -getElem?_neg, q41]; refine hK _ _ ?_; clear hK K)
   exact ⟨c - 1, by omega, e + 1, by omega, rfl, by (first | (simp [put_at, put_none, fr0_at, q0]; done) | rfl), by (first | (simp [put_at, put_none, fr0_at, q4]; done) | rfl), by (first | (simp [put_at, put_none, fr0_at, q5]; done) | rfl), by (first | (simp [put_at, put_none, fr0_at, q8]; done) | rfl), by rw [hsu]; (first | (simp [put_at, put_none, fr0_at, q10]; done) | rfl), by (first | (simp [put_at, put_none, fr0_at, q39]; done) | rfl), by (first | (simp [put_at, put_none, fr0_at, q40]; done) | rfl), by (first | (simp [put_at, put_none, fr0_at]; done) | rfl)⟩
 (refine aw_ops (by kernel_rfl) (fun K hK => ?_); simp (disch := first | omega | (simp only [lnS]; try omega)) [-getElem?_pos, -getElem?_neg, q40, q41, he]; refine hK _ _ ?_; clear hK K)
 refine aw_seq ?_
 refine aw_f (by (first | (simp [eval_tmp, put_at, he]; done) | (simp [eval_tmp, put_at, he]; omega))) (by kernel_rfl) ?_
 refine aw_exit ?_
 obtain rfl : e = P.length := by omega
 rw [List.take_length] at q10
 have c3 := hOG1.c3
 have c1 := hOG1.c1
 have hsq := hw.seq
 unfold U32 at hsq
 have hal := aheadL_le l P o.author
 have rc := count_rc (γ := γ) hNG1 (by simp only [maxLen]; omega) o.author
 have hcl := autN_le l l.length o.author
 generalize aheadL l P o.author = ah at *
 generalize autN l l.length o.author = cn at *
 refine aw_seq ?_
 refine aw_seq ?_
 refine aw_cut (fun α G => α 81 = .bool (!seqOk l o) ∧ α 0 = nv ∧ α 4 = .pointer (some ⟨n, 0, none⟩) ∧ α 5 = .pointer (some ⟨n + 1, 0, none⟩) ∧ α 8 = sv ∧ G = G2) ?_ ?_
 ·by_cases hk : o.kind = 1
  ·by_cases h0 : 0 < l.length
   ·(refine aw_ops (by kernel_rfl) (fun K hK => ?_); simp (disch := first | omega | (simp only [lnS]; try omega)) [-getElem?_pos, -getElem?_neg, q0, q5, q10, hk, h0, d5, c3, c1, ca, hul, -notTuple, hnt, hvc, nt_intG, nt_ptrG, -xlen, hxl]; refine hK _ _ ?_; clear hK K)
    exact ⟨by rw [hseq]; simp [hk, h0, put_at], by (first | (simp [put_at, put_none, fr0_at, q0]; done) | rfl), by (first | (simp [put_at, put_none, fr0_at, q4]; done) | rfl), by (first | (simp [put_at, put_none, fr0_at, q5]; done) | rfl), by (first | (simp [put_at, put_none, fr0_at, q8]; done) | rfl), rfl⟩
   ·have h0e : l.length = 0 := by omega
    by_cases hs1 : o.seq = 1 + (ah : Int)
    ·have hs2 : ¬ o.seq ≠ 1 + (ah : Int) := by omega
     have hs3 : (o.seq == 1 + (ah : Int)) = true := by simp [hs1]
     refine aw_ops (by kernel_rfl) (fun K hK => ?_)
     simp (disch := first | omega | (simp only [lnS]; try omega)) [-getElem?_pos, -getElem?_neg, q0, q5, q10, hk, h0, h0e, d5, c3, c1, ca, hul, -notTuple, hnt, hvc, nt_intG, nt_ptrG, -xlen, hxl, hs1, hs3]
     refine ⟨by kernel_rfl, ac_of_rc rc (by simp [pv_iv, pv_int, pv_bool, pv_string, pv_tup2, pv_tup3, iv_plain, p2_int, p2_bool, p2_string]) ?_⟩
     by_cases hcn : ah = cn
     ·have hcb : ((ah : Int) == (cn : Int)) = true := by simp [hcn]
      have hci : (ah : Int) = (cn : Int) := by omega
      try simp (disch := first | omega | (simp only [lnS]; try omega)) [-getElem?_pos, -getElem?_neg, hcb, hci]
      refine hK _ _ ?_; clear hK K
      refine ⟨by rw [hseq]; simp [hk, h0, h0e, hs1, hcn, put_at], by (first | (simp [put_at, put_none, fr0_at, q0]; done) | rfl), by (first | (simp [put_at, put_none, fr0_at, q4]; done) | rfl), by (first | (simp [put_at, put_none, fr0_at, q5]; done) | rfl), by (first | (simp [put_at, put_none, fr0_at, q8]; done) | rfl), rfl⟩
     ·have hci : ¬ (ah : Int) = (cn : Int) := by omega
      have hcb : ((ah : Int) == (cn : Int)) = false := by simp [hci]
      try simp (disch := first | omega | (simp only [lnS]; try omega)) [-getElem?_pos, -getElem?_neg, hcb, hci]
      refine hK _ _ ?_; clear hK K
      refine ⟨by rw [hseq]; simp [hci, hk, h0, h0e, hs1, hcn, put_at], by (first | (simp [put_at, put_none, fr0_at, q0]; done) | rfl), by (first | (simp [put_at, put_none, fr0_at, q4]; done) | rfl), by (first | (simp [put_at, put_none, fr0_at, q5]; done) | rfl), by (first | (simp [put_at, put_none, fr0_at, q8]; done) | rfl), rfl⟩
    ·have hs3 : (o.seq == 1 + (ah : Int)) = false := by simp [hs1]
     (refine aw_ops (by kernel_rfl) (fun K hK => ?_); simp (disch := first | omega | (simp only [lnS]; try omega)) [-getElem?_pos, -getElem?_neg, q0, q5, q10, hk, h0, h0e, d5, c3, c1, ca, hul, -notTuple, hnt, hvc, nt_intG, nt_ptrG, -xlen, hxl, hs1, hs3]; refine hK _ _ ?_; clear hK K)
     refine ⟨by rw [hseq]; simp [hk, h0, h0e, hs1, put_at], by (first | (simp [put_at, put_none, fr0_at, q0]; done) | rfl), by (first | (simp [put_at, put_none, fr0_at, q4]; done) | rfl), by (first | (simp [put_at, put_none, fr0_at, q5]; done) | rfl), by (first | (simp [put_at, put_none, fr0_at, q8]; done) | rfl), rfl⟩
  ·have hkb : (o.kind == 1) = false := by simp [hk]
   by_cases hs1 : o.seq = 1 + (ah : Int)
   ·have hs2 : ¬ o.seq ≠ 1 + (ah : Int) := by omega
    have hs3 : (o.seq == 1 + (ah : Int)) = true := by simp [hs1]
    refine aw_ops (by kernel_rfl) (fun K hK => ?_)
    simp (disch := first | omega | (simp only [lnS]; try omega)) [-getElem?_pos, -getElem?_neg, q0, q5, q10, hk, hkb, d5, c3, c1, ca, hul, -notTuple, hnt, hvc, nt_intG, nt_ptrG, -xlen, hxl, hs1, hs3]
    refine ⟨by kernel_rfl, ac_of_rc rc (by simp [pv_iv, pv_int, pv_bool, pv_string, pv_tup2, pv_tup3, iv_plain, p2_int, p2_bool, p2_string]) ?_⟩
    by_cases hcn : ah = cn
    ·have hcb : ((ah : Int) == (cn : Int)) = true := by simp [hcn]
     have hci : (ah : Int) = (cn : Int) := by omega
     try simp (disch := first | omega | (simp only [lnS]; try omega)) [-getElem?_pos, -getElem?_neg, hcb, hci]
     refine hK _ _ ?_; clear hK K
     refine ⟨by rw [hseq]; simp [hk, hkb, hs1, hcn, put_at], by (first | (simp [put_at, put_none, fr0_at, q0]; done) | rfl), by (first | (simp [put_at, put_none, fr0_at, q4]; done) | rfl), by (first | (simp [put_at, put_none, fr0_at, q5]; done) | rfl), by (first | (simp [put_at, put_none, fr0_at, q8]; done) | rfl), rfl⟩
    ·have hci : ¬ (ah : Int) = (cn : Int) := by omega
     have hcb : ((ah : Int) == (cn : Int)) = false := by simp [hci]
     try simp (disch := first | omega | (simp only [lnS]; try omega)) [-getElem?_pos, -getElem?_neg, hcb, hci]
     refine hK _ _ ?_; clear hK K
     refine ⟨by rw [hseq]; simp [hci, hk, hkb, hs1, hcn, put_at], by (first | (simp [put_at, put_none, fr0_at, q0]; done) | rfl), by (first | (simp [put_at, put_none, fr0_at, q4]; done) | rfl), by (first | (simp [put_at, put_none, fr0_at, q5]; done) | rfl), by (first | (simp [put_at, put_none, fr0_at, q8]; done) | rfl), rfl⟩
   ·have hs3 : (o.seq == 1 + (ah : Int)) = false := by simp [hs1]
    (refine aw_ops (by kernel_rfl) (fun K hK => ?_); simp (disch := first | omega | (simp only [lnS]; try omega)) [-getElem?_pos, -getElem?_neg, q0, q5, q10, hk, hkb, d5, c3, c1, ca, hul, -notTuple, hnt, hvc, nt_intG, nt_ptrG, -xlen, hxl, hs1, hs3]; refine hK _ _ ?_; clear hK K)
    refine ⟨by rw [hseq]; simp [hk, hkb, hs1, put_at], by (first | (simp [put_at, put_none, fr0_at, q0]; done) | rfl), by (first | (simp [put_at, put_none, fr0_at, q4]; done) | rfl), by (first | (simp [put_at, put_none, fr0_at, q5]; done) | rfl), by (first | (simp [put_at, put_none, fr0_at, q8]; done) | rfl), rfl⟩
 clear q0 q4 q5 q8 q10 q39 q40 q41
 rintro α G3 ⟨q81, q0, q4, q5, q8, rfl⟩
 cases hso : seqOk l o with
 | false =>
  rw [hso] at q81
  refine aw_t (by (first | (simp [eval_tmp, put_at, q81]; done) | (simp [eval_tmp, put_at, q81]; omega))) (by kernel_rfl) ?_
  refine aw_seq ?_
  (refine aw_ops (by kernel_rfl) (fun K hK => ?_); simp (disch := first | omega | (simp only [lnS]; try omega)) [-getElem?_pos, -getElem?_neg]; refine hK _ _ ?_; clear hK K)
  (refine aw_ret ?_; simp (disch := first | omega | (simp only [lnS]; try omega)) [-getElem?_pos, -getElem?_neg, thenQ_ret, scopeQ_ret, inBlockQ_ret, RQ, resL, resV])
  exact AddQ.bad (hn ▸ hlowG1) (by rw [hle, if_pos hso]) (by decide)
 | true =>
 rw [hso] at q81
 refine aw_f (by (first | (simp [eval_tmp, put_at, q81]; done) | (simp [eval_tmp, put_at, q81]; omega))) (by kernel_rfl) ?_
 refine aw_skip ?_
 refine aw_seq ?_
 have hadd0 : addE l id o = 0 := by rw [hle, if_neg (by simp [hso])]
 obtain ⟨L0, hL0⟩ : ∃ k, k = G3.length := ⟨_, rfl⟩
 obtain ⟨N, hcN⟩ := deepNodes_ac (nro := n) (γ := γ) hNG1 (by omega) (right_sm h1) (by omega)
 rw [← hL0] at hcN
 have hxw : (addD l id o).Wf := by
  rw [hdd]
  refine ⟨hid, hw, fun z hz => ?_, by simp only [maxLen]; omega⟩
  obtain ⟨k, rfl, hk⟩ := hPb z hz
  unfold I64
  omega
 have hcO : ∀ A : AH, A.length = N → Low L0 G3 A → AC Try.prog n γ 82 #[.agg us.toArray] A (DeepO A o pv wv bv) := fun A hA hlow => deepOp_ac (nro := n) (γ := γ) (hOG1.low (fun j hj => hlow.1 j (by omega))) hw ⟨by omega, by omega, by omega⟩ (by have := hlow.2; omega)
 unfold DeepO at hcO
 have hbl := build_node (x := addD l id o) (pv := opP pv N) (wv := opW pv wv N) (bv := opB pv wv bv N) hxw v1 v2
 have hrl := nodeRow_len hxw (opP pv N) (opW pv wv N) (opB pv wv bv N) sv
 have hrv : ∀ D : AH, KsV D (opP pv N) o.parents → InV D (opW pv wv N) o.who → BxV D (opB pv wv bv N) o.boxes → InV D sv P → ValL D (addD l id o).row (nodeRow (addD l id o) (opP pv N) (opW pv wv N) (opB pv wv bv N) sv) := fun D k1 k2 k3 k4 => by
  have : (addD l id o).past = P := by rw [hdd]
  exact node_val (x := addD l id o) k1 k2 k3 (by rw [this]; exact k4)
 have hxid : (addD l id o).id = id := rfl
 have hxop : (addD l id o).op = o := rfl
 rw [hxid, hxop] at hbl
 obtain ⟨ov, hov⟩ : ∃ ov, ov = opRow o (opP pv N) (opW pv wv N) (opB pv wv bv N) := ⟨_, rfl⟩
 have hovl := opRow_len hw (opP pv N) (opW pv wv N) (opB pv wv bv N)
 rw [← hov] at hbl hovl
 have hwfx : ∀ x ∈ l ++ [addD l id o], x.Wf := fun x hx => by
  rcases List.mem_append.1 hx with hx | hx
  ·exact hN.wf x hx
  ·rw [List.mem_singleton] at hx; subst hx; exact hxw
 obtain ⟨row, hrow⟩ : ∃ r, r = nodeRow (addD l id o) (opP pv N) (opW pv wv N) (opB pv wv bv N) sv := ⟨_, rfl⟩
 rw [← hrow] at hbl hrl hrv
 have hown0 := hown
 have hFl := hown.lt
 obtain ⟨N2, hN2⟩ : ∃ k, k = N + opN pv wv bv := ⟨_, rfl⟩
 obtain ⟨Φ, e0, e1, e2, e3, e4, eS⟩ : ∃ Φ : Nat → AH → Prop, (∀ A, Φ 0 A ↔ A = G3) ∧ (∀ A, Φ 1 A ↔ (A.length = N ∧ Low L0 G3 A ∧ ∃ R, NewRows (L0 + 1) A R l ∧ hget A L0 = some ⟨R.flatten, 50, some 104⟩)) ∧
   (∀ A, Φ 2 A ↔ (A.length = N2 ∧ Low L0 G3 A ∧ L0 < N ∧ NewO N A o (opP pv N) (opW pv wv N) (opB pv wv bv N) ∧ ∃ R, NewRows (L0 + 1) A R l ∧ hget A L0 = some ⟨R.flatten, 50, some 104⟩)) ∧
   (∀ A, Φ 3 A ↔ ∃ B, Φ 2 B ∧ A = B ++ [some ⟨row, 50, some 104⟩]) ∧ (∀ A, Φ 4 A ↔ (Low L0 G3 A ∧ NewG n A (.slice (some ⟨N2 + 1, 0, none⟩) (l.length + 1) (l.length + 1)) (l ++ [addD l id o]))) ∧ (∀ s A, Φ s A → Low L0 G3 A) := by
  refine ⟨fun s A => match s with
   | 0 => A = G3
   | 1 => A.length = N ∧ Low L0 G3 A ∧ ∃ R, NewRows (L0 + 1) A R l ∧ hget A L0 = some ⟨R.flatten, 50, some 104⟩
   | 2 => A.length = N2 ∧ Low L0 G3 A ∧ L0 < N ∧ NewO N A o (opP pv N) (opW pv wv N) (opB pv wv bv N) ∧ ∃ R, NewRows (L0 + 1) A R l ∧ hget A L0 = some ⟨R.flatten, 50, some 104⟩
   | 3 => ∃ B : AH, (B.length = N2 ∧ Low L0 G3 B ∧ L0 < N ∧ NewO N B o (opP pv N) (opW pv wv N) (opB pv wv bv N) ∧ ∃ R, NewRows (L0 + 1) B R l ∧ hget B L0 = some ⟨R.flatten, 50, some 104⟩) ∧ A = B ++ [some ⟨row, 50, some 104⟩]
   | _ => Low L0 G3 A ∧ NewG n A (.slice (some ⟨N2 + 1, 0, none⟩) (l.length + 1) (l.length + 1)) (l ++ [addD l id o]), fun _ => Iff.rfl, fun _ => Iff.rfl, fun _ => Iff.rfl, fun _ => Iff.rfl, fun _ => Iff.rfl, fun s A h => ?_⟩
  match s, h with
  | 0, h => cases h; rw [hL0]; exact Low.refl (Nat.le_refl _)
  | 1, h => exact h.2.1
  | 2, h => exact h.2.1
  | 3, ⟨B, h, hA⟩ => rw [hA]; exact ⟨fun j hj => (hget_left (by have := h.2.1.2; omega)).trans (h.2.1.1 j hj), by have := h.2.1.2; rw [List.length_append]; omega⟩
  | s + 4, h => exact h.1
 refine aw_chain (fun j => j == n || j == n + 1) Φ (by kernel_rfl) (by kernel_rfl) (by kernel_rfl) (fun s A h j hj => by
  have e : j = n ∨ j = n + 1 := by simpa using hj
  exact (eS s A h).1 j (by omega)) ((e0 _).2 rfl) (fun K hK => ?_)
 simp (disch := first | omega | (simp only [lnS]; try omega)) [-getElem?_pos, -getElem?_neg, q0, q4, q5, q8, d4, d5, hivl, hta, hul, htu, -notTuple, hnt, hvc, v1, v2, nt_intG, nt_aggG, nt_slG, CL_nil, CL_cons, CLc_val, CLc_skip, memS, inS, inSp, isCallH, isCallU, isCallF, calleeH_f, calleeH_t, calleeH_i, effF]
 refine CLc_call (v := .slice (some ⟨L0, 0, none⟩) l.length l.length) (by kernel_rfl) (fun A hA => ?_) ?_
 ·obtain rfl := (e0 _).1 hA
  exact hcN.mono fun v' A' h => ⟨h.1, (e1 _).2 h.2⟩
 try simp (disch := first | omega | (simp only [lnS]; try omega)) [-getElem?_pos, -getElem?_neg, q0, q4, q5, q8, d4, d5, hivl, hta, hul, htu, -notTuple, hnt, hvc, v1, v2, nt_intG, nt_aggG, nt_slG, CL_nil, CL_cons, CLc_val, CLc_skip, memS, inS, inSp, isCallH, isCallU, isCallF, calleeH_f, calleeH_t, calleeH_i, effF]
 refine CLc_call (v := .agg ov.toArray) (by kernel_rfl) (fun A hA => ?_) ?_
 ·obtain ⟨g1, g2, R, g3, g4⟩ := (e1 _).1 hA
  refine (hcO A g1 g2).mono ?_
  rintro v' A' ⟨k1, k2, k3, k4⟩
  rw [g1] at k1 k2 k3 k4
  have hL0A := hget_lt g4
  refine ⟨by rw [hov]; exact k1, (e2 _).2 ⟨by omega, ⟨fun j hj => (k3.1 j (by omega)).trans (g2.1 j hj), by have := k3.2; omega⟩, by omega, k4, R, g3.keep (fun j _ hj => k3.1 j (by omega)) (by have := k3.2; omega), (k3.1 L0 (by omega)).trans g4⟩⟩
 try simp (disch := first | omega | (simp only [lnS]; try omega)) [-getElem?_pos, -getElem?_neg, q0, q4, q5, q8, d4, d5, hivl, hta, hul, htu, -notTuple, hnt, hvc, v1, v2, nt_intG, nt_aggG, nt_slG, -xbuild, hbl, CL_nil, CL_cons, CLc_val, CLc_skip, memS, inS, inSp, isCallH, isCallU, isCallF, calleeH_f, calleeH_t, calleeH_i, effF]
 have hfil : ∀ Z : List Value, Z.length = 104 → xfill (fun i => some (i * 104, 104)) Z [(0, .agg row.toArray)] = some row := fun Z hZ => fill_row hrl hZ
 have hp0 : plain1 (.slice none 0 0) = true := rfl
 refine CLc_eff (v := .slice (some ⟨N2, 0, none⟩) 1 1) (fun A hA => ?_) ?_
 ·have hA' := (e2 _).1 hA
  refine ⟨A ++ [some ⟨row, 50, some 104⟩], ?_, (e3 _).2 ⟨A, hA, rfl⟩⟩
  have g1 := hA'.1
  simp (disch := first | omega | (simp only [lnS]; try omega)) [-getElem?_pos, -getElem?_neg, -xfill, nt_aggG, hp0, all_zl, g1]
  rw [hfil _ (by simp)]
 try simp (disch := first | omega | (simp only [lnS]; try omega)) [-getElem?_pos, -getElem?_neg, CL_nil, CL_cons, CLc_val, CLc_skip, memS, inS, inSp, isCallH, isCallU, isCallF, calleeH_f, calleeH_t, calleeH_i, effF]
 refine CLc_eff (v := .slice (some ⟨N2 + 1, 0, none⟩) (l.length + 1) (l.length + 1)) (fun A hA => ?_) ?_
 ·obtain ⟨B, hB, rfl⟩ := (e3 _).1 hA
  obtain ⟨g1, g2, hLN, g3, R, g4, g5⟩ := (e2 _).1 hB
  have hL0B := hget_lt g5
  have hRl := fl_len g4.len
  rw [g4.1] at hRl
  have htr : List.take 104 row = row := List.take_of_length_le (by omega)
  have hxc : xcells 104 (.slice (some ⟨N2, 0, none⟩) 1 1) (B ++ [some ⟨row, 50, some 104⟩]) = some row := by rw [← g1]; simp [xcells, hget_app0, hrl, htr]
  obtain ⟨v', H', hap, ho, hl', hk'⟩ := ownF_append (P := Try.prog) (nro := n) (t := 22) (e := 50) (H := B ++ ([some ⟨row, 50, some 104⟩] : AH)) (v := .slice (some ⟨L0, 0, none⟩) l.length l.length) (x := .slice (some ⟨N2, 0, none⟩) 1 1) (sz := 104) (cells := R.flatten) (news := row) (F := [L0]) (by simp) (by simp) (by omega) (by simp) (.inr ⟨L0, l.length, rfl, hget_left' g5, hRl, rfl⟩)
   (fun j hj => by simp at hj; omega) (fun s e => by cases e) hxc (fun e => by rw [e] at hrl; simp at hrl) (by rw [hrl]) (by rw [hRl, hrl]; simp; omega) (by rw [hRl, hrl]; simp only [maxLen]; omega)
  have hBl : (B ++ ([some ⟨row, 50, some 104⟩] : AH)).length = N2 + 1 := by simp [g1]
  rw [hBl] at ho hl' hk'
  obtain ⟨len, rfl⟩ := ho.new
  have hlen : len = l.length + 1 := by
   rcases ho with ⟨h, _, _⟩ | ⟨i, k, he, _, h3, _⟩
   ·cases h
   ·cases he
    rw [List.length_append, hRl, hrl] at h3
    omega
  subst hlen
  have hnew : hget H' (N2 + 1) = some ⟨R.flatten ++ row, 50, some 104⟩ := by
   rcases ho with ⟨h, _, _⟩ | ⟨i, k, he, h2, _, _⟩
   ·cases h
   ·cases he; exact h2
  have hold : ∀ j, j < N2 → j ≠ L0 → hget H' j = hget B j := fun j hj hn => (hk' j (by omega) (by simpa using hn)).trans (hget_left (by omega))
  refine ⟨H', ?_, (e4 _).2 ⟨⟨fun j hj => (hold j (by omega) (by omega)).trans (g2.1 j hj), by omega⟩, fun D hD => ?_⟩⟩
  ·simp (disch := first | omega | (simp only [lnS]; try omega)) [-getElem?_pos, -getElem?_neg, -xappend, hap]
  ·have hD2 : ∀ j, n ≤ j → j < N2 → j ≠ L0 → hget D j = hget B j := fun j h1 h2 h3 => (hD j h1 (by omega)).trans (hold j h2 h3)
   obtain ⟨k1, k2, k3⟩ := g3 D (fun j h1 h2 => hD2 j (by omega) (by omega) (by omega))
   have ho2 := hown0.low (H' := D) (fun j hj => (hD2 j (by have := hFn j hj; omega) (by have := hFl j hj; omega) (by have := hFl j hj; omega)).trans (g2.1 j (by have := hFl j hj; omega)))
   have hrow2 := hrv D k1 k2 k3 (own_inv ho2)
   have hfin := rows_val (D := D) (b := N2 + 1) (T := 50) (es := some 104) (R := R ++ [row]) (L := l ++ [addD l id o]) (by rw [hD (N2 + 1) (by omega) (by omega), hnew]; simp) (by simp [g4.1]) hwfx (fun k us' x hk hx => by
    rcases Nat.lt_or_ge k l.length with hkl | hkl
    ·rw [List.getElem?_append_left (by rw [g4.1]; exact hkl)] at hk
     rw [List.getElem?_append_left hkl] at hx
     have := g4.2 k us' x hk hx
     exact ⟨this.1, this.2 D (fun j h1 h2 => hD2 j (by omega) (by omega) (by omega))⟩
    ·rw [List.getElem?_append_right (by rw [g4.1]; exact hkl), g4.1] at hk
     rw [List.getElem?_append_right hkl] at hx
     match k - l.length, hk, hx with
     | 0, hk, hx => cases hk; cases hx; exact ⟨hrl, hrow2⟩)
   rw [List.length_append] at hfin
   exact hfin
 try simp (disch := first | omega | (simp only [lnS]; try omega)) [-getElem?_pos, -getElem?_neg, CL_nil, CL_cons, CLc_val, CLc_skip, memS, inS, inSp, isCallH, isCallU, isCallF, calleeH_f, calleeH_t, calleeH_i, effF]
 intro A hA
 obtain ⟨g1, g2⟩ := (e4 _).1 hA
 refine hK _ _ ?_; clear hK K
 (refine aw_ret ?_; simp (disch := first | omega | (simp only [lnS]; try omega)) [-getElem?_pos, -getElem?_neg, thenQ_ret, scopeQ_ret, inBlockQ_ret, RQ, resL, resV])
 refine ⟨⟨fun j hj => (g1.1 j (by omega)).trans (hlowG1.1 j (by omega)), by have := g1.2; omega⟩, _, by rw [hadd0], .inl ⟨hadd0, hn ▸ g2⟩⟩
end
section
def key1 (x : Int) : List Int := x :: zl 31
def opC1 (a s k : Int) (ps : List (List Int)) (who : List Int) : OpD := ⟨a, s, ps, k, who, zl 32, key1 1, ByteArray.empty, []⟩
theorem key1_32 (x : Int) : (key1 x).length = 32 := by simp [key1]
theorem key1_ok {x : Int} (h : 0 ≤ x ∧ x ≤ 255) : Key32 (key1 x) := ⟨key1_32 x, fun y hy => by
 rcases List.mem_cons.1 hy with rfl | hy
 ·exact h
 ·have : y = 0 := by
   unfold zl at hy
   exact (List.mem_replicate.1 hy).2
  omega⟩
theorem build_key (x : Int) : xbuild Try.prog 38 [(0, .int .u8 x)] = some (.agg (iv .u8 (key1 x)).toArray) := by
 kernel_rfl
theorem opRow_c1 (a s k : Int) (ps : List (List Int)) (who : List Int) (pv wv bv : Value) : opRow (opC1 a s k [] []) pv wv bv = opRow (opC1 a s k ps who) pv wv bv := rfl
attribute [local simp] wb_bool wb_undef with_lit XL_nil XL_cons XLc_val XLc_call step1_eq stepW_t stepW_f stepC_n stepC_s stepX_s stepX_n stepN_s calleeX xrecv oneV xop_eq xopR_s xopR_n wantedA_eq wantedG_n wantedG_s plain1_int plain1_bool plain1_string bits_i64 bits_u64 bits_u32 bits_u16 bits_u8 xeqA xagg xcmp xarr allK_iv num_iv calleeOf xread xeff xbin xint xnil xun xstr xload xconv xpart xfield xfieldAddr xindexAddr xindex bnd asInt? xslice xlen xmin xmax xbuild xfill xappend xapp2 xappstr xappmk xcap xcopy xcells eval_tmp eval_const put_at put_none fr0_at cells_agg cells_int cells_bool cells_string cells_ptr cells_slice notTuple tab iv_all hget_app hget_app0 hget_cons0 hget_cons set_app set_app0 setR setR_one QL_nil QL_cons QLc_val stepQ_t stepQ_f stepQC_n stepQC_s stepQX_s SL_nil SL_cons SLc_val stepS_t stepS_f ltT ltF leT leF eqT eqF ltTn ltFn leTn leFn eqTn eqFn beqT beqF bneT bneF wi64 wu64 wu32 wu16 wu8 tmodP tdivP hgetL hgetNe hgetEq setL nums_def nums_len Nat.succ_le_of_lt List.getElem?_cons_zero List.getElem?_cons_succ Option.getD_some Int.toNat_add Int.toNat_mul agM okM agB agI agS agP agL agA okB okI okS okP okSl okA
theorem opC1_wf {a s k : Int} {ps : List (List Int)} {who : List Int} (ha : I64 a) (hs : U32 s) (hk : I64 k) (hp : ∀ p ∈ ps, Key32 p) (hpl : ps.length ≤ 100) (hw : ∀ z ∈ who, I64 z) (hwl : who.length ≤ 100) : (opC1 a s k ps who).Wf := by
 refine ⟨ha, hs, hp, by simp only [maxLen]; show ps.length ≤ _; omega, hk, hw, by simp only [maxLen]; show who.length ≤ _; omega, ⟨by simp [opC1], fun y hy => ?_⟩, key1_ok (by omega), by simp [opC1], fun b hb => (by cases hb), by simp [opC1]⟩
 have : y = 0 := (List.mem_replicate.1 hy).2
 omega
theorem NewG.nda {n : Nat} {H G : AH} {v : Value} {l : List NodeD} (h : NewG n H v l) (hw : ∀ x ∈ l, x.Wf) (hk : KeepN n H G) : NdA G v l := (h G hk).nda hw
theorem nil_nda (H : AH) : NdA H (.slice none 0 0) [] := NdV.nda (CD.Val.nil (fun x e => by cases e)) (fun x hx => by cases hx)
theorem AddQ.zero {l : List NodeD} {id : List Int} {o : OpD} {H : AH} {v' : Value} {H' : AH} {L : List NodeD} (h : AddQ l id o H v' H') (hz : addE l id o = 0 ∧ l ++ [addD l id o] = L) : Low H.length H H' ∧ ∃ sv, v' = .tuple #[sv, .int .i64 0] ∧ NewG H.length H' sv L := by
 obtain ⟨h1, sv, h2, h3⟩ := h
 rw [hz.1] at h2
 refine ⟨h1, sv, h2, ?_⟩
 rcases h3 with ⟨_, h3⟩ | ⟨h3, _⟩
 ·rw [← hz.2]; exact h3
 ·exact absurd hz.1 h3
theorem NewG.sh {n : Nat} {H : AH} {v : Value} {l : List NodeD} (h : NewG n H v l) : notTuple v = true ∧ v.cells = #[v] := val_nt (h H (fun _ _ _ => rfl))
theorem kr_ksv {G : AH} {v : Value} {F : List Nat} {ps : List (List Int)} (h : OwnF G v 38 32 (kr ps) F) (hk : K32 ps) : KsV G v ps := by
 rw [← ksC_kr] at h
 exact own_val (by omega) h (kd_len hk) (kd_flat ps)
end
section
theorem nodes_in {H : AH} {ds : List CD} {u : Value} (ho : OkL [.sl nodeK] ds) (hv : ValL H ds [u]) : ∃ l, NdV H u l ∧ (∀ x ∈ l, x.Wf) ∧ l.length ≤ maxLen := by
 obtain ⟨d, r, rfl, h1, h2⟩ := ho.cons
 obtain rfl := h2.nil
 obtain ⟨l, rfl, h3, h4⟩ := nodes_of h1
 obtain ⟨u', r', e, h5, h6⟩ := hv.cons
 cases e
 exact ⟨l, h5, h3, h4⟩
section
variable {l : List NodeD}
end
end
section
def Fun1 (γ : Nat → Option Nat) (H : AH) (f : Nat) (cs : Array Value) (P : Int → Bool) : Prop := callable Try.prog f = true ∧ ∀ (G : AH) (z : Int), Low H.length H G → AC Try.prog G.length γ f (#[.int .i64 z] ++ cs) G (fun v' _ => v' = .bool (P z))
def Grp (γ : Nat → Option Nat) (H : AH) (v : Value) (P : Int → Bool) : Prop := ∃ f cs, v = .agg #[.func (.func f) #[] cs] ∧ Fun1 γ H f cs P
theorem Low.both {A B C : AH} (h : Low A.length A B) (k : Low B.length B C) : Low A.length A C := ⟨fun j hj => (k.1 j (by have := h.2; omega)).trans (h.1 j hj), by have := h.2; have := k.2; omega⟩
theorem Fun1.low {γ : Nat → Option Nat} {H H' : AH} {f : Nat} {cs : Array Value} {P : Int → Bool} (h : Fun1 γ H f cs P) (hl : Low H.length H H') : Fun1 γ H' f cs P := ⟨h.1, fun G z hg => h.2 G z (hl.both hg)⟩
theorem Grp.low {γ : Nat → Option Nat} {H H' : AH} {v : Value} {P : Int → Bool} (h : Grp γ H v P) (hl : Low H.length H H') : Grp γ H' v P := by
 obtain ⟨f, cs, e, hf⟩ := h
 exact ⟨f, cs, e, hf.low hl⟩
theorem any_first {n : Nat} {p : Nat → Bool} : decide (0 ≤ firstI n p) = (List.range n).any p := by
 rw [Bool.eq_iff_iff, decide_eq_true_eq, firstI_ge, List.any_eq_true]
 exact ⟨fun ⟨k, h1, h2⟩ => ⟨k, List.mem_range.2 h1, h2⟩, fun ⟨k, h1, h2⟩ => ⟨k, List.mem_range.1 h1, h2⟩⟩
def Inc (l : List Int) : Prop := l.Pairwise (· < ·)
theorem Inc.at_ {l : List Int} (h : Inc l) {i j : Nat} (hij : i < j) (hj : j < l.length) : l.getD i 0 < l.getD j 0 := by
 rw [List.getD_eq_getElem?_getD, List.getD_eq_getElem?_getD, List.getElem?_eq_getElem hj, List.getElem?_eq_getElem (by omega)]
 exact List.pairwise_iff_getElem.1 h i j (by omega) hj hij
theorem Inc.le {l : List Int} (h : Inc l) {i j : Nat} (hij : i ≤ j) (hj : j < l.length) : l.getD i 0 ≤ l.getD j 0 := by
 rcases Nat.eq_or_lt_of_le hij with rfl | hlt
 ·exact Int.le_refl _
 ·exact Int.le_of_lt (h.at_ hlt hj)
end
section
abbrev CtA (H : AH) (v : Value) (c : List Bool) : Prop := Acc H 33 4 v c.length (fun i x => x = .bool (c.getD i false))
def ahB (l : List NodeD) (a b : Nat) : Bool := decide ((a : Int) ∈ (nd l b).past)
def remB (l : List NodeD) (c : List Bool) (r : Nat) (w : Int) : Bool := decide ((nd l r).op.kind = 3) && (c.getD r false && decide (w ∈ (nd l r).op.who))
theorem nt_fn (f : Fn) (a b : Array Value) : notTuple (.func f a b) = true := rfl
theorem cs_fn (f : Fn) (a b : Array Value) : (Value.func f a b).cells = #[.func f a b] := rfl
end
section
def besB (l : List NodeD) (c : List Bool) (S : List Int) (a : Nat) : Bool := S.any fun r => remB l c r.toNat (nd l a).op.author && (!ahB l r.toNat a && !ahB l a r.toNat)
def admB (l : List NodeD) (c : List Bool) (S : List Int) (a : Nat) (w : Int) : Bool := c.getD a false && (decide (w ∈ (nd l a).op.who) && (decide ((nd l a).op.kind = 1) || (decide ((nd l a).op.kind = 2) && !besB l c S a)))
def rosB (l : List NodeD) (c : List Bool) (S : List Int) (w : Int) : Bool := S.any fun a => admB l c S a.toNat w && !(S.any fun r => remB l c r.toNat w && !ahB l r.toNat a.toNat)
structure VwA (H : AH) (nv cv : Value) (l : List NodeD) (c : List Bool) : Prop where
 nodes : NdA H nv l
 counts : CtA H cv c
 len : c.length = l.length
 right : rightG l = true
theorem VwA.low {H G : AH} {nv cv : Value} {l : List NodeD} {c : List Bool} (h : VwA H nv cv l c) (hl : Low H.length H G) : VwA G nv cv l c := ⟨h.nodes.lowG hl, h.counts.low hl, h.len, h.right⟩
end
section
def membL (P : Int → Bool) (k : Nat) : List Int := ((List.range k).map fun n : Nat => (n : Int)).filter P
end
section
def cntP (l : List NodeD) : Nat → List Bool
 | 0 => []
 | i + 1 => cntP l i ++ [decide ((nd l i).op.kind = 1) || rosB l (cntP l i) (nd l i).past (nd l i).op.author]
def cntsB (l : List NodeD) : List Bool := cntP l l.length
theorem cntP_len (l : List NodeD) (i : Nat) : (cntP l i).length = i := by
 induction i with
 | zero => rfl
 | succ i ih => simp [cntP, ih]
def bv (c : List Bool) : List Value := c.map .bool
end
section
def InR (l : List NodeD) (S : List Int) : Prop := ∀ z ∈ S, 0 ≤ z ∧ z < l.length
def ClS (l : List NodeD) (S : List Int) : Prop := ∀ a ∈ S, ∀ z ∈ (nd l a.toNat).past, z ∈ S
instance (l : List NodeD) (S : List Int) : Decidable (InR l S) := by unfold InR; infer_instance
instance (S : List Int) : Decidable (Inc S) := by unfold Inc; infer_instance
instance (l : List NodeD) (S : List Int) : Decidable (ClS l S) := by unfold ClS; infer_instance
theorem Inc.take {S : List Int} (h : Inc S) (i : Nat) : Inc (S.take i) := List.Pairwise.sublist (List.take_sublist i S) h
theorem val_take {H : AH} {rows : List (List CD)} {v : Value} (h : CD.Val H (.sl rows) v) (h0 : 0 < rows.length) {i : Nat} (hi : i ≤ rows.length) : ∃ v', CD.Val H (.sl (rows.take i)) v' ∧ ∀ (P : Program) (t e : TypeId) (G : AH), und P t = .slice e → 0 < szt P e → xslice P t v none (some (.int .i64 (i : Nat))) G = some v' := by
 cases h with
 | nil => simp at h0
 | @sl sz j k _ h1 h2 h3 h4 =>
  have hlt : (rows.take i).length = i := by rw [List.length_take]; omega
  refine ⟨.slice (some ⟨j, 0, none⟩) i i, ?_, fun P t e G ht h0 => ?_⟩
  ·have := CD.Val.sl (H := H) (sz := sz) (j := j) (rows := rows.take i) h1 (by rw [hlt]; exact Nat.le_trans (Nat.mul_le_mul_right _ hi) h2) (fun row hr => h3 row (List.mem_of_mem_take hr)) (fun k' row c d x hr hc hx => h4 k' row c d x (by
    have hki : k' < i := by have := (List.getElem?_eq_some_iff.1 hr).1; omega
    rwa [List.getElem?_take_of_lt hki] at hr) hc hx)
   rwa [hlt] at this
  ·unfold xslice
   simp only [ht, bnd, asInt?]
   rw [if_pos ⟨by omega, by omega, by omega, h0⟩]
   simp
attribute [local simp] wb_bool wb_undef with_lit XL_nil XL_cons XLc_val XLc_call step1_eq stepW_t stepW_f stepC_n stepC_s stepX_s stepX_n stepN_s calleeX xrecv oneV xop_eq xopR_s xopR_n wantedA_eq wantedG_n wantedG_s plain1_int plain1_bool plain1_string bits_i64 bits_u64 bits_u32 bits_u16 bits_u8 xeqA xagg xcmp xarr allK_iv num_iv calleeOf xread xeff xbin xint xnil xun xstr xload xconv xpart xfield xfieldAddr xindexAddr xindex bnd asInt? xslice xlen xmin xmax xbuild xfill xappend xapp2 xappstr xappmk xcap xcopy xcells eval_tmp eval_const put_at put_none fr0_at cells_agg cells_int cells_bool cells_string cells_ptr cells_slice notTuple tab iv_all hget_app hget_app0 hget_cons0 hget_cons set_app set_app0 setR setR_one QL_nil QL_cons QLc_val stepQ_t stepQ_f stepQC_n stepQC_s stepQX_s SL_nil SL_cons SLc_val stepS_t stepS_f ltT ltF leT leF eqT eqF ltTn ltFn leTn leFn eqTn eqFn beqT beqF bneT bneF wi64 wu64 wu32 wu16 wu8 tmodP tdivP hgetL hgetNe hgetEq setL nums_def nums_len Nat.succ_le_of_lt List.getElem?_cons_zero List.getElem?_cons_succ Option.getD_some Int.toNat_add Int.toNat_mul agM okM agB agI agS agP agL agA okB okI okS okP okSl okA
theorem InV.take {H : AH} {v : Value} {S : List Int} (h : InV H v S) (h0 : 0 < S.length) {i : Nat} (hi : i ≤ S.length) : ∃ v', InV H v' (S.take i) ∧ ∀ G : AH, xslice Try.prog 23 v none (some (.int .i64 (i : Nat))) G = some v' := by
 obtain ⟨v', h1, h2⟩ := val_take h (by simpa using h0) (i := i) (by simpa using hi)
 exact ⟨v', by unfold InV; rw [List.map_take]; exact h1, fun G => h2 _ _ 3 G (by kernel_rfl) (by simp)⟩
end
section
def rgZ (n : Nat) : List Int := (List.range n).map fun k : Nat => (k : Int)
theorem rgZ_succ (n : Nat) : rgZ (n + 1) = rgZ n ++ [(n : Int)] := by unfold rgZ; rw [List.range_succ, List.map_append]; rfl
theorem mem_rgZ {n : Nat} {z : Int} : z ∈ rgZ n ↔ 0 ≤ z ∧ z < n := by
 unfold rgZ
 rw [List.mem_map]
 constructor
 ·rintro ⟨k, hk, rfl⟩
  rw [List.mem_range] at hk
  omega
 ·rintro ⟨h1, h2⟩
  exact ⟨z.toNat, List.mem_range.2 (by omega), by omega⟩
def allR (l : List NodeD) : List Int := if rightG l then membL (rosB l (cntsB l) (rgZ l.length)) 8 else []
end
section
theorem build_opc (w : Addr) (n : Nat) : xbuild Try.prog 41 [(1, .int .u32 1), (3, .int .i64 1), (4, .slice (some w) n n), (6, .agg (iv .u8 (key1 1)).toArray)] = some (.agg (opRow (opC1 0 1 1 [] []) (.slice none 0 0) (.slice (some w) n n) (.slice none 0 0)).toArray) := by kernel_rfl
attribute [local simp] wb_bool wb_undef with_lit XL_nil XL_cons XLc_val XLc_call step1_eq stepW_t stepW_f stepC_n stepC_s stepX_s stepX_n stepN_s calleeX xrecv oneV xop_eq xopR_s xopR_n wantedA_eq wantedG_n wantedG_s plain1_int plain1_bool plain1_string bits_i64 bits_u64 bits_u32 bits_u16 bits_u8 xeqA xagg xcmp xarr allK_iv num_iv calleeOf xread xeff xbin xint xnil xun xstr xload xconv xpart xfield xfieldAddr xindexAddr xindex bnd asInt? xslice xlen xmin xmax xbuild xfill xappend xapp2 xappstr xappmk xcap xcopy xcells eval_tmp eval_const put_at put_none fr0_at cells_agg cells_int cells_bool cells_string cells_ptr cells_slice notTuple tab iv_all hget_app hget_app0 hget_cons0 hget_cons set_app set_app0 setR setR_one QL_nil QL_cons QLc_val stepQ_t stepQ_f stepQC_n stepQC_s stepQX_s SL_nil SL_cons SLc_val stepS_t stepS_f ltT ltF leT leF eqT eqF ltTn ltFn leTn leFn eqTn eqFn beqT beqF bneT bneF wi64 wu64 wu32 wu16 wu8 tmodP tdivP hgetL hgetNe hgetEq setL nums_def nums_len Nat.succ_le_of_lt List.getElem?_cons_zero List.getElem?_cons_succ Option.getD_some Int.toNat_add Int.toNat_mul agM okM agB agI agS agP agL agA okB okI okS okP okSl okA
theorem boxed2 {H : AH} (us : List Value) (t : TypeId) (z : Nat) : Low H.length H (H ++ [some ⟨us, t, some z⟩]) ∧ hget (H ++ [some ⟨us, t, some z⟩]) H.length = some ⟨us, t, some z⟩ := ⟨Low.push (Nat.le_refl _) _, by rw [hget_app0]; rfl⟩
theorem ints_inv {G : AH} {b n : Nat} {L : List Int} (h : hget G b = some ⟨iv .i64 L, 3, some 1⟩) (hn : L.length = n) : InV G (.slice (some ⟨b, 0, none⟩) n n) L := own_inv (e := 3) (F := [b]) (.inr ⟨_, n, rfl, h, by rw [iv_length]; omega, rfl⟩)
theorem key1_ksv {G : AH} {b : Nat} {x : Int} (h : hget G b = some ⟨iv .u8 (key1 x), 38, some 32⟩) : KsV G (.slice (some ⟨b, 0, none⟩) 1 1) [key1 x] := kr_ksv (F := [b]) (.inr ⟨b, 1, rfl, by rw [kr_one]; exact h, by rw [kr_one, iv_length, key1_32], rfl⟩) (fun k hk => by simp at hk; subst hk; exact key1_32 x)
theorem nil3 (G : AH) : KsV G (.slice none 0 0) [] ∧ InV G (.slice none 0 0) [] ∧ BxV G (.slice none 0 0) [] := ⟨.nil (fun x e => by cases e), .nil (fun x e => by cases e), .nil (fun x e => by cases e)⟩
end
section
section
variable {l : List NodeD}
theorem cntP_pre (i : Nat) : ∀ n, i ≤ n → ∀ r, r < i → (cntP l n).getD r false = (cntP l i).getD r false := by
 intro n
 induction n with
 | zero =>
  intro h r hr
  omega
 | succ n ih =>
  intro h r hr
  rcases Nat.eq_or_lt_of_le h with rfl | hlt
  ·rfl
  ·rw [← ih (by omega) r hr]
   have e : cntP l (n + 1) = cntP l n ++ [decide ((nd l n).op.kind = 1) || rosB l (cntP l n) (nd l n).past (nd l n).op.author] := rfl
   rw [e, List.getD_eq_getElem?_getD, List.getElem?_append_left (by rw [cntP_len]; omega), ← List.getD_eq_getElem?_getD]
theorem ros_cong {c d : List Bool} {S : List Int} (h : ∀ z ∈ S, c.getD z.toNat false = d.getD z.toNat false) (w : Int) : rosB l c S w = rosB l d S w := by
 have h1 : ∀ z ∈ S, ∀ v, remB l c z.toNat v = remB l d z.toNat v := fun z hz v => by unfold remB; rw [h z hz]
 have h2 : ∀ a, besB l c S a = besB l d S a := fun a => by
  unfold besB
  rw [Bool.eq_iff_iff, List.any_eq_true, List.any_eq_true]
  exact exists_congr fun r => and_congr_right fun hr => by rw [h1 r hr]
 unfold rosB
 rw [Bool.eq_iff_iff, List.any_eq_true, List.any_eq_true]
 refine exists_congr fun a => and_congr_right fun ha => ?_
 have h3 : (S.any fun r => remB l c r.toNat w && !ahB l r.toNat a.toNat) = S.any fun r => remB l d r.toNat w && !ahB l r.toNat a.toNat := by
  rw [Bool.eq_iff_iff, List.any_eq_true, List.any_eq_true]
  exact exists_congr fun r => and_congr_right fun hr => by rw [h1 r hr]
 unfold admB
 rw [h3, h a ha, h2]
theorem cnts_at (h3 : rightG l = true) {i : Nat} (hi : i < l.length) : (cntsB l).getD i false = (decide ((nd l i).op.kind = 1) || rosB l (cntsB l) (nd l i).past (nd l i).op.author) := by
 unfold cntsB
 rw [cntP_pre (i + 1) l.length (by omega) i (by omega)]
 have e : cntP l (i + 1) = cntP l i ++ [decide ((nd l i).op.kind = 1) || rosB l (cntP l i) (nd l i).past (nd l i).op.author] := rfl
 rw [e, List.getD_eq_getElem?_getD, List.getElem?_append_right (by rw [cntP_len]; exact Nat.le_refl _), cntP_len, Nat.sub_self]
 refine congrArg (fun b => decide ((nd l i).op.kind = 1) || b) ?_
 refine ros_cong (fun z hz => ?_) _
 obtain ⟨k, rfl, hk⟩ := past_bd h3 hi hz
 rw [Int.toNat_natCast]
 exact (cntP_pre i l.length (by omega) k hk).symm
end
end
section
theorem nd_push {m : List NodeD} {x : NodeD} {a : Nat} (h : a < m.length) : nd (m ++ [x]) a = nd m a := by
 unfold nd
 rw [List.getD_eq_getElem?_getD, List.getD_eq_getElem?_getD, List.getElem?_append_left h]
theorem nd_last (m : List NodeD) (x : NodeD) : nd (m ++ [x]) m.length = x := nd_eq (by rw [List.getElem?_append_right (Nat.le_refl _)]; simp)
theorem findN_eq_none {l : List NodeD} {n : Nat} {k : List Int} (h : ∀ a, a < n → (nd l a).id ≠ k) : findN l n k = none := by
 unfold findN
 rw [List.find?_eq_none]
 intro a ha
 have := h a (List.mem_range.1 ha)
 simpa using this
theorem stepB_congr {l m : List NodeD} {i : Nat} (h : ∀ a, a ≤ i → nd l a = nd m a) : stepB l i = stepB m i := by
 have h' : ∀ a, a < i → nd l a = nd m a := fun a ha => h a (by omega)
 unfold stepB
 rw [h i (Nat.le_refl _), pastL_congr h', turnB_congr h']
 have : (fun p => (findN l i p).isSome) = fun p => (findN m i p).isSome := by
  funext p
  rw [find_congr h']
 rw [this, find_congr h']
section
variable {l m : List NodeD}
theorem add_facts {id : List Int} {o : OpD} (h : addE m id o = 0) : rightG m = true ∧ rightO o = true ∧ findN m m.length id = none ∧ m.length ≠ 96 ∧ o.parents.all (fun p => (findN m m.length p).isSome) = true ∧ seqOk m o = true := by
 unfold addE at h
 split at h
 ·cases h
 rename_i h1
 split at h
 ·cases h
 rename_i h2
 split at h
 ·cases h
 rename_i h3
 split at h
 ·cases h
 rename_i h4
 split at h
 ·cases h
 rename_i h5
 split at h
 ·cases h
 rename_i h6
 exact ⟨eq_true_of_ne_false h1, eq_true_of_ne_false h2, by simpa using h3, h4, eq_true_of_ne_false h5, eq_true_of_ne_false h6⟩
theorem rightO_first {o : OpD} (h : rightO o = true) (hk : o.kind ≠ 1) : 0 < o.parents.length := by
 unfold rightO at h
 simp only [Bool.and_eq_true] at h
 have := h.2.2.2.1
 unfold placeB at this
 rw [if_neg hk] at this
 simp only [Bool.and_eq_true, decide_eq_true_eq] at this
 exact this.2.1
theorem add_turn {id : List Int} {o : OpD} (h : addE m id o = 0) : turnB m m.length o (pastL m m.length o.parents) = true := by
 obtain ⟨h1, h2, h3, h4, h5, h6⟩ := add_facts h
 unfold seqOk at h6
 simp only [Bool.and_eq_true, Bool.not_eq_true', Bool.and_eq_false_iff, decide_eq_true_eq, decide_eq_false_iff_not] at h6
 obtain ⟨h7, h8, h9⟩ := h6
 unfold turnB
 rw [(ahead_all m m.length o.parents o.author).1 h9, Bool.true_and, Bool.and_eq_true, decide_eq_true_eq]
 refine ⟨?_, by rw [← h9]; exact h8⟩
 rw [beq_iff_eq, decide_eq_decide]
 constructor
 ·intro hk
  rcases h7 with h7 | h7
  ·exact absurd hk h7
  ·omega
 ·intro hn
  refine Decidable.byContradiction fun hk => ?_
  have hp := rightO_first h2 hk
  rw [List.all_eq_true] at h5
  obtain ⟨p, hp⟩ := List.exists_mem_of_length_pos hp
  have := h5 p hp
  rw [hn, findN_zero] at this
  cases this
theorem add_rightG {id : List Int} {o : OpD} (h : addE m id o = 0) : rightG (m ++ [addD m id o]) = true := by
 obtain ⟨h1, h2, h3, h4, h5, h6⟩ := add_facts h
 have hl := rightG_len h1
 have ht := add_turn h
 have hc : ∀ a, a < m.length → nd (m ++ [addD m id o]) a = nd m a := fun a ha => nd_push ha
 unfold rightG
 rw [Bool.and_eq_true, decide_eq_true_eq, List.all_eq_true]
 refine ⟨by simp; omega, fun i hi => ?_⟩
 rw [List.mem_range, List.length_append] at hi
 rcases Nat.lt_or_ge i m.length with hil | hil
 ·rw [stepB_congr (fun a ha => hc a (by omega))]
  exact right_step h1 hil
 ·have : i = m.length := by simp at hi; omega
  subst this
  rw [step_iff, nd_last]
  have hps : (fun p => (findN (m ++ [addD m id o]) m.length p).isSome) = fun p => (findN m m.length p).isSome := by
   funext p
   rw [find_congr hc]
  have e1 : (addD m id o).op = o := rfl
  have e2 : (addD m id o).id = id := rfl
  have e3 : (addD m id o).past = pastL m m.length o.parents := rfl
  rw [e1, e2, e3, hps, find_congr hc, pastL_congr hc, turnB_congr hc]
  exact ⟨h5, h2, h3, rfl, ht⟩
theorem ids_inj (h : rightG l = true) {i j : Nat} (hi : i < l.length) (hj : j < l.length) (e : (nd l i).id = (nd l j).id) : i = j := by
 rcases Nat.lt_trichotomy i j with hlt | rfl | hlt
 ·exact absurd e (ids_ne h hlt hj)
 ·rfl
 ·exact absurd e.symm (ids_ne h hlt hi)
structure Sub (l m : List NodeD) : Prop where
 left : rightG l = true
 right : rightG m = true
 at_ : ∀ j, j < m.length → ∃ i, i < l.length ∧ (nd m j).id = (nd l i).id ∧ (nd m j).op = (nd l i).op
theorem Sub.op (h : Sub l m) {i j : Nat} (hi : i < l.length) (hj : j < m.length) (e : (nd m j).id = (nd l i).id) : (nd m j).op = (nd l i).op := by
 obtain ⟨i', h1, h2, h3⟩ := h.at_ j hj
 obtain rfl : i = i' := ids_inj h.left hi h1 (e.symm.trans h2)
 exact h3
theorem in_past (h : rightG l = true) {i k : Nat} (hi : i < l.length) : (k : Int) ∈ (nd l i).past ↔ ∃ p ∈ (nd l i).op.parents, ∃ a, findN l i p = some a ∧ (a = k ∨ (k : Int) ∈ (nd l a).past) := by
 rw [right_past h hi, mem_pastL, inB_iff]
 refine ⟨fun h => h.2, fun hh => ⟨?_, hh⟩⟩
 obtain ⟨p, hp, a, ha, hor⟩ := hh
 have hal := findN_lt ha
 rcases hor with rfl | hor
 ·exact hal
 ·obtain ⟨k', e, hk⟩ := past_bd h (by omega) hor
  omega
theorem Sub.past (h : Sub l m) : ∀ (j : Nat), j < m.length → ∀ (i j' i' : Nat), i < l.length → (nd m j).id = (nd l i).id → j' < m.length → i' < l.length → (nd m j').id = (nd l i').id → ((j' : Int) ∈ (nd m j).past ↔ (i' : Int) ∈ (nd l i).past) := by
 intro j
 induction j using Nat.strongRecOn with
 | ind j ih =>
  intro hj i j' i' hi e hj' hi' e'
  have hop := h.op hi hj e
  rw [in_past h.right hj, in_past h.left hi, hop]
  refine exists_congr fun p => and_congr_right fun hp => ?_
  obtain ⟨a, ha⟩ := right_par h.right hj (by rw [hop]; exact hp)
  obtain ⟨b, hb⟩ := right_par h.left hi hp
  have hal := findN_lt ha
  have hbl := findN_lt hb
  have hia := findN_id ha
  have hib := findN_id hb
  rw [ha, hb]
  have eab : (nd m a).id = (nd l b).id := hia.trans hib.symm
  simp only [Option.some.injEq, exists_eq_left']
  refine or_congr ?_ (ih a hal (by omega) b j' i' (by omega) eab hj' hi' e')
  constructor
  ·rintro rfl
   exact ids_inj h.left (by omega) hi' (eab.symm.trans e')
  ·rintro rfl
   exact ids_inj h.right (by omega) hj' (eab.trans e'.symm)
theorem Sub.closed (h : Sub l m) : ∀ (j : Nat), j < m.length → ∀ (i i' : Nat), i < l.length → (nd m j).id = (nd l i).id → (i' : Int) ∈ (nd l i).past → ∃ j', j' < m.length ∧ (nd m j').id = (nd l i').id := by
 intro j
 induction j using Nat.strongRecOn with
 | ind j ih =>
  intro hj i i' hi e hp
  have hop := h.op hi hj e
  rw [in_past h.left hi] at hp
  obtain ⟨p, hp, b, hb, hor⟩ := hp
  obtain ⟨a, ha⟩ := right_par h.right hj (by rw [hop]; exact hp)
  have hal := findN_lt ha
  have hbl := findN_lt hb
  have eab : (nd m a).id = (nd l b).id := (findN_id ha).trans (findN_id hb).symm
  rcases hor with rfl | hor
  ·exact ⟨a, by omega, eab⟩
  ·exact ih a hal (by omega) b i' (by omega) eab hor
theorem ids_nodup (h : rightG l = true) (n : Nat) (hn : n ≤ l.length) (p : Nat → Bool) : (((List.range n).filter p).map fun k => (nd l k).id).Nodup := by
 rw [List.Nodup, List.pairwise_map]
 refine List.Pairwise.imp_of_mem ?_ (List.Pairwise.filter _ List.pairwise_lt_range)
 intro i j hi hj hij
 exact ids_ne h hij (by have := List.mem_range.1 (List.mem_filter.1 hj).1; omega)
theorem mem_ids {n : Nat} {p : Nat → Bool} {k : List Int} : k ∈ ((List.range n).filter p).map (fun k => (nd l k).id) ↔ ∃ i, i < n ∧ p i = true ∧ (nd l i).id = k := by
 rw [List.mem_map]
 refine exists_congr fun i => ?_
 rw [List.mem_filter, List.mem_range]
 exact and_assoc
theorem filtT (n : Nat) : (List.range n).filter (fun _ => true) = List.range n := List.filter_eq_self.2 (fun _ _ => rfl)
theorem leastG {P : Nat → Prop} : ∀ n, (∃ i, i < n ∧ P i) → ∃ i, i < n ∧ P i ∧ ∀ j, j < i → ¬ P j := by
 intro n
 induction n with
 | zero => rintro ⟨i, hi, _⟩; omega
 | succ n ih =>
  rintro ⟨i, hi, hp⟩
  by_cases h : ∃ i, i < n ∧ P i
  ·obtain ⟨i, a, b, c⟩ := ih h
   exact ⟨i, by omega, b, c⟩
  ·refine ⟨i, hi, hp, fun j hj hpj => h ⟨j, by omega, hpj⟩⟩
theorem Sub.len (h : Sub l m) : m.length ≤ l.length := by
 have := List.Nodup.length_le_of_subset (l₂ := ((List.range l.length).filter fun _ => true).map fun k => (nd l k).id) (ids_nodup h.right m.length (Nat.le_refl _) (fun _ => true)) (fun k hk => by
  obtain ⟨j, hj, _, rfl⟩ := mem_ids.1 hk
  obtain ⟨i, hi, e, _⟩ := h.at_ j hj
  exact mem_ids.2 ⟨i, hi, rfl, e.symm⟩)
 simpa [filtT] using this
theorem Sub.more (h : Sub l m) (hlt : m.length < l.length) (h40 : l.length ≤ 90) : ∃ i, i < l.length ∧ addE m (nd l i).id (nd l i).op = 0 := by
 obtain ⟨i, hi, hno, hle⟩ : ∃ i, i < l.length ∧ (∀ j, j < m.length → (nd m j).id ≠ (nd l i).id) ∧ ∀ i', i' < i → ¬ (∀ j, j < m.length → (nd m j).id ≠ (nd l i').id) := by
  refine leastG l.length ?_
  refine Classical.byContradiction fun hall => ?_
  have := List.Nodup.length_le_of_subset (l₂ := ((List.range m.length).filter fun _ => true).map fun k => (nd m k).id) (ids_nodup h.left l.length (Nat.le_refl _) (fun _ => true)) (fun k hk => by
   obtain ⟨i, hi, _, rfl⟩ := mem_ids.1 hk
   refine Classical.byContradiction fun hn => hall ⟨i, hi, fun j hj e => hn (mem_ids.2 ⟨j, hj, rfl, e⟩)⟩)
  simp [filtT] at this
  omega
 have hthere : ∀ i', i' < i → ∃ j, j < m.length ∧ (nd m j).id = (nd l i').id := fun i' hi' => by
  refine Classical.byContradiction fun hn => hle i' hi' fun j hj e => hn ⟨j, hj, e⟩
 refine ⟨i, hi, ?_⟩
 have hturn := right_turn h.left hi
 unfold turnB at hturn
 simp only [Bool.and_eq_true, decide_eq_true_eq, beq_iff_eq, decide_eq_decide] at hturn
 obtain ⟨hk1, hau, hsq⟩ := hturn
 have f1 := h.right
 have f2 := right_op h.left hi
 have f3 : findN m m.length (nd l i).id = none := findN_eq_none hno
 have hpar : ∀ p ∈ (nd l i).op.parents, ∀ a, findN l i p = some a → ∃ j, j < m.length ∧ findN m m.length p = some j ∧ (nd m j).id = (nd l a).id := fun p hp a ha => by
  obtain ⟨j, hj, e⟩ := hthere a (findN_lt ha)
  have hid := findN_id ha
  refine ⟨j, hj, ?_, e⟩
  rw [← hid, ← e]
  exact find_self h.right hj (Nat.le_refl _)
 have f5 : (nd l i).op.parents.all (fun p => (findN m m.length p).isSome) = true := by
  rw [List.all_eq_true]
  intro p hp
  obtain ⟨a, ha⟩ := right_par h.left hi hp
  obtain ⟨j, hj, e, _⟩ := hpar p hp a ha
  rw [e]; rfl
 have hbefore : ∀ j, j < m.length → ∀ i', i' < l.length → (nd m j).id = (nd l i').id → (nd l i').op.author = (nd l i).op.author → i' < i := fun j hj i' hi' e ea => by
  refine Classical.byContradiction fun hge => ?_
  rcases Nat.eq_or_lt_of_le (Nat.le_of_not_lt hge) with rfl | hgt
  ·exact hno j hj e
  ·obtain ⟨j', hj', e'⟩ := h.closed j hj i' i hi' e (author_ahead h.left hgt hi' ea.symm)
   exact hno j' hj' e'
 have hall : autA m m.length (nd l i).op.author (pastL m m.length (nd l i).op.parents) = true := by
  unfold autA at hau ⊢
  rw [List.all_eq_true] at hau ⊢
  intro j hj
  rw [List.mem_range] at hj
  by_cases ea : (nd m j).op.author = (nd l i).op.author
  ·obtain ⟨i', hi', e, eo⟩ := h.at_ j hj
   have hlt' := hbefore j hj i' hi' e (by rw [← eo]; exact ea)
   have := hau i' (List.mem_range.2 hlt')
   rw [← eo] at this
   have hin : (i' : Int) ∈ (nd l i).past := by simpa [ea] using this
   rw [in_past h.left hi] at hin
   obtain ⟨p, hp, a, ha, hor⟩ := hin
   have hal := findN_lt ha
   obtain ⟨b, hb, hfb, eb⟩ := hpar p hp a ha
   have hinm : (j : Int) ∈ pastL m m.length (nd l i).op.parents := by
    rw [mem_pastL, inB_iff]
    refine ⟨hj, p, hp, b, hfb, ?_⟩
    rcases hor with rfl | hor
    ·exact .inl (ids_inj h.right hb hj (eb.trans e.symm))
    ·exact .inr ((h.past b hb a j i' (by omega) eb hj hi' e).2 hor)
   simp [hinm]
  ·have : ((nd m j).op.author == (nd l i).op.author) = false := by simpa using ea
   simp [this]
 have hcnt : autN m m.length (nd l i).op.author = autN l i (nd l i).op.author := by
  unfold autN
  have hp := (List.perm_ext_iff_of_nodup (ids_nodup h.right m.length (Nat.le_refl _) (fun a => (nd m a).op.author == (nd l i).op.author)) (ids_nodup h.left i (by omega) (fun a => (nd l a).op.author == (nd l i).op.author))).2 (fun k => by
   rw [mem_ids, mem_ids]
   constructor
   ·rintro ⟨j, hj, ea, rfl⟩
    obtain ⟨i', hi', e, eo⟩ := h.at_ j hj
    rw [beq_iff_eq] at ea
    have ea' : (nd l i').op.author = (nd l i).op.author := by rw [← eo]; exact ea
    exact ⟨i', hbefore j hj i' hi' e ea', by simp [ea'], e.symm⟩
   ·rintro ⟨i', hi', ea, rfl⟩
    obtain ⟨j, hj, e⟩ := hthere i' hi'
    have eo := h.op (by omega) hj e
    exact ⟨j, hj, by rw [eo]; exact ea, e⟩)
  have := hp.length_eq
  simpa using this
 have f6 : seqOk m (nd l i).op = true := by
  have hah := (ahead_all m m.length (nd l i).op.parents (nd l i).op.author).2 hall
  unfold seqOk
  rw [hah, hcnt]
  simp only [decide_true, Bool.and_true, Bool.and_eq_true, Bool.not_eq_true', Bool.and_eq_false_iff, decide_eq_false_iff_not, decide_eq_true_eq]
  refine ⟨?_, hsq⟩
  by_cases hm0 : 0 < m.length
  ·refine .inl fun hk => ?_
   have hi0 := hk1.1 hk
   have t0 := right_turn h.right hm0
   unfold turnB at t0
   simp only [Bool.and_eq_true, beq_iff_eq, decide_eq_decide] at t0
   have hk0 := t0.1.2 trivial
   obtain ⟨i', hi', e, eo⟩ := h.at_ 0 hm0
   have t1 := right_turn h.left hi'
   unfold turnB at t1
   simp only [Bool.and_eq_true, beq_iff_eq, decide_eq_decide] at t1
   have := t1.1.1 (by rw [← eo]; exact hk0)
   subst this hi0
   exact hno 0 hm0 e
  ·exact .inr hm0
 unfold addE
 rw [f1, f2, f3, f5, f6, if_neg (by simp), if_neg (by simp), if_neg (by simp), if_neg (by omega), if_neg (by simp), if_neg (by simp)]
theorem Sub.nil (h : rightG l = true) : Sub l [] := ⟨h, rfl, fun j hj => by simp at hj⟩
theorem Sub.push (h : Sub l m) {i : Nat} (hi : i < l.length) (h0 : addE m (nd l i).id (nd l i).op = 0) : Sub l (m ++ [addD m (nd l i).id (nd l i).op]) := by
 refine ⟨h.left, add_rightG h0, fun j hj => ?_⟩
 rcases Nat.lt_or_ge j m.length with hjl | hjl
 ·rw [nd_push hjl]
  exact h.at_ j hjl
 ·have : j = m.length := by simp at hj; omega
  subst this
  rw [nd_last]
  exact ⟨i, hi, rfl, rfl⟩
theorem Sub.all (h : Sub l m) (he : m.length = l.length) : ∀ i, i < l.length → ∃ j, j < m.length ∧ (nd m j).id = (nd l i).id := fun i hi => by
 refine Classical.byContradiction fun hn => ?_
 have := List.Nodup.length_le_of_subset (l₁ := (nd l i).id :: ((List.range m.length).filter fun _ => true).map fun k => (nd m k).id) (l₂ := ((List.range l.length).filter fun _ => true).map fun k => (nd l k).id) (by
  rw [List.nodup_cons]
  exact ⟨fun hm => hn (by obtain ⟨j, hj, _, e⟩ := mem_ids.1 hm; exact ⟨j, hj, e⟩), ids_nodup h.right m.length (Nat.le_refl _) _⟩) (fun k hk => by
  rcases List.mem_cons.1 hk with rfl | hk
  ·exact mem_ids.2 ⟨i, hi, rfl, rfl⟩
  ·obtain ⟨j, hj, _, rfl⟩ := mem_ids.1 hk
   obtain ⟨i', hi', e, _⟩ := h.at_ j hj
   exact mem_ids.2 ⟨i', hi', rfl, e.symm⟩)
 simp [filtT] at this
 omega
end
end
section
section
variable {l m : List NodeD}
theorem rightG_takeO (h : rightG l = true) (k : Nat) : rightG (l.take k) = true := by
 have hl := rightG_len h
 unfold rightG
 rw [Bool.and_eq_true, decide_eq_true_eq, List.all_eq_true]
 refine ⟨by rw [List.length_take]; omega, fun i hi => ?_⟩
 rw [List.mem_range, List.length_take] at hi
 have hs := step_iff.1 (right_step h (i := i) (by omega))
 have hc : ∀ a, a < i → nd (l.take k) a = nd l a := fun a ha => nd_take (by omega)
 have hi2 : nd (l.take k) i = nd l i := nd_take (by omega)
 refine step_iff.2 ?_
 rw [hi2, find_congr hc, pastL_congr hc, turnB_congr hc]
 obtain ⟨h1, h2, h3, h4, h5⟩ := hs
 refine ⟨?_, h2, h3, h4, h5⟩
 rw [List.all_eq_true] at h1 ⊢
 intro p hp
 rw [find_congr hc]
 exact h1 p hp
theorem Sub.next (h : Sub l m) (hid : ∀ k, k < m.length → (nd m k).id = (nd l k).id) (hlt : m.length < l.length) (h40 : l.length ≤ 90) : addE m (nd l m.length).id (nd l m.length).op = 0 := by
 have hs : Sub (l.take (m.length + 1)) m := ⟨rightG_takeO h.left _, h.right, fun j hj => ⟨j, by rw [List.length_take]; omega, by rw [nd_take (by omega)]; exact hid j hj, by rw [nd_take (by omega)]; exact h.op (by omega) hj (hid j hj)⟩⟩
 obtain ⟨i, hi, h0⟩ := hs.more (by rw [List.length_take]; omega) (by rw [List.length_take]; omega)
 rw [List.length_take] at hi
 rw [nd_take (by omega)] at h0
 rcases Nat.lt_or_ge i m.length with hlt' | hge
 ·exact absurd (hid i hlt') (findN_none (add_facts h0).2.2.1 hlt')
 ·obtain rfl : i = m.length := by omega
  exact h0
def Sm (l m : List NodeD) (i j : Nat) : Prop := i < l.length ∧ j < m.length ∧ (nd m j).id = (nd l i).id
structure Cor (l m : List NodeD) (S T : List Int) : Prop where
 to : ∀ z ∈ S, ∃ i j : Nat, z = i ∧ Sm l m i j ∧ (j : Int) ∈ T
 fro : ∀ z ∈ T, ∃ i j : Nat, z = j ∧ Sm l m i j ∧ (i : Int) ∈ S
theorem Cor.any {S T : List Int} (h : Cor l m S T) (f g : Nat → Bool) (hfg : ∀ i j, Sm l m i j → (i : Int) ∈ S → (j : Int) ∈ T → f i = g j) : (S.any fun a => f a.toNat) = T.any fun a => g a.toNat := by
 rw [Bool.eq_iff_iff, List.any_eq_true, List.any_eq_true]
 constructor
 ·rintro ⟨z, hz, hf⟩
  obtain ⟨i, j, rfl, h1, h2⟩ := h.to z hz
  rw [Int.toNat_natCast] at hf
  exact ⟨j, h2, by rw [Int.toNat_natCast, ← hfg i j h1 hz h2]; exact hf⟩
 ·rintro ⟨z, hz, hf⟩
  obtain ⟨i, j, rfl, h1, h2⟩ := h.fro z hz
  rw [Int.toNat_natCast] at hf
  exact ⟨i, h2, by rw [Int.toNat_natCast, hfg i j h1 h2 hz]; exact hf⟩
theorem Cor.ros {S T : List Int} (h : Cor l m S T) (hs : Sub l m) {c d : List Bool} (hc : ∀ i j, Sm l m i j → (i : Int) ∈ S → c.getD i false = d.getD j false) (w : Int) : rosB l c S w = rosB m d T w := by
 have hrem : ∀ i j, Sm l m i j → (i : Int) ∈ S → ∀ v, remB l c i v = remB m d j v := fun i j e hi v => by
  unfold remB
  rw [hc i j e hi, hs.op e.1 e.2.1 e.2.2]
 have hah : ∀ a a' b b', Sm l m a a' → Sm l m b b' → ahB l a b = ahB m a' b' := fun a a' b b' ea eb => by
  unfold ahB
  rw [Bool.eq_iff_iff, decide_eq_true_eq, decide_eq_true_eq]
  exact (hs.past b' eb.2.1 b a' a eb.1 eb.2.2 ea.2.1 ea.1 ea.2.2).symm
 have hbes : ∀ a a', Sm l m a a' → besB l c S a = besB m d T a' := fun a a' ea => by
  unfold besB
  refine h.any (fun r => remB l c r (nd l a).op.author && (!ahB l r a && !ahB l a r)) (fun r => remB m d r (nd m a').op.author && (!ahB m r a' && !ahB m a' r)) fun i j e hi hj => ?_
  show (remB l c i (nd l a).op.author && (!ahB l i a && !ahB l a i)) = (remB m d j (nd m a').op.author && (!ahB m j a' && !ahB m a' j))
  rw [hrem i j e hi, hah i j a a' e ea, hah a a' i j ea e, hs.op ea.1 ea.2.1 ea.2.2]
 unfold rosB
 refine h.any (fun a => admB l c S a w && !(S.any fun r => remB l c r.toNat w && !ahB l r.toNat a)) (fun a => admB m d T a w && !(T.any fun r => remB m d r.toNat w && !ahB m r.toNat a)) fun a a' ea ha ha' => ?_
 show (admB l c S a w && !(S.any fun r => remB l c r.toNat w && !ahB l r.toNat a)) = (admB m d T a' w && !(T.any fun r => remB m d r.toNat w && !ahB m r.toNat a'))
 have h1 : (S.any fun r => remB l c r.toNat w && !ahB l r.toNat a) = T.any fun r => remB m d r.toNat w && !ahB m r.toNat a' := by
  refine h.any (fun r => remB l c r w && !ahB l r a) (fun r => remB m d r w && !ahB m r a') fun i j e hi hj => ?_
  show (remB l c i w && !ahB l i a) = (remB m d j w && !ahB m j a')
  rw [hrem i j e hi, hah i j a a' e ea]
 rw [h1]
 unfold admB
 rw [hc a a' ea ha, hbes a a' ea, hs.op ea.1 ea.2.1 ea.2.2]
theorem Sub.corPast (hs : Sub l m) {i j : Nat} (e : Sm l m i j) : Cor l m (nd l i).past (nd m j).past := by
 refine ⟨fun z hz => ?_, fun z hz => ?_⟩
 ·obtain ⟨k, rfl, hk⟩ := past_bd hs.left e.1 hz
  obtain ⟨j', hj', e'⟩ := hs.closed j e.2.1 i k e.1 e.2.2 hz
  exact ⟨k, j', rfl, ⟨by have := e.1; omega, hj', e'⟩, (hs.past j e.2.1 i j' k e.1 e.2.2 hj' (by have := e.1; omega) e').2 hz⟩
 ·obtain ⟨k, rfl, hk⟩ := past_bd hs.right e.2.1 hz
  have hkm : k < m.length := by have := e.2.1; omega
  obtain ⟨i', hi', e', _⟩ := hs.at_ k hkm
  exact ⟨i', k, rfl, ⟨hi', hkm, e'⟩, (hs.past j e.2.1 i k i' e.1 e.2.2 hkm hi' e').1 hz⟩
theorem Sub.cnts (hs : Sub l m) : ∀ i j, Sm l m i j → (cntsB l).getD i false = (cntsB m).getD j false := by
 intro i
 induction i using Nat.strongRecOn with
 | ind i ih =>
  intro j e
  rw [cnts_at hs.left e.1, cnts_at hs.right e.2.1, hs.op e.1 e.2.1 e.2.2, (hs.corPast e).ros hs (c := cntsB l) (d := cntsB m) (fun a b eab ha => by
   obtain ⟨k, ek, hk⟩ := past_bd hs.left e.1 ha
   exact ih a (by omega) b eab)]
theorem Sub.allR (hs : Sub l m) (he : m.length = l.length) : allR l = allR m := by
 unfold Go.Proofs.Ytdeccbjdhcifiaa.allR
 rw [hs.left, hs.right, if_pos rfl, if_pos rfl]
 congr 1
 funext w
 refine Cor.ros ⟨fun z hz => ?_, fun z hz => ?_⟩ hs (fun i j e _ => hs.cnts i j e) w
 ·obtain ⟨h1, h2⟩ := mem_rgZ.1 hz
  obtain ⟨j, hj, e⟩ := hs.all he z.toNat (by omega)
  exact ⟨z.toNat, j, by omega, ⟨by omega, hj, e⟩, mem_rgZ.2 (by omega)⟩
 ·obtain ⟨h1, h2⟩ := mem_rgZ.1 hz
  obtain ⟨i, hi, e, _⟩ := hs.at_ z.toNat (by omega)
  exact ⟨i, z.toNat, by omega, ⟨hi, by omega, e⟩, mem_rgZ.2 (by omega)⟩
theorem ros_drop {c : List Bool} {S : List Int} {a : Nat} (hk : 4 ≤ (nd l a).op.kind) (w : Int) : rosB l c (S ++ [(a : Int)]) w = rosB l c S w := by
 have hrem : ∀ v, remB l c a v = false := fun v => by
  unfold remB
  rw [decide_eq_false (by omega), Bool.false_and]
 have hbes : ∀ b, besB l c (S ++ [(a : Int)]) b = besB l c S b := fun b => by
  unfold besB
  rw [List.any_append]
  simp [hrem]
 have hadm : ∀ b v, admB l c (S ++ [(a : Int)]) b v = admB l c S b v := fun b v => by
  unfold admB
  rw [hbes]
 have hno : ∀ T v, admB l c T a v = false := fun T v => by
  unfold admB
  rw [decide_eq_false (show ¬ (nd l a).op.kind = 1 by omega), decide_eq_false (show ¬ (nd l a).op.kind = 2 by omega)]
  simp
 unfold rosB
 rw [List.any_append]
 simp [hrem, hadm, hno]
theorem still {x : NodeD} (h : rightG (m ++ [x]) = true) (hm : rightG m = true) (hk : 4 ≤ x.op.kind) : allR (m ++ [x]) = allR m := by
 have hs : Sub (m ++ [x]) m := ⟨h, hm, fun j hj => ⟨j, by simp; omega, by rw [nd_push hj], by rw [nd_push hj]⟩⟩
 unfold allR
 rw [h, hm, if_pos rfl, if_pos rfl]
 congr 1
 funext w
 rw [List.length_append, List.length_singleton, rgZ_succ, ros_drop (by rw [nd_last]; exact hk)]
 refine Cor.ros ⟨fun z hz => ?_, fun z hz => ?_⟩ hs (fun i j e _ => hs.cnts i j e) w
 ·obtain ⟨h1, h2⟩ := mem_rgZ.1 hz
  exact ⟨z.toNat, z.toNat, by omega, ⟨by simp; omega, by omega, by rw [nd_push (by omega)]⟩, mem_rgZ.2 (by omega)⟩
 ·obtain ⟨h1, h2⟩ := mem_rgZ.1 hz
  exact ⟨z.toNat, z.toNat, by omega, ⟨by simp; omega, by omega, by rw [nd_push (by omega)]⟩, mem_rgZ.2 (by omega)⟩
end
end
section
structure Took (n : Nat) (H : AH) (l : List NodeD) (G : AH) (mv : Value) (m : List NodeD) : Prop where
 low : Low n H G
 nda : NdA G mv m
 sub : Sub l m
theorem Took.keep {n : Nat} {H G K : AH} {l m : List NodeD} {mv : Value} (h : Took n H l G mv m) (hk : Low G.length G K) : Took n H l K mv m :=
 ⟨⟨fun j hj => (hk.1 j (by have := h.low.2; omega)).trans (h.low.1 j hj), by have := h.low.2; have := hk.2; omega⟩, h.nda.lowG hk, h.sub⟩
end
section
structure HeldD where
 id : List Int
 op : OpD
 got : List (List Int)
def HeldD.row (x : HeldD) : List CD := kd x.id ++ (x.op.row ++ [.sl (x.got.map kd)])
structure HeldD.Wf (x : HeldD) : Prop where
 id : Key32 x.id
 op : x.op.Wf
 got : ∀ k ∈ x.got, Key32 k
 glen : x.got.length ≤ maxLen
def HdV (H : AH) (v : Value) (l : List HeldD) : Prop := CD.Val H (.sl (l.map HeldD.row)) v
structure HdC (H : AH) (us : List Value) (x : HeldD) (pv wv bv qv : Value) : Prop where
 len : us.length = 104
 id : us.take 32 = iv .u8 x.id
 op : OpC H ((us.drop 32).take 71) x.op pv wv bv
 c103 : us[103]? = some qv
 got : KsV H qv x.got
theorem held_c {H : AH} {x : HeldD} (hw : x.Wf) {us : List Value} (h : ValL H x.row us) : ∃ pv wv bv qv, HdC H us x pv wv bv qv := by
 obtain ⟨a, r, rfl, h1, h2⟩ := ValL.split h
 have hk := h1.key
 obtain ⟨c, r2, rfl, h3, h4⟩ := ValL.split h2
 obtain ⟨pv, wv, bv, hc⟩ := op_c hw.op h3
 obtain ⟨qv, r5, rfl, vq, h8⟩ := h4.cons
 obtain rfl := h8.nil
 have hl : (iv .u8 x.id).length = 32 := by rw [iv_length]; exact hw.id.1
 rw [hk]
 have hcl := hc.len
 refine ⟨pv, wv, bv, qv, ⟨by simp [hl, hcl], ?_, ?_, ?_, vq⟩⟩
 ·rw [List.take_append_of_le_length (by omega), List.take_of_length_le (by omega)]
 ·have : ((iv .u8 x.id ++ (c ++ [qv])).drop 32).take 71 = c := by
   rw [List.drop_append_of_le_length (by omega), List.drop_of_length_le (by omega), List.nil_append, List.take_append_of_le_length (by omega), List.take_of_length_le (by omega)]
  rw [this]
  exact hc
 ·rw [List.getElem?_append_right (by omega), List.getElem?_append_right (by omega), hl, hcl]
  rfl
def HeldD.no : HeldD := ⟨[], NodeD.no.op, []⟩
def hn (l : List HeldD) (i : Nat) : HeldD := l.getD i HeldD.no
theorem hn_get {l : List HeldD} {i : Nat} (h : i < l.length) : l[i]? = some (hn l i) := by
 unfold hn
 rw [List.getD_eq_getElem?_getD, List.getElem?_eq_getElem h]; rfl
theorem hn_eq {l : List HeldD} {i : Nat} {x : HeldD} (h : l[i]? = some x) : hn l i = x := by
 unfold hn
 rw [List.getD_eq_getElem?_getD, h]; rfl
def findH (l : List HeldD) (i : Nat) (k : List Int) : Option Nat := (List.range i).find? fun a => (hn l a).id == k
structure HdA (H : AH) (v : Value) (l : List HeldD) : Prop where
 nt : notTuple v = true
 cs : v.cells = #[v]
 len : xlen Try.prog 58 v = some (.int .i64 l.length)
 wf : ∀ x ∈ l, x.Wf
 at_ : ∀ i x, l[i]? = some x → ∃ j q b us pv wv bv qv, xindexAddr Try.prog 58 v (.int .i64 (i : Nat)) = some (.pointer (some ⟨j, q, none⟩)) ∧ hget H j = some b ∧ q + 104 ≤ b.cells.length ∧ (∀ c, c < 104 → b.cells[q + c]? = us[c]?) ∧ us = (b.cells.drop q).take 104 ∧ HdC H us x pv wv bv qv
theorem HdC.low {H H' : AH} {us : List Value} {x : HeldD} {pv wv bv qv : Value} (h : HdC H us x pv wv bv qv) (hl : ∀ j, j < H.length → hget H' j = hget H j) : HdC H' us x pv wv bv qv := by
 exact ⟨h.len, h.id, h.op.low hl, h.c103, h.got.low hl⟩
theorem HdA.lowG {H G : AH} {nv : Value} {l : List HeldD} (hN : HdA H nv l) (hlow : Low H.length H G) : HdA G nv l := ⟨hN.nt, hN.cs, hN.len, hN.wf, fun i x hx => by
 obtain ⟨j, q, bb, us, pv, wv', bv, qv, h1, h2, h3, h4, h5, h6⟩ := hN.at_ i x hx
 exact ⟨j, q, bb, us, pv, wv', bv, qv, h1, (hlow.1 j (hget_lt h2)).trans h2, h3, h4, h5, h6.low hlow.1⟩⟩
attribute [local simp] wb_bool wb_undef with_lit XL_nil XL_cons XLc_val XLc_call step1_eq stepW_t stepW_f stepC_n stepC_s stepX_s stepX_n stepN_s calleeX xrecv oneV xop_eq xopR_s xopR_n wantedA_eq wantedG_n wantedG_s plain1_int plain1_bool plain1_string bits_i64 bits_u64 bits_u32 bits_u16 bits_u8 xeqA xagg xcmp xarr allK_iv num_iv calleeOf xread xeff xbin xint xnil xun xstr xload xconv xpart xfield xfieldAddr xindexAddr xindex bnd asInt? xslice xlen xmin xmax xbuild xfill xappend xapp2 xappstr xappmk xcap xcopy xcells eval_tmp eval_const put_at put_none fr0_at cells_agg cells_int cells_bool cells_string cells_ptr cells_slice notTuple tab iv_all hget_app hget_app0 hget_cons0 hget_cons set_app set_app0 setR setR_one QL_nil QL_cons QLc_val stepQ_t stepQ_f stepQC_n stepQC_s stepQX_s SL_nil SL_cons SLc_val stepS_t stepS_f ltT ltF leT leF eqT eqF ltTn ltFn leTn leFn eqTn eqFn beqT beqF bneT bneF wi64 wu64 wu32 wu16 wu8 tmodP tdivP hgetL hgetNe hgetEq setL nums_def nums_len Nat.succ_le_of_lt List.getElem?_cons_zero List.getElem?_cons_succ Option.getD_some Int.toNat_add Int.toNat_mul agM okM agB agI agS agP agL agA okB okI okS okP okSl okA
theorem HdV.hda {H : AH} {v : Value} {l : List HeldD} (h : HdV H v l) (hl : ∀ x ∈ l, x.Wf) : HdA H v l := by
 refine ⟨(val_nt h).1, (val_nt h).2, ?_, hl, fun i z hz => ?_⟩
 ·have := val_len (P := Try.prog) (t := 58) (e := 60) h (by simp)
  rw [List.length_map] at this
  exact this
 have hzw := hl z (List.mem_of_getElem? hz)
 obtain ⟨j, b, us, hv, hb, hle, hx, hus, hul, hle2, hc, hval⟩ := val_at (P := Try.prog) (t := 58) (e := 60) (sz := 104) h (by simp) (by simp) (by omega) (fun row hr => by
  obtain ⟨y, hy, rfl⟩ := List.mem_map.1 hr
  have h1 := (hl y hy).id.1
  have h2 := (hl y hy).op.of.1
  have h3 := (hl y hy).op.check.1
  simp [HeldD.row, OpD.row, kd, h1, h2, h3]) (i := i) (row := z.row) (by rw [List.getElem?_map, hz]; rfl)
 obtain ⟨pv, wv, bv, qv, hcc⟩ := held_c hzw hval
 exact ⟨j, i * 104, b, us, pv, wv, bv, qv, hx, hb, hle2, hc, hus, hcc⟩
end
section
attribute [local simp] wb_bool wb_undef with_lit XL_nil XL_cons XLc_val XLc_call step1_eq stepW_t stepW_f stepC_n stepC_s stepX_s stepX_n stepN_s calleeX xrecv oneV xop_eq xopR_s xopR_n wantedA_eq wantedG_n wantedG_s plain1_int plain1_bool plain1_string bits_i64 bits_u64 bits_u32 bits_u16 bits_u8 xeqA xagg xcmp xarr allK_iv num_iv calleeOf xread xeff xbin xint xnil xun xstr xload xconv xpart xfield xfieldAddr xindexAddr xindex bnd asInt? xslice xlen xmin xmax xbuild xfill xappend xapp2 xappstr xappmk xcap xcopy xcells eval_tmp eval_const put_at put_none fr0_at cells_agg cells_int cells_bool cells_string cells_ptr cells_slice notTuple tab iv_all hget_app hget_app0 hget_cons0 hget_cons set_app set_app0 setR setR_one QL_nil QL_cons QLc_val stepQ_t stepQ_f stepQC_n stepQC_s stepQX_s SL_nil SL_cons SLc_val stepS_t stepS_f ltT ltF leT leF eqT eqF ltTn ltFn leTn leFn eqTn eqFn beqT beqF bneT bneF wi64 wu64 wu32 wu16 wu8 tmodP tdivP hgetL hgetNe hgetEq setL nums_def nums_len Nat.succ_le_of_lt List.getElem?_cons_zero List.getElem?_cons_succ Option.getD_some Int.toNat_add Int.toNat_mul agM okM agB agI agS agP agL agA okB okI okS okP okSl okA
theorem qfind1_rc {nro : Nat} {γ : Nat → Option Nat} {G : AH} {us : List Value} {x : HeldD} {id : List Int} {g : Nat} (hul : us.length = 104) (hid : us.take 32 = iv .u8 x.id) (hxl : x.id.length = 32) (hil : id.length = 32) (hg : hget G g = some ⟨iv .u8 id, 38, none⟩) :
  AC Try.prog nro γ 89 #[.agg us.toArray, .pointer (some ⟨g, 0, none⟩)] G (fun v' H' => Low G.length G H' ∧ v' = .bool (decide (x.id = id))) := by
 have hgl := hget_lt hg
 have hivl : (iv .u8 id).length = 32 := by rw [iv_length, hil]
 have hta : (iv .u8 id).take 32 = iv .u8 id := List.take_of_length_le (by omega)
 have hivx : (iv .u8 x.id).length = 32 := by rw [iv_length, hxl]
 refine ac_of_aw Try.func89 rfl Try.ntmps89 Try.results89 (by simp) ?_
 refine aw_seq ?_
 (refine aw_ops (by kernel_rfl) (fun K hK => ?_); simp (disch := first | omega | (simp only [lnS]; try omega)) [-getElem?_pos, -getElem?_neg, hul]; refine hK _ _ ?_; clear hK K)
 obtain ⟨hlow2, hb2⟩ := boxed (H := G) us 60
 obtain ⟨b, hb⟩ : ∃ b, b = G.length := ⟨_, rfl⟩
 have hg2 := hget_left' (L := [some ⟨us, 60, none⟩]) hg
 rw [← hb] at hb2 ⊢
 generalize G ++ [some ⟨us, 60, none⟩] = G2 at *
 refine aw_seq ?_
 (refine aw_ops (by kernel_rfl) (fun K hK => ?_); simp (disch := first | omega | (simp only [lnS]; try omega)) [-getElem?_pos, -getElem?_neg, hb2, hul, hid, hivx, hg2, hta, hivl, nt_aggG]; refine hK _ _ ?_; clear hK K)
 have hd : decide (x.id = id) = (x.id == id) := by rw [Bool.eq_iff_iff]; simp
 rw [hd]
 (refine aw_ret ?_; simp (disch := first | omega | (simp only [lnS]; try omega)) [-getElem?_pos, -getElem?_neg, thenQ_ret, scopeQ_ret, inBlockQ_ret, RQ, resL, resV])
 all_goals (subst hb; exact hlow2)
theorem qfind1_callable : callable Try.prog 89 = true := by kernel_rfl
theorem indexHn_rc {γ : Nat → Option Nat} {H : AH} {nv : Value} {l : List HeldD} (hN : HdA H nv l) (hl : l.length ≤ maxLen) {f : Nat} {cs : Array Value} {p : Nat → Bool} (hcal : callable Try.prog f = true)
  (hf : ∀ (G : AH) (i : Nat) (us : List Value) (pv wv bv qv : Value), Low H.length H G → i < l.length → us.length = 104 → HdC H us (hn l i) pv wv bv qv → AC Try.prog G.length γ f (#[.agg us.toArray] ++ cs) G (fun v' _ => v' = .bool (p i))) :
  AC Try.prog H.length γ 88 #[nv, .func (.func f) #[] cs] H (fun v' _ => v' = .int .i64 (firstI l.length p)) := by
 obtain ⟨hnt, hvc, hxl, hwf, hat⟩ := hN
 have hm63 : l.length ≤ 9223372036854775807 := by simp only [maxLen] at hl; omega
 have hfn : notTuple (.func (.func f) #[] cs) = true := rfl
 have hfc : (Value.func (.func f) #[] cs).cells = #[.func (.func f) #[] cs] := rfl
 refine ac_of_aw Try.func88 rfl Try.ntmps88 Try.results88 (by simp) ?_
 refine aw_seq ?_
 (refine aw_ops (by kernel_rfl) (fun K hK => ?_); simp (disch := first | omega | (simp only [lnS]; try omega)) [-getElem?_pos, -getElem?_neg]; refine hK _ _ ?_; clear hK K)
 refine aw_seq ?_
 refine aw_seq ?_
 (refine aw_ops (by kernel_rfl) (fun K hK => ?_); simp (disch := first | omega | (simp only [lnS]; try omega)) [-getElem?_pos, -getElem?_neg, -notTuple, hnt, hvc, nt_intG, -xlen, hxl]; refine hK _ _ ?_; clear hK K)
 refine aw_block ?_
 refine aw_loop (fun c α G => ∃ i : Nat, i + c = l.length ∧ Low H.length H G ∧ α 0 = nv ∧ α 1 = .func (.func f) #[] cs ∧ α 7 = .int .i64 (l.length : Nat) ∧ α 8 = .int .i64 (i : Nat) ∧ ∀ k, k < i → p k = false) l.length ?_ ?_
 ·exact ⟨0, by omega, Low.refl (Nat.le_refl _), by (first | (simp [put_at, put_none, fr0_at]; done) | rfl), by (first | (simp [put_at, put_none, fr0_at]; done) | rfl), by (first | (simp [put_at, put_none, fr0_at]; done) | rfl), by (first | (simp [put_at, put_none, fr0_at]; done) | rfl), fun k hk => by omega⟩
 rintro c α G ⟨i, hic, hlow, h0, h1, h7, h8, hpre⟩
 refine aw_seq ?_
 by_cases hi : i < l.length
 case neg =>
  (refine aw_ops (by kernel_rfl) (fun K hK => ?_); simp (disch := first | omega | (simp only [lnS]; try omega)) [-getElem?_pos, -getElem?_neg, h7, h8, hi]; refine hK _ _ ?_; clear hK K)
  refine aw_seq ?_
  refine aw_f (by (first | (simp [eval_tmp, put_at, hi]; done) | (simp [eval_tmp, put_at, hi]; omega))) (by kernel_rfl) ?_
  refine aw_exit ?_
  refine aw_seq ?_
  (refine aw_ops (by kernel_rfl) (fun K hK => ?_); simp (disch := first | omega | (simp only [lnS]; try omega)) [-getElem?_pos, -getElem?_neg]; refine hK _ _ ?_; clear hK K)
  (refine aw_ret ?_; simp (disch := first | omega | (simp only [lnS]; try omega)) [-getElem?_pos, -getElem?_neg, thenQ_ret, scopeQ_ret, inBlockQ_ret, RQ, resL, resV])
  exact (firstI_none (fun k hk => hpre k (by omega))).symm
 obtain ⟨j, q, bb, us, pv, wv', bv, qv, hx, hbb, hq, hcell, hus, hC⟩ := hat i _ (hn_get hi)
 have hbG : hget G j = some bb := (hlow.1 j (hget_lt hbb)).trans hbb
 have hul := hC.len
 have hus' := hus.symm
 clear hus
 have hc := hf G i us pv wv' bv qv hlow hi hul hC
 (refine aw_ops (by kernel_rfl) (fun K hK => ?_); simp (disch := first | omega | (simp only [lnS]; try omega)) [-getElem?_pos, -getElem?_neg, h7, h8, hi]; refine hK _ _ ?_; clear hK K)
 refine aw_seq ?_
 refine aw_t (by (first | (simp [eval_tmp, put_at, hi]; done) | (simp [eval_tmp, put_at, hi]; omega))) (by kernel_rfl) ?_
 refine aw_skip ?_
 refine aw_seq ?_
 refine aw_block ?_
 refine aw_seq ?_
 (refine aw_ops (by kernel_rfl) (fun K hK => ?_); simp (disch := first | omega | (simp only [lnS]; try omega)) [-getElem?_pos, -getElem?_neg, h8]; refine hK _ _ ?_; clear hK K)
 refine aw_seq ?_
 refine aw_ops (by kernel_rfl) (fun K hK => ?_)
 simp (disch := first | omega | (simp only [lnS]; try omega)) [-getElem?_pos, -getElem?_neg, h0, h1, -notTuple, hnt, hvc, hfn, hfc, nt_intG, nt_aggG, -xindexAddr, hx, hbG, hus', hul, hq]
 refine ⟨hcal, ac_of_rc hc (by simp [pv_iv, pv_int, pv_bool, pv_string, pv_tup2, pv_tup3, iv_plain, p2_int, p2_bool, p2_string]) ?_⟩
 cases hp : p i with
 | true =>
  try simp (disch := first | omega | (simp only [lnS]; try omega)) [-getElem?_pos, -getElem?_neg]
  refine hK _ _ ?_; clear hK K
  refine aw_t (by (first | (simp [eval_tmp, put_at]; done) | (simp [eval_tmp, put_at]; omega))) (by kernel_rfl) ?_
  refine aw_seq ?_
  (refine aw_ops (by kernel_rfl) (fun K hK => ?_); simp (disch := first | omega | (simp only [lnS]; try omega)) [-getElem?_pos, -getElem?_neg]; refine hK _ _ ?_; clear hK K)
  (refine aw_ret ?_; simp (disch := first | omega | (simp only [lnS]; try omega)) [-getElem?_pos, -getElem?_neg, thenQ_ret, scopeQ_ret, inBlockQ_ret, RQ, resL, resV])
  exact (firstI_some hi hpre hp).symm
 | false =>
  try simp (disch := first | omega | (simp only [lnS]; try omega)) [-getElem?_pos, -getElem?_neg]
  refine hK _ _ ?_; clear hK K
  refine aw_f (by (first | (simp [eval_tmp, put_at]; done) | (simp [eval_tmp, put_at]; omega))) (by kernel_rfl) ?_
  refine aw_skip ?_
  (refine aw_ops (by kernel_rfl) (fun K hK => ?_); simp (disch := first | omega | (simp only [lnS]; try omega)) [-getElem?_pos, -getElem?_neg, h8]; refine hK _ _ ?_; clear hK K)
  refine ⟨c - 1, by omega, i + 1, by omega, hlow, by (first | (simp [put_at, put_none, fr0_at, h0]; done) | rfl), by (first | (simp [put_at, put_none, fr0_at, h1]; done) | rfl), by (first | (simp [put_at, put_none, fr0_at, h7]; done) | rfl), by (first | (simp [put_at, put_none, fr0_at]; done) | rfl), fun k hk => ?_⟩
  by_cases e : k = i
  ·subst e; exact hp
  ·exact hpre k (by omega)
def findIH (l : List HeldD) (n : Nat) (id : List Int) : Int := match findH l n id with | some a => (a : Nat) | none => -1
theorem findIH_first (l : List HeldD) (n : Nat) (id : List Int) : findIH l n id = firstI n fun a => decide ((hn l a).id = id) := by
 have : (fun a => decide ((hn l a).id = id)) = fun a => (hn l a).id == id := by
  funext a
  rw [Bool.eq_iff_iff]; simp
 rw [this]
 rfl
theorem qfind_rc {γ : Nat → Option Nat} {H : AH} {nv : Value} {l : List HeldD} (hN : HdA H nv l) (hl : l.length ≤ maxLen) {id : List Int} (hil : id.length = 32) : AC Try.prog H.length γ 43 #[nv, .agg (iv .u8 id).toArray] H (fun v' _ => v' = .int .i64 (findIH l l.length id)) := by
 have hnt := hN.nt
 have hvc := hN.cs
 have hivl : (iv .u8 id).length = 32 := by rw [iv_length, hil]
 refine ac_of_aw Try.func43 rfl Try.ntmps43 Try.results43 (by simp) ?_
 refine aw_seq ?_
 (refine aw_ops (by kernel_rfl) (fun K hK => ?_); simp (disch := first | omega | (simp only [lnS]; try omega)) [-getElem?_pos, -getElem?_neg, hivl]; refine hK _ _ ?_; clear hK K)
 obtain ⟨hlow2, hb2⟩ := boxed (H := H) (iv .u8 id) 38
 generalize H ++ [some ⟨iv .u8 id, 38, none⟩] = G at *
 have hNG : HdA G nv l := ⟨hN.nt, hN.cs, hN.len, hN.wf, fun i x hx => by
  obtain ⟨j, q, bb, us, pv, wv', bv, qv, h1, h2, h3, h4, h5, h6⟩ := hN.at_ i x hx
  exact ⟨j, q, bb, us, pv, wv', bv, qv, h1, (hlow2.1 j (hget_lt h2)).trans h2, h3, h4, h5, h6.low hlow2.1⟩⟩
 have hix := indexHn_rc (γ := γ) hNG hl (f := 89) (cs := #[.pointer (some ⟨H.length, 0, none⟩)]) (p := fun a => decide ((hn l a).id = id)) qfind1_callable (fun G2 i us pv wv' bv qv hg hi hul hC => (qfind1_rc (nro := G2.length) (γ := γ) hul hC.id (hN.wf _ (List.mem_of_getElem? (hn_get hi))).id.1 hil ((hg.1 _ (hget_lt hb2)).trans hb2)).mono (fun v' H' h => h.2))
 rw [← findIH_first] at hix
 refine aw_seq ?_
 refine aw_ops (by kernel_rfl) (fun K hK => ?_)
 simp (disch := first | omega | (simp only [lnS]; try omega)) [-getElem?_pos, -getElem?_neg, -notTuple, hnt, hvc, nt_intG]
 refine ⟨by kernel_rfl, ac_of_rc hix (by simp [pv_iv, pv_int, pv_bool, pv_string, pv_tup2, pv_tup3, iv_plain, p2_int, p2_bool, p2_string]) ?_⟩
 try simp (disch := first | omega | (simp only [lnS]; try omega)) [-getElem?_pos, -getElem?_neg]
 refine hK _ _ ?_; clear hK K
 (refine aw_ret ?_; simp (disch := first | omega | (simp only [lnS]; try omega)) [-getElem?_pos, -getElem?_neg, thenQ_ret, scopeQ_ret, inBlockQ_ret, RQ, resL, resV])
end
section
def oneQ (q : List HeldD) (i : Nat) : Bool := decide (findIH q q.length (hn q i).id = (i : Int)) && rightO (hn q i).op
def rightQ (q : List HeldD) : Bool := decide (q.length ≤ 24) && (List.range q.length).all (oneQ q)
theorem all_snoc {p : Nat → Bool} {i : Nat} (h : (List.range i).all p = true) : (List.range (i + 1)).all p = p i := by
 rw [List.range_succ, List.all_append, h]
 simp
theorem all_bad {p : Nat → Bool} {i n : Nat} (hi : i < n) (h : p i = false) : (List.range n).all p = false := by
 rw [List.all_eq_false]
 exact ⟨i, List.mem_range.2 hi, by rw [h]; simp⟩
attribute [local simp] wb_bool wb_undef with_lit XL_nil XL_cons XLc_val XLc_call step1_eq stepW_t stepW_f stepC_n stepC_s stepX_s stepX_n stepN_s calleeX xrecv oneV xop_eq xopR_s xopR_n wantedA_eq wantedG_n wantedG_s plain1_int plain1_bool plain1_string bits_i64 bits_u64 bits_u32 bits_u16 bits_u8 xeqA xagg xcmp xarr allK_iv num_iv calleeOf xread xeff xbin xint xnil xun xstr xload xconv xpart xfield xfieldAddr xindexAddr xindex bnd asInt? xslice xlen xmin xmax xbuild xfill xappend xapp2 xappstr xappmk xcap xcopy xcells eval_tmp eval_const put_at put_none fr0_at cells_agg cells_int cells_bool cells_string cells_ptr cells_slice notTuple tab iv_all hget_app hget_app0 hget_cons0 hget_cons set_app set_app0 setR setR_one QL_nil QL_cons QLc_val stepQ_t stepQ_f stepQC_n stepQC_s stepQX_s SL_nil SL_cons SLc_val stepS_t stepS_f ltT ltF leT leF eqT eqF ltTn ltFn leTn leFn eqTn eqFn beqT beqF bneT bneF wi64 wu64 wu32 wu16 wu8 tmodP tdivP hgetL hgetNe hgetEq setL nums_def nums_len Nat.succ_le_of_lt List.getElem?_cons_zero List.getElem?_cons_succ Option.getD_some Int.toNat_add Int.toNat_mul agM okM agB agI agS agP agL agA okB okI okS okP okSl okA
theorem qRight_rc {γ : Nat → Option Nat} {H : AH} {qv : Value} {l : List HeldD} (hN : HdA H qv l) (hl : l.length ≤ maxLen) : AC Try.prog H.length γ 41 #[qv] H (fun v' _ => v' = .bool (rightQ l)) := by
 have hN' := hN
 obtain ⟨hnt, hvc, hxl, hwf, hat⟩ := hN
 have hd : rightQ l = (decide (l.length ≤ 24) && (List.range l.length).all (oneQ l)) := rfl
 rw [hd]
 refine ac_of_aw Try.func41 rfl Try.ntmps41 Try.results41 (by simp) ?_
 refine aw_seq ?_
 (refine aw_ops (by kernel_rfl) (fun K hK => ?_); simp (disch := first | omega | (simp only [lnS]; try omega)) [-getElem?_pos, -getElem?_neg]; refine hK _ _ ?_; clear hK K)
 refine aw_seq ?_
 refine aw_seq ?_
 by_cases h24 : l.length ≤ 24
 case neg =>
  (refine aw_ops (by kernel_rfl) (fun K hK => ?_); simp (disch := first | omega | (simp only [lnS]; try omega)) [-getElem?_pos, -getElem?_neg, -notTuple, hnt, hvc, nt_intG, -xlen, hxl, h24]; refine hK _ _ ?_; clear hK K)
  refine aw_t (by (first | (simp [eval_tmp, put_at, h24]; done) | (simp [eval_tmp, put_at, h24]; omega))) (by kernel_rfl) ?_
  refine aw_seq ?_
  (refine aw_ops (by kernel_rfl) (fun K hK => ?_); simp (disch := first | omega | (simp only [lnS]; try omega)) [-getElem?_pos, -getElem?_neg]; refine hK _ _ ?_; clear hK K)
  (refine aw_ret ?_; simp (disch := first | omega | (simp only [lnS]; try omega)) [-getElem?_pos, -getElem?_neg, thenQ_ret, scopeQ_ret, inBlockQ_ret, RQ, resL, resV, h24])
 (refine aw_ops (by kernel_rfl) (fun K hK => ?_); simp (disch := first | omega | (simp only [lnS]; try omega)) [-getElem?_pos, -getElem?_neg, -notTuple, hnt, hvc, nt_intG, -xlen, hxl, h24]; refine hK _ _ ?_; clear hK K)
 refine aw_f (by (first | (simp [eval_tmp, put_at, h24]; done) | (simp [eval_tmp, put_at, h24]; omega))) (by kernel_rfl) ?_
 refine aw_skip ?_
 rw [decide_eq_true h24, Bool.true_and]
 refine aw_seq ?_
 refine aw_seq ?_
 (refine aw_ops (by kernel_rfl) (fun K hK => ?_); simp (disch := first | omega | (simp only [lnS]; try omega)) [-getElem?_pos, -getElem?_neg, -notTuple, hnt, hvc, nt_intG, -xlen, hxl]; refine hK _ _ ?_; clear hK K)
 refine aw_block ?_
 refine aw_loop (fun c α G => ∃ i : Nat, i + c = l.length ∧ Low H.length H G ∧ α 0 = qv ∧ α 8 = qv ∧ α 9 = .int .i64 (l.length : Nat) ∧ α 10 = .int .i64 (i : Nat) ∧ (List.range i).all (oneQ l) = true) l.length ?_ ?_
 ·exact ⟨0, by omega, Low.refl (Nat.le_refl _), by (first | (simp [put_at, put_none, fr0_at]; done) | rfl), by (first | (simp [put_at, put_none, fr0_at]; done) | rfl), by (first | (simp [put_at, put_none, fr0_at]; done) | rfl), by (first | (simp [put_at, put_none, fr0_at]; done) | rfl), rfl⟩
 rintro c α G ⟨i, hic, lw, q0, q8, q9, q10, hpre⟩
 refine aw_seq ?_
 by_cases hi : i < l.length
 case neg =>
  obtain rfl : i = l.length := by omega
  (refine aw_ops (by kernel_rfl) (fun K hK => ?_); simp (disch := first | omega | (simp only [lnS]; try omega)) [-getElem?_pos, -getElem?_neg, q9, q10]; refine hK _ _ ?_; clear hK K)
  refine aw_seq ?_
  refine aw_f (by (first | (simp [eval_tmp, put_at]; done) | (simp [eval_tmp, put_at]; omega))) (by kernel_rfl) ?_
  refine aw_exit ?_
  refine aw_seq ?_
  (refine aw_ops (by kernel_rfl) (fun K hK => ?_); simp (disch := first | omega | (simp only [lnS]; try omega)) [-getElem?_pos, -getElem?_neg]; refine hK _ _ ?_; clear hK K)
  (refine aw_ret ?_; simp (disch := first | omega | (simp only [lnS]; try omega)) [-getElem?_pos, -getElem?_neg, thenQ_ret, scopeQ_ret, inBlockQ_ret, RQ, resL, resV, hpre])
 obtain ⟨j, q, bb, us, pv, wv, bv, kv, hx, hbb, hq, hcell, hus, hC⟩ := hat i _ (hn_get hi)
 have hbG : hget G j = some bb := (lw.1 j (hget_lt hbb)).trans hbb
 have hul := hC.len
 have hus' := hus.symm
 clear hus
 have hw := hwf _ (List.mem_of_getElem? (hn_get hi))
 have hset : ∀ Z : List Value, Z.length = 104 → setR Z 0 us = us := fun Z hZ => setR_all _ _ (by omega)
 have hp0 : plain1 (.slice none 0 0) = true := rfl
 have hle := lw.2
 have hivl : (iv .u8 (hn l i).id).length = 32 := by rw [iv_length, hw.id.1]
 (refine aw_ops (by kernel_rfl) (fun K hK => ?_); simp (disch := first | omega | (simp only [lnS]; try omega)) [-getElem?_pos, -getElem?_neg, q9, q10, hi]; refine hK _ _ ?_; clear hK K)
 refine aw_seq ?_
 refine aw_t (by (first | (simp [eval_tmp, put_at, hi]; done) | (simp [eval_tmp, put_at, hi]; omega))) (by kernel_rfl) ?_
 refine aw_skip ?_
 refine aw_seq ?_
 refine aw_block ?_
 refine aw_seq ?_
 (refine aw_ops (by kernel_rfl) (fun K hK => ?_); simp (disch := first | omega | (simp only [lnS]; try omega)) [-getElem?_pos, -getElem?_neg, q8, q10, -notTuple, hnt, hvc, nt_intG, nt_aggG, -xindexAddr, hx, hbG, hus', hul, hq, hp0, all_zl, hset, hle]; refine hK _ _ ?_; clear hK K)
 obtain ⟨lw2, b4⟩ := boxed (H := G) us 60
 obtain ⟨g, hg⟩ : ∃ g, g = G.length := ⟨_, rfl⟩
 have lw3 := lw.both lw2
 rw [← hg] at b4 ⊢
 generalize G ++ [some ⟨us, 60, none⟩] = G2 at *
 have hC2 : HdC G2 us (hn l i) pv wv bv kv := hC.low lw3.1
 have hid := hC.id
 have fi := qfind_rc (γ := γ) (hN'.lowG lw3) hl hw.id.1
 have ri := right_rc (γ := γ) hC2.op hw.op
 have hone : oneQ l i = (decide (findIH l l.length (hn l i).id = (i : Int)) && rightO (hn l i).op) := rfl
 have hopl := hC2.op.len
 generalize findIH l l.length (hn l i).id = f at *
 refine aw_seq ?_
 refine aw_cut (fun α G3 => α 26 = .bool (!oneQ l i) ∧ α 0 = qv ∧ α 8 = qv ∧ α 9 = .int .i64 (l.length : Nat) ∧ α 10 = .int .i64 (i : Nat) ∧ G3 = G2) ?_ ?_
 ·refine aw_ops (by kernel_rfl) (fun K hK => ?_)
  simp (disch := first | omega | (simp only [lnS]; try omega)) [-getElem?_pos, -getElem?_neg, q0, b4, hul, hid, hivl, -notTuple, hnt, hvc, nt_intG, nt_aggG]
  refine ⟨by kernel_rfl, ac_of_rc fi (by simp [pv_iv, pv_int, pv_bool, pv_string, pv_tup2, pv_tup3, iv_plain, p2_int, p2_bool, p2_string]) ?_⟩
  by_cases hf : f = (i : Int)
  ·have hfb : (f == (i : Int)) = true := by simp [hf]
   rw [decide_eq_true hf, Bool.true_and] at hone
   simp (disch := first | omega | (simp only [lnS]; try omega)) [-getElem?_pos, -getElem?_neg, b4, hul, hf, hfb, hopl, -notTuple, nt_intG, nt_aggG]
   refine ⟨by kernel_rfl, ac_of_rc ri (by simp [pv_iv, pv_int, pv_bool, pv_string, pv_tup2, pv_tup3, iv_plain, p2_int, p2_bool, p2_string]) ?_⟩
   try simp (disch := first | omega | (simp only [lnS]; try omega)) [-getElem?_pos, -getElem?_neg]
   refine hK _ _ ?_; clear hK K
   exact ⟨by rw [hone]; (first | (simp [put_at, put_none, fr0_at]; done) | rfl), by (first | (simp [put_at, put_none, fr0_at, q0]; done) | rfl), by (first | (simp [put_at, put_none, fr0_at, q8]; done) | rfl), by (first | (simp [put_at, put_none, fr0_at, q9]; done) | rfl), by (first | (simp [put_at, put_none, fr0_at, q10]; done) | rfl), rfl⟩
  ·have hfb : (f == (i : Int)) = false := by simp [hf]
   rw [decide_eq_false hf, Bool.false_and] at hone
   simp (disch := first | omega | (simp only [lnS]; try omega)) [-getElem?_pos, -getElem?_neg, hf, hfb, -notTuple, nt_intG, nt_aggG]
   refine hK _ _ ?_; clear hK K
   exact ⟨by rw [hone]; (first | (simp [put_at, put_none, fr0_at]; done) | rfl), by (first | (simp [put_at, put_none, fr0_at, q0]; done) | rfl), by (first | (simp [put_at, put_none, fr0_at, q8]; done) | rfl), by (first | (simp [put_at, put_none, fr0_at, q9]; done) | rfl), by (first | (simp [put_at, put_none, fr0_at, q10]; done) | rfl), rfl⟩
 clear q0 q8 q9 q10
 rintro α G3 ⟨q26, q0, q8, q9, q10, rfl⟩
 cases ho : oneQ l i with
 | false =>
  rw [ho] at q26
  have hb := all_bad hi ho
  refine aw_t (by (first | (simp [eval_tmp, put_at, q26]; done) | (simp [eval_tmp, put_at, q26]; omega))) (by kernel_rfl) ?_
  refine aw_seq ?_
  (refine aw_ops (by kernel_rfl) (fun K hK => ?_); simp (disch := first | omega | (simp only [lnS]; try omega)) [-getElem?_pos, -getElem?_neg]; refine hK _ _ ?_; clear hK K)
  (refine aw_ret ?_; simp (disch := first | omega | (simp only [lnS]; try omega)) [-getElem?_pos, -getElem?_neg, thenQ_ret, scopeQ_ret, inBlockQ_ret, RQ, resL, resV])
  exact ⟨i, hi, ho⟩
 | true =>
 rw [ho] at q26
 refine aw_f (by (first | (simp [eval_tmp, put_at, q26]; done) | (simp [eval_tmp, put_at, q26]; omega))) (by kernel_rfl) ?_
 refine aw_skip ?_
 (refine aw_ops (by kernel_rfl) (fun K hK => ?_); simp (disch := first | omega | (simp only [lnS]; try omega)) [-getElem?_pos, -getElem?_neg, q10]; refine hK _ _ ?_; clear hK K)
 exact ⟨c - 1, by omega, i + 1, by omega, lw3, by (first | (simp [put_at, put_none, fr0_at, q0]; done) | rfl), by (first | (simp [put_at, put_none, fr0_at, q8]; done) | rfl), by (first | (simp [put_at, put_none, fr0_at, q9]; done) | rfl), by (first | (simp [put_at, put_none, fr0_at]; done) | rfl), by rw [all_snoc hpre]; exact ho⟩
end
section
theorem any_getDG {β : Type} (d : β) {l : List β} {P : β → Bool} : ((List.range l.length).any fun i => P (l.getD i d)) = l.any P := by
 rw [Bool.eq_iff_iff, List.any_eq_true, List.any_eq_true]
 constructor
 ·rintro ⟨i, hi, h⟩
  rw [List.mem_range] at hi
  refine ⟨l[i], List.getElem_mem hi, ?_⟩
  rwa [List.getD_eq_getElem?_getD, List.getElem?_eq_getElem hi] at h
 ·rintro ⟨x, hx, h⟩
  obtain ⟨i, hi, rfl⟩ := List.mem_iff_getElem.1 hx
  refine ⟨i, List.mem_range.2 hi, ?_⟩
  rwa [List.getD_eq_getElem?_getD, List.getElem?_eq_getElem hi]
def readyB (l : List NodeD) (x : HeldD) : Bool := x.op.parents.all fun p => decide (0 ≤ findI l l.length p)
def readyI (l : List NodeD) (q : List HeldD) : Int := firstI q.length fun i => readyB l (hn q i)
attribute [local simp] wb_bool wb_undef with_lit XL_nil XL_cons XLc_val XLc_call step1_eq stepW_t stepW_f stepC_n stepC_s stepX_s stepX_n stepN_s calleeX xrecv oneV xop_eq xopR_s xopR_n wantedA_eq wantedG_n wantedG_s plain1_int plain1_bool plain1_string bits_i64 bits_u64 bits_u32 bits_u16 bits_u8 xeqA xagg xcmp xarr allK_iv num_iv calleeOf xread xeff xbin xint xnil xun xstr xload xconv xpart xfield xfieldAddr xindexAddr xindex bnd asInt? xslice xlen xmin xmax xbuild xfill xappend xapp2 xappstr xappmk xcap xcopy xcells eval_tmp eval_const put_at put_none fr0_at cells_agg cells_int cells_bool cells_string cells_ptr cells_slice notTuple tab iv_all hget_app hget_app0 hget_cons0 hget_cons set_app set_app0 setR setR_one QL_nil QL_cons QLc_val stepQ_t stepQ_f stepQC_n stepQC_s stepQX_s SL_nil SL_cons SLc_val stepS_t stepS_f ltT ltF leT leF eqT eqF ltTn ltFn leTn leFn eqTn eqFn beqT beqF bneT bneF wi64 wu64 wu32 wu16 wu8 tmodP tdivP hgetL hgetNe hgetEq setL nums_def nums_len Nat.succ_le_of_lt List.getElem?_cons_zero List.getElem?_cons_succ Option.getD_some Int.toNat_add Int.toNat_mul agM okM agB agI agS agP agL agA okB okI okS okP okSl okA
theorem indexK_rc {γ : Nat → Option Nat} {H : AH} {v : Value} {l : List (List Int)} (h : KsV H v l) (hk32 : ∀ k ∈ l, k.length = 32) (hm : l.length ≤ maxLen) {f : Nat} {cs : Array Value} {p : Nat → Bool} (hcal : callable Try.prog f = true)
  (hf : ∀ (G : AH) (i : Nat), Low H.length H G → i < l.length → AC Try.prog G.length γ f (#[.agg (iv .u8 (l.getD i [])).toArray] ++ cs) G (fun v' _ => v' = .bool (p i))) :
  AC Try.prog H.length γ 140 #[v, .func (.func f) #[] cs] H (fun v' _ => v' = .int .i64 (firstI l.length p)) := by
 have hacc := (h.acc hk32)
 have hnt := hacc.nt
 have hvc := hacc.cs
 have hxl := hacc.len
 have hm63 : l.length ≤ 9223372036854775807 := by simp only [maxLen] at hm; omega
 have hfn : notTuple (.func (.func f) #[] cs) = true := rfl
 have hfc : (Value.func (.func f) #[] cs).cells = #[.func (.func f) #[] cs] := rfl
 refine ac_of_aw Try.func140 rfl Try.ntmps140 Try.results140 (by simp) ?_
 refine aw_seq ?_
 (refine aw_ops (by kernel_rfl) (fun K hK => ?_); simp (disch := first | omega | (simp only [lnS]; try omega)) [-getElem?_pos, -getElem?_neg]; refine hK _ _ ?_; clear hK K)
 refine aw_seq ?_
 refine aw_seq ?_
 (refine aw_ops (by kernel_rfl) (fun K hK => ?_); simp (disch := first | omega | (simp only [lnS]; try omega)) [-getElem?_pos, -getElem?_neg, -notTuple, hnt, hvc, nt_intG, -xlen, hxl]; refine hK _ _ ?_; clear hK K)
 refine aw_block ?_
 refine aw_loop (fun c α G => ∃ i : Nat, i + c = l.length ∧ Low H.length H G ∧ α 0 = v ∧ α 1 = .func (.func f) #[] cs ∧ α 7 = .int .i64 (l.length : Nat) ∧ α 8 = .int .i64 (i : Nat) ∧ ∀ k, k < i → p k = false) l.length ?_ ?_
 ·exact ⟨0, by omega, Low.refl (Nat.le_refl _), by (first | (simp [put_at, put_none, fr0_at]; done) | rfl), by (first | (simp [put_at, put_none, fr0_at]; done) | rfl), by (first | (simp [put_at, put_none, fr0_at]; done) | rfl), by (first | (simp [put_at, put_none, fr0_at]; done) | rfl), fun k hk => by omega⟩
 rintro c α G ⟨i, hic, hlow, h0, h1, h7, h8, hpre⟩
 refine aw_seq ?_
 by_cases hi : i < l.length
 case neg =>
  (refine aw_ops (by kernel_rfl) (fun K hK => ?_); simp (disch := first | omega | (simp only [lnS]; try omega)) [-getElem?_pos, -getElem?_neg, h7, h8, hi]; refine hK _ _ ?_; clear hK K)
  refine aw_seq ?_
  refine aw_f (by (first | (simp [eval_tmp, put_at, hi]; done) | (simp [eval_tmp, put_at, hi]; omega))) (by kernel_rfl) ?_
  refine aw_exit ?_
  refine aw_seq ?_
  (refine aw_ops (by kernel_rfl) (fun K hK => ?_); simp (disch := first | omega | (simp only [lnS]; try omega)) [-getElem?_pos, -getElem?_neg]; refine hK _ _ ?_; clear hK K)
  (refine aw_ret ?_; simp (disch := first | omega | (simp only [lnS]; try omega)) [-getElem?_pos, -getElem?_neg, thenQ_ret, scopeQ_ret, inBlockQ_ret, RQ, resL, resV])
  exact (firstI_none (fun k hk => hpre k (by omega))).symm
 obtain ⟨q, x, r1, r2, r3, r4, r5⟩ := hacc.at_ i hi
 have r5 := r5 G hlow
 subst r4
 have hc := hf G i hlow hi
 obtain ⟨z, hz⟩ : ∃ z, z = l.getD i [] := ⟨_, rfl⟩
 have hzl : (iv .u8 z).length = 32 := by rw [iv_length, hz, List.getD_eq_getElem?_getD, List.getElem?_eq_getElem hi]; exact hk32 _ (List.getElem_mem hi)
 rw [← hz] at hc r5
 (refine aw_ops (by kernel_rfl) (fun K hK => ?_); simp (disch := first | omega | (simp only [lnS]; try omega)) [-getElem?_pos, -getElem?_neg, h7, h8, hi]; refine hK _ _ ?_; clear hK K)
 refine aw_seq ?_
 refine aw_t (by (first | (simp [eval_tmp, put_at, hi]; done) | (simp [eval_tmp, put_at, hi]; omega))) (by kernel_rfl) ?_
 refine aw_skip ?_
 refine aw_seq ?_
 refine aw_block ?_
 refine aw_seq ?_
 (refine aw_ops (by kernel_rfl) (fun K hK => ?_); simp (disch := first | omega | (simp only [lnS]; try omega)) [-getElem?_pos, -getElem?_neg, h8]; refine hK _ _ ?_; clear hK K)
 refine aw_seq ?_
 refine aw_ops (by kernel_rfl) (fun K hK => ?_)
 simp (disch := first | omega | (simp only [lnS]; try omega)) [-getElem?_pos, -getElem?_neg, h0, h1, -notTuple, hnt, hvc, hfn, hfc, nt_intG, nt_aggG, hzl, r1, -xindexAddr, r2, -xload, r5]
 refine ⟨hcal, ac_of_rc hc (by simp [pv_iv, pv_int, pv_bool, pv_string, pv_tup2, pv_tup3, iv_plain, p2_int, p2_bool, p2_string]) ?_⟩
 cases hp : p i with
 | true =>
  try simp (disch := first | omega | (simp only [lnS]; try omega)) [-getElem?_pos, -getElem?_neg]
  refine hK _ _ ?_; clear hK K
  refine aw_t (by (first | (simp [eval_tmp, put_at]; done) | (simp [eval_tmp, put_at]; omega))) (by kernel_rfl) ?_
  refine aw_seq ?_
  (refine aw_ops (by kernel_rfl) (fun K hK => ?_); simp (disch := first | omega | (simp only [lnS]; try omega)) [-getElem?_pos, -getElem?_neg]; refine hK _ _ ?_; clear hK K)
  (refine aw_ret ?_; simp (disch := first | omega | (simp only [lnS]; try omega)) [-getElem?_pos, -getElem?_neg, thenQ_ret, scopeQ_ret, inBlockQ_ret, RQ, resL, resV])
  exact (firstI_some hi hpre hp).symm
 | false =>
  try simp (disch := first | omega | (simp only [lnS]; try omega)) [-getElem?_pos, -getElem?_neg]
  refine hK _ _ ?_; clear hK K
  refine aw_f (by (first | (simp [eval_tmp, put_at]; done) | (simp [eval_tmp, put_at]; omega))) (by kernel_rfl) ?_
  refine aw_skip ?_
  (refine aw_ops (by kernel_rfl) (fun K hK => ?_); simp (disch := first | omega | (simp only [lnS]; try omega)) [-getElem?_pos, -getElem?_neg, h8]; refine hK _ _ ?_; clear hK K)
  refine ⟨c - 1, by omega, i + 1, by omega, hlow, by (first | (simp [put_at, put_none, fr0_at, h0]; done) | rfl), by (first | (simp [put_at, put_none, fr0_at, h1]; done) | rfl), by (first | (simp [put_at, put_none, fr0_at, h7]; done) | rfl), by (first | (simp [put_at, put_none, fr0_at]; done) | rfl), fun k hk => ?_⟩
  by_cases e : k = i
  ·subst e; exact hp
  ·exact hpre k (by omega)
theorem anyK_rc {γ : Nat → Option Nat} {H : AH} {v : Value} {l : List (List Int)} (h : KsV H v l) (hk32 : ∀ k ∈ l, k.length = 32) (hm : l.length ≤ maxLen) {f : Nat} {cs : Array Value} {P : List Int → Bool} (hcal : callable Try.prog f = true)
  (hf : ∀ (G : AH) (z : List Int), Low H.length H G → z ∈ l → AC Try.prog G.length γ f (#[.agg (iv .u8 z).toArray] ++ cs) G (fun v' _ => v' = .bool (P z))) :
  AC Try.prog H.length γ 96 #[v, .func (.func f) #[] cs] H (fun v' _ => v' = .bool (l.any P)) := by
 have hacc := (h.acc hk32)
 have hnt := hacc.nt
 have hvc := hacc.cs
 have hfn : notTuple (.func (.func f) #[] cs) = true := rfl
 have hfc : (Value.func (.func f) #[] cs).cells = #[.func (.func f) #[] cs] := rfl
 have hix := indexK_rc (γ := γ) h hk32 hm (p := fun i => P (l.getD i [])) hcal (fun G i hg hi => hf G _ hg (by
  rw [List.getD_eq_getElem?_getD, List.getElem?_eq_getElem hi]
  exact List.getElem_mem hi))
 have hb := firstI_bd (n := l.length) (p := fun i => P (l.getD i []))
 rw [← any_getDG [], ← any_first]
 generalize firstI l.length (fun i => P (l.getD i [])) = r at *
 refine ac_of_aw Try.func96 rfl Try.ntmps96 Try.results96 (by simp) ?_
 refine aw_seq ?_
 (refine aw_ops (by kernel_rfl) (fun K hK => ?_); simp (disch := first | omega | (simp only [lnS]; try omega)) [-getElem?_pos, -getElem?_neg]; refine hK _ _ ?_; clear hK K)
 refine aw_seq ?_
 refine aw_ops (by kernel_rfl) (fun K hK => ?_)
 simp (disch := first | omega | (simp only [lnS]; try omega)) [-getElem?_pos, -getElem?_neg, -notTuple, hnt, hvc, hfn, hfc, nt_intG]
 refine ⟨by kernel_rfl, ac_of_rc hix (by simp [pv_iv, pv_int, pv_bool, pv_string, pv_tup2, pv_tup3, iv_plain, p2_int, p2_bool, p2_string]) ?_⟩
 by_cases h0 : 0 ≤ r
 ·simp (disch := first | omega | (simp only [lnS]; try omega)) [-getElem?_pos, -getElem?_neg, h0]
  refine hK _ _ ?_; clear hK K
  (refine aw_ret ?_; simp (disch := first | omega | (simp only [lnS]; try omega)) [-getElem?_pos, -getElem?_neg, thenQ_ret, scopeQ_ret, inBlockQ_ret, RQ, resL, resV, h0])
 ·simp (disch := first | omega | (simp only [lnS]; try omega)) [-getElem?_pos, -getElem?_neg, h0]
  refine hK _ _ ?_; clear hK K
  (refine aw_ret ?_; simp (disch := first | omega | (simp only [lnS]; try omega)) [-getElem?_pos, -getElem?_neg, thenQ_ret, scopeQ_ret, inBlockQ_ret, RQ, resL, resV, h0])
theorem ready11_rc {γ : Nat → Option Nat} {H : AH} {nv : Value} {l : List NodeD} {p1 : Nat} (hN : NdA H nv l) (hl : l.length ≤ maxLen) (h1 : hget H p1 = some ⟨[nv], 22, none⟩) {k : List Int} (hk : k.length = 32) :
  AC Try.prog H.length γ 97 #[.agg (iv .u8 k).toArray, .pointer (some ⟨p1, 0, none⟩)] H (fun v' _ => v' = .bool (decide (findI l l.length k < 0))) := by
 have hnt := hN.nt
 have hvc := hN.cs
 have hkl : (iv .u8 k).length = 32 := by rw [iv_length, hk]
 have htk : (iv .u8 k).take 32 = iv .u8 k := List.take_of_length_le (by omega)
 refine ac_of_aw Try.func97 rfl Try.ntmps97 Try.results97 (by simp) ?_
 refine aw_seq ?_
 (refine aw_ops (by kernel_rfl) (fun K hK => ?_); simp (disch := first | omega | (simp only [lnS]; try omega)) [-getElem?_pos, -getElem?_neg, hkl, nt_aggG]; refine hK _ _ ?_; clear hK K)
 obtain ⟨lw, b2⟩ := boxed (H := H) (iv .u8 k) 38
 have h1 := (lw.1 _ (hget_lt h1)).trans h1
 generalize H ++ [some ⟨iv .u8 k, 38, none⟩] = G at *
 have fi := find_rc (γ := γ) (hN.lowG lw) hl hk
 generalize findI l l.length k = f at *
 refine aw_seq ?_
 refine aw_ops (by kernel_rfl) (fun K hK => ?_)
 simp (disch := first | omega | (simp only [lnS]; try omega)) [-getElem?_pos, -getElem?_neg, h1, b2, hkl, htk, -notTuple, hnt, hvc, nt_aggG]
 refine ⟨by kernel_rfl, ac_of_rc fi (by simp [pv_iv, pv_int, pv_bool, pv_string, pv_tup2, pv_tup3, iv_plain, p2_int, p2_bool, p2_string]) ?_⟩
 by_cases hf : f < 0
 ·try simp (disch := first | omega | (simp only [lnS]; try omega)) [-getElem?_pos, -getElem?_neg, hf]
  refine hK _ _ ?_; clear hK K
  (refine aw_ret ?_; simp (disch := first | omega | (simp only [lnS]; try omega)) [-getElem?_pos, -getElem?_neg, thenQ_ret, scopeQ_ret, inBlockQ_ret, RQ, resL, resV, hf])
 ·try simp (disch := first | omega | (simp only [lnS]; try omega)) [-getElem?_pos, -getElem?_neg, hf]
  refine hK _ _ ?_; clear hK K
  (refine aw_ret ?_; simp (disch := first | omega | (simp only [lnS]; try omega)) [-getElem?_pos, -getElem?_neg, thenQ_ret, scopeQ_ret, inBlockQ_ret, RQ, resL, resV, hf])
theorem ready11_callable : callable Try.prog 97 = true := by kernel_rfl
theorem ready1_rc {γ : Nat → Option Nat} {H : AH} {nv : Value} {l : List NodeD} {p1 : Nat} (hN : NdA H nv l) (hl : l.length ≤ maxLen) (h1 : hget H p1 = some ⟨[nv], 22, none⟩) {us : List Value} {x : HeldD} {pv wv bv kv : Value} (hC : HdC H us x pv wv bv kv) (hw : x.Wf) :
  AC Try.prog H.length γ 95 #[.agg us.toArray, .pointer (some ⟨p1, 0, none⟩)] H (fun v' _ => v' = .bool (readyB l x)) := by
 have hul := hC.len
 have hset : ∀ Z : List Value, Z.length = 104 → setR Z 0 us = us := fun Z hZ => setR_all _ _ (by omega)
 have hp0 : plain1 (.slice none 0 0) = true := rfl
 have htu : us.take 104 = us := List.take_of_length_le (by omega)
 have c34 : us[34]? = some pv := by
  have := hC.op.c2
  rwa [List.getElem?_take_of_lt (by omega), List.getElem?_drop] at this
 refine ac_of_aw Try.func95 rfl Try.ntmps95 Try.results95 (by simp) ?_
 refine aw_seq ?_
 (refine aw_ops (by kernel_rfl) (fun K hK => ?_); simp (disch := first | omega | (simp only [lnS]; try omega)) [-getElem?_pos, -getElem?_neg, hul, nt_aggG, hp0, all_zl, hset, htu]; refine hK _ _ ?_; clear hK K)
 obtain ⟨lw, b2⟩ := boxed (H := H) us 60
 have h1 := (lw.1 _ (hget_lt h1)).trans h1
 generalize H ++ [some ⟨us, 60, none⟩] = G at *
 have hKs := (hC.low lw.1).op.parents
 have hk32 : ∀ k ∈ x.op.parents, k.length = 32 := fun k hk => (hw.op.parents k hk).1
 have hacc := hKs.acc hk32
 have p1' := hacc.nt
 have p2' := hacc.cs
 have ak := anyK_rc (γ := γ) hKs hk32 hw.op.plen (f := 97) (cs := #[.pointer (some ⟨p1, 0, none⟩)]) (P := fun k => decide (findI l l.length k < 0)) ready11_callable (fun G4 z h4 hz => ready11_rc (γ := γ) (hN.lowG (lw.both h4)) hl ((h4.1 _ (hget_lt h1)).trans h1) (hk32 z hz))
 have hrb : readyB l x = !(x.op.parents.any fun k => decide (findI l l.length k < 0)) := by
  unfold readyB
  rw [List.all_eq_not_any_not]
  congr 2
  funext k
  by_cases h : findI l l.length k < 0
  ·rw [decide_eq_true h, decide_eq_false (by omega)]; rfl
  ·rw [decide_eq_false h, decide_eq_true (by omega)]; rfl
 rw [hrb]
 generalize (x.op.parents.any fun k => decide (findI l l.length k < 0)) = E at *
 refine aw_seq ?_
 refine aw_ops (by kernel_rfl) (fun K hK => ?_)
 simp (disch := first | omega | (simp only [lnS]; try omega)) [-getElem?_pos, -getElem?_neg, b2, c34, hul, -notTuple, p1', p2', nt_fn, cs_fn, nt_intG]
 refine ⟨by kernel_rfl, ac_of_rc ak (by simp [pv_iv, pv_int, pv_bool, pv_string, pv_tup2, pv_tup3, iv_plain, p2_int, p2_bool, p2_string]) ?_⟩
 try simp (disch := first | omega | (simp only [lnS]; try omega)) [-getElem?_pos, -getElem?_neg]
 refine hK _ _ ?_; clear hK K
 (refine aw_ret ?_; simp (disch := first | omega | (simp only [lnS]; try omega)) [-getElem?_pos, -getElem?_neg, thenQ_ret, scopeQ_ret, inBlockQ_ret, RQ, resL, resV])
theorem ready1_callable : callable Try.prog 95 = true := by kernel_rfl
theorem ready_rc {γ : Nat → Option Nat} {H : AH} {nv qv : Value} {l : List NodeD} {q : List HeldD} (hN : NdA H nv l) (hl : l.length ≤ maxLen) (hQ : HdA H qv q) (hq : q.length ≤ maxLen) : AC Try.prog H.length γ 47 #[nv, qv] H (fun v' _ => v' = .int .i64 (if rightG l && rightQ q then readyI l q else -1)) := by
 have hnt := hN.nt
 have hvc := hN.cs
 have q1 := hQ.nt
 have q2 := hQ.cs
 refine ac_of_aw Try.func47 rfl Try.ntmps47 Try.results47 (by simp) ?_
 refine aw_seq ?_
 (refine aw_ops (by kernel_rfl) (fun K hK => ?_); simp (disch := first | omega | (simp only [lnS]; try omega)) [-getElem?_pos, -getElem?_neg, -notTuple, hnt, hvc]; refine hK _ _ ?_; clear hK K)
 obtain ⟨lw, b2⟩ := boxed (H := H) [nv] 22
 obtain ⟨n, hn'⟩ : ∃ n, n = H.length := ⟨_, rfl⟩
 rw [← hn'] at b2 ⊢
 generalize H ++ [some ⟨[nv], 22, none⟩] = G at *
 have hNG := hN.lowG lw
 have hQG := hQ.lowG lw
 have gr := graph_right_rc (γ := γ) hNG
 have qr := qRight_rc (γ := γ) hQG hq
 have ix := indexHn_rc (γ := γ) hQG hq (f := 95) (cs := #[.pointer (some ⟨n, 0, none⟩)]) (p := fun i => readyB l (hn q i)) ready1_callable (fun G4 i us pv wv bv kv h4 hi hul hC => ready1_rc (γ := γ) (hNG.lowG h4) hl ((h4.1 _ (hget_lt b2)).trans b2) (hC.low h4.1) (hQ.wf _ (List.mem_of_getElem? (hn_get hi))))
 have hri : readyI l q = firstI q.length fun i => readyB l (hn q i) := rfl
 rw [← hri] at ix
 refine aw_seq ?_
 refine aw_seq ?_
 refine aw_cut (fun α G3 => α 12 = .bool (!(rightG l && rightQ q)) ∧ α 1 = qv ∧ α 2 = .pointer (some ⟨n, 0, none⟩) ∧ G3 = G) ?_ ?_
 ·refine aw_ops (by kernel_rfl) (fun K hK => ?_)
  simp (disch := first | omega | (simp only [lnS]; try omega)) [-getElem?_pos, -getElem?_neg, b2, -notTuple, hnt, hvc, nt_intG]
  refine ⟨by kernel_rfl, ac_of_rc gr (by simp [pv_iv, pv_int, pv_bool, pv_string, pv_tup2, pv_tup3, iv_plain, p2_int, p2_bool, p2_string]) ?_⟩
  cases h3 : rightG l with
  | false =>
   try simp (disch := first | omega | (simp only [lnS]; try omega)) [-getElem?_pos, -getElem?_neg]
   refine hK _ _ ?_; clear hK K
   exact ⟨by rw [h3]; (first | (simp [put_at, put_none, fr0_at]; done) | rfl), by (first | (simp [put_at, put_none, fr0_at]; done) | rfl), by (first | (simp [put_at, put_none, fr0_at]; done) | rfl), rfl⟩
  | true =>
   simp (disch := first | omega | (simp only [lnS]; try omega)) [-getElem?_pos, -getElem?_neg, -notTuple, q1, q2, nt_intG]
   refine ⟨by kernel_rfl, ac_of_rc qr (by simp [pv_iv, pv_int, pv_bool, pv_string, pv_tup2, pv_tup3, iv_plain, p2_int, p2_bool, p2_string]) ?_⟩
   try simp (disch := first | omega | (simp only [lnS]; try omega)) [-getElem?_pos, -getElem?_neg]
   refine hK _ _ ?_; clear hK K
   exact ⟨by rw [h3]; (first | (simp [put_at, put_none, fr0_at]; done) | rfl), by (first | (simp [put_at, put_none, fr0_at]; done) | rfl), by (first | (simp [put_at, put_none, fr0_at]; done) | rfl), rfl⟩
 rintro α G3 ⟨q12, qq1, qq2, rfl⟩
 cases hb : (rightG l && rightQ q) with
 | false =>
  rw [hb] at q12
  refine aw_t (by (first | (simp [eval_tmp, put_at, q12]; done) | (simp [eval_tmp, put_at, q12]; omega))) (by kernel_rfl) ?_
  refine aw_seq ?_
  (refine aw_ops (by kernel_rfl) (fun K hK => ?_); simp (disch := first | omega | (simp only [lnS]; try omega)) [-getElem?_pos, -getElem?_neg]; refine hK _ _ ?_; clear hK K)
  (refine aw_ret ?_; simp (disch := first | omega | (simp only [lnS]; try omega)) [-getElem?_pos, -getElem?_neg, thenQ_ret, scopeQ_ret, inBlockQ_ret, RQ, resL, resV])
 | true =>
 rw [hb] at q12
 refine aw_f (by (first | (simp [eval_tmp, put_at, q12]; done) | (simp [eval_tmp, put_at, q12]; omega))) (by kernel_rfl) ?_
 refine aw_skip ?_
 refine aw_seq ?_
 refine aw_ops (by kernel_rfl) (fun K hK => ?_)
 simp (disch := first | omega | (simp only [lnS]; try omega)) [-getElem?_pos, -getElem?_neg, qq1, qq2, -notTuple, q1, q2, nt_fn, cs_fn, nt_intG]
 refine ⟨by kernel_rfl, ac_of_rc ix (by simp [pv_iv, pv_int, pv_bool, pv_string, pv_tup2, pv_tup3, iv_plain, p2_int, p2_bool, p2_string]) ?_⟩
 try simp (disch := first | omega | (simp only [lnS]; try omega)) [-getElem?_pos, -getElem?_neg]
 refine hK _ _ ?_; clear hK K
 (refine aw_ret ?_; simp (disch := first | omega | (simp only [lnS]; try omega)) [-getElem?_pos, -getElem?_neg, thenQ_ret, scopeQ_ret, inBlockQ_ret, RQ, resL, resV])
end
section
theorem BoxD.ext {a b : BoxD} (h1 : a.to = b.to) (h2 : a.pub = b.pub) (h3 : a.n = b.n) (h4 : a.prev = b.prev) (h5 : a.body = b.body) : a = b := by
 cases a; cases b; simp only [BoxD.mk.injEq] at *; exact ⟨h1, h2, h3, h4, h5⟩
theorem OpD.ext {a b : OpD} (h1 : a.author = b.author) (h2 : a.seq = b.seq) (h3 : a.parents = b.parents) (h4 : a.kind = b.kind) (h5 : a.who = b.who) (h6 : a.of = b.of) (h7 : a.check = b.check) (h8 : a.text = b.text) (h9 : a.boxes = b.boxes) : a = b := by
 cases a; cases b; simp only [OpD.mk.injEq] at *; exact ⟨h1, h2, h3, h4, h5, h6, h7, h8, h9⟩
theorem NodeD.ext {a b : NodeD} (h1 : a.id = b.id) (h2 : a.op = b.op) (h3 : a.past = b.past) : a = b := by
 cases a; cases b; simp only [NodeD.mk.injEq] at *; exact ⟨h1, h2, h3⟩
noncomputable instance : DecidableEq BoxD := Classical.typeDecidableEq _
noncomputable instance : DecidableEq OpD := Classical.typeDecidableEq _
noncomputable instance : DecidableEq NodeD := Classical.typeDecidableEq _
def boxRow (b : BoxD) : List Value := .int .i64 b.to :: (iv .u8 b.pub ++ [.int .u32 b.n, .int .u32 b.prev, .string b.body])
theorem BoxC.row {H : AH} {us : List Value} {b : BoxD} (h : BoxC H us b) : us = boxRow b := by
 have hl := h.len
 have e1 : us.drop 1 = iv .u8 b.pub ++ us.drop 33 := by
  have := (List.take_append_drop 32 (us.drop 1)).symm
  rwa [h.pub, List.drop_drop] at this
 have e0 : us.take 1 = [.int .i64 b.to] := by
  apply List.ext_getElem?
  intro i
  match i with
  | 0 => rw [List.getElem?_take_of_lt (by omega), h.c0]; rfl
  | i + 1 => rw [List.getElem?_eq_none (by rw [List.length_take]; omega), List.getElem?_eq_none (by simp)]
 have e2 : us.drop 33 = [.int .u32 b.n, .int .u32 b.prev, .string b.body] := by
  apply List.ext_getElem?
  intro i
  match i with
  | 0 => rw [List.getElem?_drop, h.c33]; rfl
  | 1 => rw [List.getElem?_drop, h.c34]; rfl
  | 2 => rw [List.getElem?_drop, h.c35]; rfl
  | i + 3 => rw [List.getElem?_eq_none (by rw [List.length_drop]; omega), List.getElem?_eq_none (by simp)]
 have := (List.take_append_drop 1 us).symm
 rw [e0, e1, e2] at this
 exact this
end
section
theorem NdA.row {H : AH} {v : Value} {l : List NodeD} (h : NdA H v l) {i : Nat} (hi : i < l.length) : ∃ j q bb us pv wv bv qv, xindexAddr Try.prog 22 v (.int .i64 (i : Nat)) = some (.pointer (some ⟨j, q, none⟩)) ∧ hget H j = some bb ∧ q + 104 ≤ bb.cells.length ∧ (bb.cells.drop q).take 104 = us ∧ NodeC H us (nd l i) pv wv bv qv := by
 obtain ⟨j, q, bb, us, pv, wv', bv, qv, hx, hbb, hq, hcell, hus, hC⟩ := h.at_ i _ (nd_get hi)
 exact ⟨j, q, bb, us, pv, wv', bv, qv, hx, hbb, hq, hus.symm, hC⟩
end
section
theorem HeldD.ext {x y : HeldD} (h1 : x.id = y.id) (h2 : x.op = y.op) (h3 : x.got = y.got) : x = y := by
 cases x; cases y
 cases h1; cases h2; cases h3
 rfl
noncomputable instance : DecidableEq HeldD := Classical.typeDecidableEq _
theorem HdA.row {H : AH} {v : Value} {l : List HeldD} (h : HdA H v l) {i : Nat} (hi : i < l.length) : ∃ j q bb us pv wv bv qv, xindexAddr Try.prog 58 v (.int .i64 (i : Nat)) = some (.pointer (some ⟨j, q, none⟩)) ∧ hget H j = some bb ∧ q + 104 ≤ bb.cells.length ∧ (bb.cells.drop q).take 104 = us ∧ HdC H us (hn l i) pv wv bv qv := by
 obtain ⟨j, q, bb, us, pv, wv', bv, qv, hx, hbb, hq, hcell, hus, hC⟩ := h.at_ i _ (hn_get hi)
 exact ⟨j, q, bb, us, pv, wv', bv, qv, hx, hbb, hq, hus.symm, hC⟩
end
section
def heldRow (x : HeldD) (pv wv bv qv : Value) : List Value := iv .u8 x.id ++ (opRow x.op pv wv bv ++ [qv])
theorem heldRow_len {x : HeldD} (hw : x.Wf) (pv wv bv qv : Value) : (heldRow x pv wv bv qv).length = 104 := by
 have h1 := hw.id.1
 have h2 := opRow_len hw.op pv wv bv
 simp [heldRow, iv_length, h1, h2]
theorem HdC.row {H : AH} {us : List Value} {x : HeldD} {pv wv bv qv : Value} (h : HdC H us x pv wv bv qv) (hw : x.Wf) : us = heldRow x pv wv bv qv := by
 have hl := h.len
 have e0 := h.op.row hw.op
 have e2 : us.drop 103 = [qv] := by
  apply List.ext_getElem?
  intro i
  match i with
  | 0 => rw [List.getElem?_drop, h.c103]; rfl
  | i + 1 => rw [List.getElem?_eq_none (by rw [List.length_drop]; omega), List.getElem?_eq_none (by simp)]
 have e1 : us.drop 32 = opRow x.op pv wv bv ++ us.drop 103 := by
  have := (List.take_append_drop 71 (us.drop 32)).symm
  rwa [e0, List.drop_drop] at this
 have := (List.take_append_drop 32 us).symm
 rwa [h.id, e1, e2] at this
theorem held_val {G : AH} {x : HeldD} {pv wv bv qv : Value} (h1 : KsV G pv x.op.parents) (h2 : InV G wv x.op.who) (h3 : BxV G bv x.op.boxes) (h4 : KsV G qv x.got) : ValL G x.row (heldRow x pv wv bv qv) :=
 ValL.app (.kdv _) (ValL.app (op_val h1 h2 h3) (.one h4 .none))
theorem build_held {x : HeldD} {pv wv bv qv : Value} (hw : x.Wf) (h1 : notTuple qv = true) (h2 : qv.cells = #[qv]) : xbuild Try.prog 60 [(0, .agg (iv .u8 x.id).toArray), (1, .agg (opRow x.op pv wv bv).toArray), (2, qv)] = some (.agg (heldRow x pv wv bv qv).toArray) := by
 have hf : flds Try.prog 60 = some [(38, 0), (41, 32), (36, 103)] := by kernel_rfl
 obtain ⟨z, hz⟩ : ∃ z, zer Try.prog 60 = some z := by
  have : (zer Try.prog 60).isSome = true := by kernel_rfl
  exact Option.isSome_iff_exists.1 this
 have hzl : z.cells.toList.length = 104 := by
  have : (zer Try.prog 60).map (fun z => z.cells.toList.length) = some 104 := by kernel_rfl
  rw [hz] at this
  simpa using this
 have hzp : z.cells.toList.all plain1 = true := by
  have : (zer Try.prog 60).map (fun z => z.cells.toList.all plain1) = some true := by kernel_rfl
  rw [hz] at this
  simpa using this
 have s1 : szt Try.prog 38 = 32 := by kernel_rfl
 have s2 : szt Try.prog 41 = 71 := by kernel_rfl
 have s3 : szt Try.prog 36 = 1 := by kernel_rfl
 have hA : (iv .u8 x.id).length = 32 := by rw [iv_length]; exact hw.id.1
 have hB := opRow_len hw.op pv wv bv
 have hp := put3 (q := qv) hA hB hzl
 unfold xbuild
 simp only [hf, hz]
 rw [if_pos ⟨by simp [s1, s2, s3], hzp, by simp only [List.all_cons, List.all_nil, h1, Bool.and_true]; rfl⟩]
 generalize z.cells.toList = Z at *
 unfold heldRow
 generalize iv .u8 x.id = A at *
 generalize opRow x.op pv wv bv = B at *
 have c1 : (Value.agg A.toArray).cells = A.toArray := rfl
 have c2 : (Value.agg B.toArray).cells = B.toArray := rfl
 simp only [xfill, List.getElem?_cons_zero, List.getElem?_cons_succ, Option.map_some, s1, s2, s3, c1, c2, h2]
 rw [if_pos ⟨by simp [hA], by simp; omega⟩]
 rw [if_pos ⟨by simp [hB], by simp; omega⟩]
 rw [if_pos ⟨by simp, by simp; omega⟩]
 rw [hp]
def heldN (pv wv bv qv : Value) : Nat := 2 + opN pv wv bv + clN qv
def SmH (x : HeldD) : Prop := SmO x.op ∧ x.got.length ≤ 1000
def heldCp (x : HeldD) (pv wv bv qv : Value) (n : Nat) : List Value := heldRow x (opP pv (n + 2)) (opW pv wv (n + 2)) (opB pv wv bv (n + 2)) (clV qv (n + 2 + opN pv wv bv))
def DeepHd (H : AH) (x : HeldD) (pv wv bv qv : Value) (v' : Value) (H' : AH) : Prop :=
 v' = .agg (heldCp x pv wv bv qv H.length).toArray ∧ H'.length = H.length + heldN pv wv bv qv ∧ Low H.length H H' ∧ ∀ G, KeepN H.length H' G → ValL G x.row (heldCp x pv wv bv qv H.length)
theorem opRow_offH {x : HeldD} (hw : x.Wf) (pv wv bv qv : Value) : (heldRow x pv wv bv qv).take 32 = iv .u8 x.id ∧ ((heldRow x pv wv bv qv).drop 32).take 71 = opRow x.op pv wv bv ∧ (heldRow x pv wv bv qv)[103]? = some qv := by
 have hA : (iv .u8 x.id).length = 32 := by rw [iv_length]; exact hw.id.1
 have hB := opRow_len hw.op pv wv bv
 unfold heldRow
 refine ⟨?_, ?_, ?_⟩
 ·rw [List.take_append_of_le_length (by omega), List.take_of_length_le (by omega)]
 ·rw [List.drop_append_of_le_length (by omega), List.drop_of_length_le (by omega), List.nil_append, List.take_append_of_le_length (by omega), List.take_of_length_le (by omega)]
 ·rw [List.getElem?_append_right (by omega), List.getElem?_append_right (by omega), hA, hB]
  rfl
attribute [local simp] wb_bool wb_undef with_lit XL_nil XL_cons XLc_val XLc_call step1_eq stepW_t stepW_f stepC_n stepC_s stepX_s stepX_n stepN_s calleeX xrecv oneV xop_eq xopR_s xopR_n wantedA_eq wantedG_n wantedG_s plain1_int plain1_bool plain1_string bits_i64 bits_u64 bits_u32 bits_u16 bits_u8 xeqA xagg xcmp xarr allK_iv num_iv calleeOf xread xeff xbin xint xnil xun xstr xload xconv xpart xfield xfieldAddr xindexAddr xindex bnd asInt? xslice xlen xmin xmax xbuild xfill xappend xapp2 xappstr xappmk xcap xcopy xcells eval_tmp eval_const put_at put_none fr0_at cells_agg cells_int cells_bool cells_string cells_ptr cells_slice notTuple tab iv_all hget_app hget_app0 hget_cons0 hget_cons set_app set_app0 setR setR_one QL_nil QL_cons QLc_val stepQ_t stepQ_f stepQC_n stepQC_s stepQX_s SL_nil SL_cons SLc_val stepS_t stepS_f ltT ltF leT leF eqT eqF ltTn ltFn leTn leFn eqTn eqFn beqT beqF bneT bneF wi64 wu64 wu32 wu16 wu8 tmodP tdivP hgetL hgetNe hgetEq setL nums_def nums_len Nat.succ_le_of_lt List.getElem?_cons_zero List.getElem?_cons_succ Option.getD_some Int.toNat_add Int.toNat_mul agM okM agB agI agS agP agL agA okB okI okS okP okSl okA
theorem helds1_ac {nro : Nat} {γ : Nat → Option Nat} {H : AH} {us : List Value} {x : HeldD} {pv wv bv qv : Value} (h : HdC H us x pv wv bv qv) (hw : x.Wf) (hs : SmH x) (hnro : nro ≤ H.length) : AC Try.prog nro γ 138 #[.agg us.toArray] H (DeepHd H x pv wv bv qv) := by
 have hrow := h.row hw
 have hul := h.len
 obtain ⟨q1, q2, q3⟩ := opRow_offH hw pv wv bv qv
 rw [← hrow] at q1 q2 q3
 have hivl : (iv .u8 x.id).length = 32 := by rw [iv_length]; exact hw.id.1
 have hopl := opRow_len hw.op pv wv bv
 have hQ := h.got
 have nq := val_nt hQ
 have nq' := clV_nt hQ (H.length + 2 + opN pv wv bv)
 have hbl := build_held (pv := opP pv (H.length + 2)) (wv := opW pv wv (H.length + 2)) (bv := opB pv wv bv (H.length + 2)) hw nq'.1 nq'.2
 have hopC : ∀ G : AH, Low H.length H G → OpC G (opRow x.op pv wv bv) x.op pv wv bv := fun G hG => by
  have := h.op.low hG.1
  rwa [q2] at this
 have hr3l := heldRow_len hw (opP pv (H.length + 2)) (opW pv wv (H.length + 2)) (opB pv wv bv (H.length + 2)) (clV qv (H.length + 2 + opN pv wv bv))
 obtain ⟨R, hR⟩ : ∃ R, R = heldRow x (opP pv (H.length + 2)) (opW pv wv (H.length + 2)) (opB pv wv bv (H.length + 2)) (clV qv (H.length + 2 + opN pv wv bv)) := ⟨_, rfl⟩
 rw [← hR] at hbl hr3l
 have hset : ∀ Z : List Value, Z.length = 104 → setR Z 0 R = R := fun Z hZ => setR_all _ _ (by omega)
 have htk : R.take 104 = R := List.take_of_length_le (by omega)
 have hopv : notTuple (.agg (opRow x.op (opP pv (H.length + 2)) (opW pv wv (H.length + 2)) (opB pv wv bv (H.length + 2))).toArray) = true := rfl
 refine ac_of_aw Try.func138 rfl Try.ntmps138 Try.results138 (by simp) ?_
 refine aw_seq ?_
 (refine aw_ops (by kernel_rfl) (fun K hK => ?_); simp (disch := first | omega | (simp only [lnS]; try omega)) [-getElem?_pos, -getElem?_neg, hul, nt_aggG, all_zl]; refine hK _ _ ?_; clear hK K)
 obtain ⟨ZZ, hZZ, hZl⟩ : ∃ ZZ : List Value, (iv .u8 (zl 32) ++ Value.int .i64 0 :: .int .u32 0 :: .slice none 0 0 :: .int .i64 0 :: .slice none 0 0 :: (iv .u8 (zl 64) ++ [.string ByteArray.empty, .slice none 0 0, .slice none 0 0])) = ZZ ∧ ZZ.length = 104 := ⟨_, rfl, by simp⟩
 rw [hZZ]
 have hset := hset ZZ hZl
 obtain ⟨G, hG⟩ : ∃ G : AH, G = H ++ [some ⟨us, 60, none⟩, some ⟨ZZ, 60, none⟩] := ⟨_, rfl⟩
 have b1 : hget G H.length = some ⟨us, 60, none⟩ := by rw [hG, hget_app0]; rfl
 have b2 : hget G (H.length + 1) = some ⟨ZZ, 60, none⟩ := by rw [hG, hget_app]; rfl
 have lw : Low H.length H G := hG ▸ Low.push (Nat.le_refl _) _
 have gl : G.length = H.length + 2 := by simp [hG]
 rw [← hG]
 clear hG
 have kO := hopC G lw
 have kQ : KsV G qv x.got := CD.Val.low (fun j hj => lw.1 j hj) hQ
 have hcO := deepOp_ac (nro := nro) (γ := γ) kO hw.op hs.1 (by omega)
 unfold DeepO at hcO
 rw [gl] at hcO
 unfold DeepHd heldN heldCp
 obtain ⟨n, hn0⟩ : ∃ n, n = H.length := ⟨_, rfl⟩
 rw [← hR]
 rw [← hn0] at lw gl b1 b2 nq' hbl hR hnro hcO ⊢
 obtain ⟨ov, hov⟩ : ∃ ov, ov = opRow x.op (opP pv (n + 2)) (opW pv wv (n + 2)) (opB pv wv bv (n + 2)) := ⟨_, rfl⟩
 rw [← hov] at hcO hbl
 have hcells : R = iv .u8 x.id ++ (ov ++ [clV qv (n + 2 + opN pv wv bv)]) := by rw [hR, hov]; rfl
 refine aw_seq ?_
 obtain ⟨Φ, e0, e1, e2, e3, eS⟩ : ∃ Φ : Nat → AH → Prop, (∀ A, Φ 0 A ↔ A = G) ∧ (∀ A, Φ 1 A ↔ (A.length = n + 2 + opN pv wv bv ∧ Low (n + 2) G A ∧ NewO (n + 2) A x.op (opP pv (n + 2)) (opW pv wv (n + 2)) (opB pv wv bv (n + 2)))) ∧
   (∀ A, Φ 2 A ↔ (A.length = n + 2 + opN pv wv bv + clN qv ∧ Low (n + 2) G A ∧ NewO (n + 2) A x.op (opP pv (n + 2)) (opW pv wv (n + 2)) (opB pv wv bv (n + 2)) ∧ ∃ F, OwnF A (clV qv (n + 2 + opN pv wv bv)) 38 32 (ksC x.got) F ∧ ∀ j ∈ F, n + 2 ≤ j)) ∧
   (∀ A, Φ 3 A ↔ ∃ B, Φ 2 B ∧ A = B.set (n + 1) (some ⟨R, 60, none⟩)) ∧ (∀ s A, Φ s A → hget A n = hget G n) := by
  refine ⟨fun s A => match s with
   | 0 => A = G
   | 1 => A.length = n + 2 + opN pv wv bv ∧ Low (n + 2) G A ∧ NewO (n + 2) A x.op (opP pv (n + 2)) (opW pv wv (n + 2)) (opB pv wv bv (n + 2))
   | 2 => A.length = n + 2 + opN pv wv bv + clN qv ∧ Low (n + 2) G A ∧ NewO (n + 2) A x.op (opP pv (n + 2)) (opW pv wv (n + 2)) (opB pv wv bv (n + 2)) ∧ ∃ F, OwnF A (clV qv (n + 2 + opN pv wv bv)) 38 32 (ksC x.got) F ∧ ∀ j ∈ F, n + 2 ≤ j
   | _ => ∃ B : AH, (B.length = n + 2 + opN pv wv bv + clN qv ∧ Low (n + 2) G B ∧ NewO (n + 2) B x.op (opP pv (n + 2)) (opW pv wv (n + 2)) (opB pv wv bv (n + 2)) ∧ ∃ F, OwnF B (clV qv (n + 2 + opN pv wv bv)) 38 32 (ksC x.got) F ∧ ∀ j ∈ F, n + 2 ≤ j) ∧ A = B.set (n + 1) (some ⟨R, 60, none⟩), fun _ => Iff.rfl, fun _ => Iff.rfl, fun _ => Iff.rfl, fun _ => Iff.rfl, fun s A h => ?_⟩
  match s, h with
  | 0, h => cases h; rfl
  | 1, h => exact h.2.1.1 n (by omega)
  | 2, h => exact h.2.1.1 n (by omega)
  | s + 3, ⟨B, h, hA⟩ => rw [hA, hget_set_ne (by omega)]; exact h.2.1.1 n (by omega)
 refine aw_chain (fun j => j == n) Φ (by kernel_rfl) (by kernel_rfl) (by kernel_rfl) (fun s A h j hj => by
  have e : j = n := by simpa using hj
  rw [e]; exact eS s A h) ((e0 _).2 rfl) (fun K hK => ?_)
 simp (disch := first | omega | (simp only [lnS]; try omega)) [-getElem?_pos, -getElem?_neg, b1, hul, q1, q2, q3, hivl, hopl, -notTuple, nq.1, nq.2, nt_aggG, CL_nil, CL_cons, CLc_val, CLc_skip, memS, inS, inSp, isCallH, isCallU, isCallF, calleeH_f, calleeH_t, calleeH_i, effF]
 refine CLc_call (v := .agg ov.toArray) (by kernel_rfl) (fun A hA => ?_) ?_
 ·obtain rfl := (e0 _).1 hA
  exact hcO.mono fun v' A' h => ⟨h.1, (e1 _).2 ⟨h.2.1, h.2.2.1, h.2.2.2⟩⟩
 try simp (disch := first | omega | (simp only [lnS]; try omega)) [-getElem?_pos, -getElem?_neg, b1, hul, q1, q2, q3, hivl, hopl, -notTuple, nq.1, nq.2, nt_aggG, CL_nil, CL_cons, CLc_val, CLc_skip, memS, inS, inSp, isCallH, isCallU, isCallF, calleeH_f, calleeH_t, calleeH_i, effF]
 refine CLc_call (v := clV qv (n + 2 + opN pv wv bv)) (by kernel_rfl) (fun A hA => ?_) ?_
 ·obtain ⟨g1, g2, g3⟩ := (e1 _).1 hA
  have kQ2 : KsV A qv x.got := CD.Val.low (fun j hj => g2.1 j (by omega)) kQ
  refine (cloneK_ac (nro := nro) (γ := γ) kQ2 (fun k hk => (hw.got k hk).1) (by omega) (by have := hs.2; omega)).mono ?_
  rintro v' A' ⟨h1, h2, h3, F, h4, h5⟩
  rw [g1] at h1 h2 h3 h5
  refine ⟨h1, (e2 _).2 ⟨h2, ⟨fun j hj => (h3.1 j (by omega)).trans (g2.1 j hj), by have := h3.2; omega⟩, fun B hB => g3 B (KeepN.trans (fun j _ hj => h3.1 j (by omega)) hB (by have := h3.2; omega)), F, by rw [← h1]; exact h4, fun j hj => by have := h5 j hj; omega⟩⟩
 try simp (disch := first | omega | (simp only [lnS]; try omega)) [-getElem?_pos, -getElem?_neg, b1, hul, q1, q2, q3, hivl, hopl, -notTuple, nq'.1, nq'.2, nt_aggG, -xbuild, hbl, CL_nil, CL_cons, CLc_val, CLc_skip, memS, inS, inSp, isCallH, isCallU, isCallF, calleeH_f, calleeH_t, calleeH_i, effF]
 refine CLc_eff (v := undef) (fun A hA => ?_) ?_
 ·have hA2 := hA
  obtain ⟨g1, g2, g3, F, g4, g5⟩ := (e2 _).1 hA2
  have c2 : hget A (n + 1) = some ⟨ZZ, 60, none⟩ := (g2.1 (n + 1) (by omega)).trans b2
  refine ⟨_, ?_, (e3 _).2 ⟨A, hA, rfl⟩⟩
  simp (disch := first | omega | (simp only [lnS]; try omega)) [-getElem?_pos, -getElem?_neg, c2, hZl, hset, hr3l, nt_aggG]
 try simp (disch := first | omega | (simp only [lnS]; try omega)) [-getElem?_pos, -getElem?_neg, CL_nil, CL_cons, CLc_val, CLc_skip, memS, inS, inSp, isCallH, isCallU, isCallF, calleeH_f, calleeH_t, calleeH_i, effF]
 intro A hA
 obtain ⟨B, hB, rfl⟩ := (e3 _).1 hA
 obtain ⟨g1, g2, g3, F, g4, g5⟩ := (e2 _).1 hB
 have hFl := g4.lt
 have c2 : hget B (n + 1) = some ⟨ZZ, 60, none⟩ := (g2.1 (n + 1) (by omega)).trans b2
 have z1 : hget (B.set (n + 1) (some ⟨R, 60, none⟩)) (n + 1) = some ⟨R, 60, none⟩ := hget_set_eq (hget_lt c2)
 have z2 : ∀ j, j ≠ n + 1 → hget (B.set (n + 1) (some ⟨R, 60, none⟩)) j = hget B j := fun j hj => hget_set_ne (fun e => hj e.symm)
 have z3 : (B.set (n + 1) (some ⟨R, 60, none⟩)).length = B.length := by rw [List.length_set]
 generalize B.set (n + 1) (some ⟨R, 60, none⟩) = C at *
 refine hK _ _ ?_; clear hK K
 (refine aw_ret ?_; simp (disch := first | omega | (simp only [lnS]; try omega)) [-getElem?_pos, -getElem?_neg, thenQ_ret, scopeQ_ret, inBlockQ_ret, RQ, resL, resV, z1, hr3l, htk])
 refine ⟨⟨fun j hj => (z2 j (by omega)).trans ((g2.1 j (by omega)).trans (lw.1 j hj)), by have := lw.2; omega⟩, fun D hD => ?_⟩
 rw [hR]
 obtain ⟨k1, k2, k3⟩ := g3 D (fun j h1 h2 => (hD j (by omega) (by omega)).trans (z2 j (by omega)))
 have g4 := g4.low (H' := D) (fun j hj => (hD j (by have := g5 j hj; omega) (by have := hFl j hj; omega)).trans (z2 j (by have := g5 j hj; omega)))
 exact held_val k1 k2 k3 (own_val (by omega) g4 (kd_len (fun k hk => (hw.got k hk).1)) (kd_flat _))
theorem helds1_callable : callable Try.prog 138 = true := by kernel_rfl
def NewRowsH (n : Nat) (H : AH) (R : List (List Value)) (l : List HeldD) : Prop := R.length = l.length ∧ ∀ (k : Nat) (us : List Value) (x : HeldD), R[k]? = some us → l[k]? = some x → us.length = 104 ∧ ∀ G, KeepN n H G → ValL G x.row us
theorem NewRowsH.keep {n : Nat} {H G : AH} {R : List (List Value)} {l : List HeldD} (h : NewRowsH n H R l) (hk : KeepN n H G) (hl : H.length ≤ G.length) : NewRowsH n G R l :=
 ⟨h.1, fun k us x h1 h2 => ⟨(h.2 k us x h1 h2).1, fun B hB => (h.2 k us x h1 h2).2 B (hk.trans hB hl)⟩⟩
theorem NewRowsH.len {n : Nat} {H : AH} {R : List (List Value)} {l : List HeldD} (h : NewRowsH n H R l) : ∀ r ∈ R, r.length = 104 := fun r hr => by
 obtain ⟨k, hk⟩ := List.getElem?_of_mem hr
 have hkl := (List.getElem?_eq_some_iff.1 hk).1
 have := h.1
 exact (h.2 k r _ hk (List.getElem?_eq_getElem (show k < l.length by omega))).1
theorem NewRowsH.push {n : Nat} {H : AH} {R : List (List Value)} {l : List HeldD} {us : List Value} {x : HeldD} (h : NewRowsH n H R l) (h1 : us.length = 104) (h2 : ∀ G, KeepN n H G → ValL G x.row us) : NewRowsH n H (R ++ [us]) (l ++ [x]) := by
 have hl := h.1
 refine ⟨by simp [hl], fun k r y hr hy => ?_⟩
 rcases Nat.lt_or_ge k R.length with hk | hk
 ·rw [List.getElem?_append_left hk] at hr
  rw [List.getElem?_append_left (by omega)] at hy
  exact h.2 k r y hr hy
 ·rw [List.getElem?_append_right hk] at hr
  rw [List.getElem?_append_right (by omega)] at hy
  rw [hl] at hr
  match k - l.length, hr, hy with
  | 0, hr, hy => cases hr; cases hy; exact ⟨h1, h2⟩
theorem held_row_len {x : HeldD} (hw : x.Wf) : x.row.length = 104 := by
 have h1 := hw.id.1
 have h2 := hw.op.of.1
 have h3 := hw.op.check.1
 simp [HeldD.row, OpD.row, kd, h1, h2, h3]
theorem rows_valH {D : AH} {b : Nat} {T : TypeId} {es : Option Nat} {R : List (List Value)} {L : List HeldD} (hb : hget D b = some ⟨R.flatten, T, es⟩) (hl : R.length = L.length) (hw : ∀ x ∈ L, x.Wf) (h : ∀ (k : Nat) (us : List Value) (x : HeldD), R[k]? = some us → L[k]? = some x → us.length = 104 ∧ ValL D x.row us) : HdV D (.slice (some ⟨b, 0, none⟩) L.length L.length) L := by
 have hR : ∀ r ∈ R, r.length = 104 := fun r hr => by
  obtain ⟨k, hk⟩ := List.getElem?_of_mem hr
  have hkl := (List.getElem?_eq_some_iff.1 hk).1
  exact (h k r _ hk (List.getElem?_eq_getElem (show k < L.length by omega))).1
 have := CD.Val.sl (H := D) (sz := 104) (rows := L.map HeldD.row) hb (by rw [List.length_map]; show _ ≤ R.flatten.length; rw [fl_len hR, hl]; exact Nat.le_refl _) (fun row hr => by
  obtain ⟨x, hx, rfl⟩ := List.mem_map.1 hr
  exact held_row_len (hw x hx)) (fun i row c d v hi hc hv => by
  rw [List.getElem?_map] at hi
  cases hx : L[i]? with
  | none => rw [hx] at hi; cases hi
  | some x =>
   rw [hx] at hi
   cases hi
   have hil := (List.getElem?_eq_some_iff.1 hx).1
   obtain ⟨us, hus⟩ : ∃ us, R[i]? = some us := ⟨_, List.getElem?_eq_getElem (by omega)⟩
   obtain ⟨h1, h2⟩ := h i us x hus hx
   have hcl := (List.getElem?_eq_some_iff.1 hc).1
   have h2l := h2.1
   obtain ⟨u, hu⟩ : ∃ u, us[c]? = some u := ⟨_, List.getElem?_eq_getElem (by omega)⟩
   have hat := fl_at hR hus hu
   have hv' : R.flatten[i * 104 + c]? = some v := hv
   rw [hat] at hv'
   cases hv'
   exact h2.2 c d _ hc hu)
 rw [List.length_map] at this
 exact this
theorem eachH_ac {nro : Nat} {γ : Nat → Option Nat} {H : AH} {nv : Value} {l : List HeldD} (hN : HdA H nv l) (hl : l.length ≤ 1000) (hs : ∀ x ∈ l, SmH x) (hnro : nro ≤ H.length) (hcal : callable Try.prog 138 = true) :
  ∃ N : Nat, AC Try.prog nro γ 137 #[nv, .func (.func 138) #[] #[]] H (fun v' H' => v' = .slice (some ⟨H.length, 0, none⟩) l.length l.length ∧ H'.length = N ∧ Low H.length H H' ∧ ∃ R, NewRowsH (H.length + 1) H' R l ∧ hget H' H.length = some ⟨R.flatten, 60, some 104⟩) := by
 have hN' := hN
 obtain ⟨hnt, hvc, hxl, hwf, hat⟩ := hN
 obtain ⟨c, hc⟩ := Classical.skolem.1 (fun i : Nat => show ∃ N : Nat, ∀ x, l[i]? = some x → ∃ j q b us pv wv bv qv, xindexAddr Try.prog 58 nv (.int .i64 (i : Nat)) = some (.pointer (some ⟨j, q, none⟩)) ∧ hget H j = some b ∧ q + 104 ≤ b.cells.length ∧ us = (b.cells.drop q).take 104 ∧ HdC H us x pv wv bv qv ∧ heldN pv wv bv qv = N from by
  cases hi : l[i]? with
  | none => exact ⟨0, fun x hx => by cases hx⟩
  | some x =>
   obtain ⟨j, q, b, us, pv, wv, bv, qv, h1, h2, h3, h4, h5, h6⟩ := hat i x hi
   exact ⟨heldN pv wv bv qv, fun y hy => by cases hy; exact ⟨j, q, b, us, pv, wv, bv, qv, h1, h2, h3, h5, h6, rfl⟩⟩)
 have hm63 : l.length ≤ 9223372036854775807 := by omega
 have hfn : notTuple (.func (.func 138) #[] #[]) = true := rfl
 have hfc : (Value.func (.func 138) #[] #[]).cells = #[.func (.func 138) #[] #[]] := rfl
 refine ⟨H.length + 1 + ((List.range l.length).map fun i => c i + 1).sum, ?_⟩
 refine ac_of_aw Try.func137 rfl Try.ntmps137 Try.results137 (by simp) ?_
 refine aw_seq ?_
 (refine aw_ops (by kernel_rfl) (fun K hK => ?_); simp (disch := first | omega | (simp only [lnS]; try omega)) [-getElem?_pos, -getElem?_neg]; refine hK _ _ ?_; clear hK K)
 refine aw_seq ?_
 refine aw_ops (by kernel_rfl) (fun K hK => ?_)
 have hlm : l.length ≤ maxLen := by simp only [maxLen]; omega
 have hp0 : plain1 (.slice none 0 0) = true := rfl
 simp (disch := first | omega | (simp only [lnS]; try omega)) [-getElem?_pos, -getElem?_neg, -notTuple, hnt, hvc, hfn, hfc, nt_intG, -xlen, hxl, all_zl, hlm, hp0]
 refine hK _ _ ?_; clear hK K
 generalize hZZ : List.map (fun j => (iv .u8 (zl 32) ++ Value.int .i64 0 :: .int .u32 0 :: .slice none 0 0 :: .int .i64 0 :: .slice none 0 0 :: (iv .u8 (zl 64) ++ [.string ByteArray.empty, .slice none 0 0, .slice none 0 0]))[j % 104]?.getD undef) (List.range (l.length * 104)) = ZZ
 have hZl : ZZ.length = l.length * 104 := by rw [← hZZ]; simp
 clear hZZ
 obtain ⟨n, hn0⟩ : ∃ n, n = H.length := ⟨_, rfl⟩
 obtain ⟨G0, hG0⟩ : ∃ G : AH, G = H ++ [some ⟨ZZ, 60, some 104⟩] := ⟨_, rfl⟩
 have b0 : hget G0 n = some ⟨ZZ, 60, some 104⟩ := by rw [hG0, hn0, hget_app0]; rfl
 have lw0 : Low n H G0 := by rw [hG0, hn0]; exact Low.push (Nat.le_refl _) _
 have gl0 : G0.length = n + 1 := by rw [hG0, hn0]; simp
 rw [← hG0, ← hn0]
 rw [← hn0] at hnro
 clear hG0
 refine aw_seq ?_
 refine aw_seq ?_
 (refine aw_ops (by kernel_rfl) (fun K hK => ?_); simp (disch := first | omega | (simp only [lnS]; try omega)) [-getElem?_pos, -getElem?_neg, -notTuple, hnt, hvc, nt_intG, -xlen, hxl]; refine hK _ _ ?_; clear hK K)
 refine aw_block ?_
 refine aw_loop (fun q α G => ∃ (i : Nat) (R : List (List Value)), i + q = l.length ∧ α 0 = nv ∧ α 1 = .func (.func 138) #[] #[] ∧ α 5 = .slice (some ⟨n, 0, none⟩) l.length l.length ∧ α 11 = nv ∧ α 12 = .int .i64 (l.length : Nat) ∧ α 13 = .int .i64 (i : Nat) ∧ Low n H G ∧ G.length = n + 1 + ((List.range i).map fun i => c i + 1).sum ∧ hget G n = some ⟨R.flatten ++ ZZ.drop (i * 104), 60, some 104⟩ ∧ NewRowsH (n + 1) G R (l.take i)) l.length ?_ ?_
 ·exact ⟨0, [], by omega, by (first | (simp [put_at, put_none, fr0_at]; done) | rfl), by (first | (simp [put_at, put_none, fr0_at]; done) | rfl), by (first | (simp [put_at, put_none, fr0_at]; done) | rfl), by (first | (simp [put_at, put_none, fr0_at]; done) | rfl), by (first | (simp [put_at, put_none, fr0_at]; done) | rfl), by (first | (simp [put_at, put_none, fr0_at]; done) | rfl), lw0, by simp [gl0], by simpa using b0, ⟨by simp, fun k us x h => by simp at h⟩⟩
 rintro q α G ⟨i, R, hiq, h0, h1, h5, h11, h12, h13, hlow, hgl, hout, hrows⟩
 refine aw_seq ?_
 by_cases hi : i < l.length
 case neg =>
  (refine aw_ops (by kernel_rfl) (fun K hK => ?_); simp (disch := first | omega | (simp only [lnS]; try omega)) [-getElem?_pos, -getElem?_neg, h12, h13, hi]; refine hK _ _ ?_; clear hK K)
  refine aw_seq ?_
  refine aw_f (by (first | (simp [eval_tmp, put_at, hi]; done) | (simp [eval_tmp, put_at, hi]; omega))) (by kernel_rfl) ?_
  refine aw_exit ?_
  obtain rfl : i = l.length := by omega
  rw [List.drop_of_length_le (by omega), List.append_nil] at hout
  rw [List.take_length] at hrows
  refine aw_seq ?_
  (refine aw_ops (by kernel_rfl) (fun K hK => ?_); simp (disch := first | omega | (simp only [lnS]; try omega)) [-getElem?_pos, -getElem?_neg, h5]; refine hK _ _ ?_; clear hK K)
  (refine aw_ret ?_; simp (disch := first | omega | (simp only [lnS]; try omega)) [-getElem?_pos, -getElem?_neg, thenQ_ret, scopeQ_ret, inBlockQ_ret, RQ, resL, resV])
  exact ⟨hlow, R, hrows, hout⟩
 obtain ⟨j, qq, bb, us, pv, wv', bv, qv, hx, hbb, hq, hus, hC, hcn⟩ := hc i _ (hn_get hi)
 have hbG : hget G j = some bb := (hlow.1 j (by have := hget_lt hbb; omega)).trans hbb
 have hul := hC.len
 have hxw := hwf _ (List.mem_of_getElem? (hn_get hi))
 have hxs := hs _ (List.mem_of_getElem? (hn_get hi))
 have hus' := hus.symm
 clear hus
 have hset2 : ∀ Z : List Value, Z.length = 104 → setR Z 0 us = us := fun Z hZ => setR_all _ _ (by omega)
 have hle0 := hlow.2
 have hRl := hrows.1
 rw [List.length_take] at hRl
 have hRl : R.length = i := by omega
 (refine aw_ops (by kernel_rfl) (fun K hK => ?_); simp (disch := first | omega | (simp only [lnS]; try omega)) [-getElem?_pos, -getElem?_neg, h12, h13, hi]; refine hK _ _ ?_; clear hK K)
 refine aw_seq ?_
 refine aw_t (by (first | (simp [eval_tmp, put_at, hi]; done) | (simp [eval_tmp, put_at, hi]; omega))) (by kernel_rfl) ?_
 refine aw_skip ?_
 refine aw_seq ?_
 refine aw_block ?_
 refine aw_seq ?_
 (refine aw_ops (by kernel_rfl) (fun K hK => ?_); simp (disch := first | omega | (simp only [lnS]; try omega)) [-getElem?_pos, -getElem?_neg, h11, h13, -notTuple, hnt, hvc, nt_intG, nt_aggG, -xindexAddr, hx, hbG, hus', hul, hq, hle0, hp0, all_zl, hset2]; refine hK _ _ ?_; clear hK K)
 obtain ⟨hlow2, hb2⟩ := boxed (H := G) us 60
 have hout2 := hget_left' (L := [some ⟨us, 60, none⟩]) hout
 have hgl2 : (G ++ ([some ⟨us, 60, none⟩] : AH)).length = G.length + 1 := by simp
 obtain ⟨g, hg⟩ : ∃ g, g = G.length := ⟨_, rfl⟩
 rw [← hg] at hb2 hgl2 hlow2 hle0 hgl ⊢
 have hrows := hrows.keep (G := G ++ ([some ⟨us, 60, none⟩] : AH)) (fun j _ hj => hlow2.1 j (by omega)) (by omega)
 generalize G ++ [some ⟨us, 60, none⟩] = G2 at *
 have hlowG2 : Low n H G2 := ⟨fun j hj => (hlow2.1 j (by omega)).trans (hlow.1 j hj), by omega⟩
 have hC2 : HdC G2 us (hn l i) pv wv' bv qv := hC.low (fun j hj => hlowG2.1 j (by omega))
 have hcn1 := helds1_ac (nro := nro) (γ := γ) hC2 hxw hxs (by omega)
 have htk : us.take 104 = us := List.take_of_length_le (by omega)
 have hsuc : (List.map (fun i => c i + 1) (List.range (i + 1))).sum = (List.map (fun i => c i + 1) (List.range i)).sum + (c i + 1) := by
  rw [List.range_succ, List.map_append, List.sum_append]
  simp
 have hng : n < g := by omega
 refine aw_ops (by kernel_rfl) (fun K hK => ?_)
 simp (disch := first | omega | (simp only [lnS]; try omega)) [-getElem?_pos, -getElem?_neg, h5, h1, -notTuple, hnt, hvc, hfn, hfc, nt_intG, nt_aggG, nt_slG, hb2, hul, htk]
 refine ⟨hcal, hcn1.mono ?_⟩
 rintro v1 G3 ⟨rfl, l1, w1, r1⟩
 rw [hgl2] at l1 w1 r1 ⊢
 have hle3 := w1.2
 have hout3 := (w1.1 n (by omega)).trans hout2
 have hrl := heldRow_len hxw (opP pv (g + 1 + 2)) (opW pv wv' (g + 1 + 2)) (opB pv wv' bv (g + 1 + 2)) (clV qv (g + 1 + 2 + opN pv wv' bv))
 have hput := row_put (Z := ZZ.drop (i * 104)) (us := heldCp (hn l i) pv wv' bv qv (g + 1)) hrows.len hRl hrl (by rw [List.length_drop]; omega)
 rw [List.drop_drop, show i * 104 + 104 = (i + 1) * 104 by omega] at hput
 have hrows3 := (hrows.keep (G := G3) (fun j _ hj => w1.1 j (by omega)) (by omega)).push (us := heldCp (hn l i) pv wv' bv qv (g + 1)) hrl (fun B hB => r1 B (fun j h1 h2 => hB j (by omega) h2))
 have hrl : (heldCp (hn l i) pv wv' bv qv (g + 1)).length = 104 := hrl
 have hcl : (R.flatten ++ ZZ.drop (i * 104)).length = l.length * 104 := by
  rw [List.length_append, fl_len hrows.len, List.length_drop, hRl]; omega
 generalize heldCp (hn l i) pv wv' bv qv (g + 1) = us' at *
 generalize hCe : R.flatten ++ ZZ.drop (i * 104) = C at *
 generalize hCe2 : (R ++ [us']).flatten ++ ZZ.drop ((i + 1) * 104) = C' at *
 simp (disch := first | omega | (simp only [lnS]; try omega)) [-getElem?_pos, -getElem?_neg, hout3, hcl, hrl, hput, nt_aggG, hi]
 refine hK _ _ ?_; clear hK K
 have z1 : hget (G3.set n (some ⟨C', 60, some 104⟩)) n = some ⟨C', 60, some 104⟩ := hget_set_eq (hget_lt hout3)
 have z2 : ∀ j, j ≠ n → hget (G3.set n (some ⟨C', 60, some 104⟩)) j = hget G3 j := fun j hj => hget_set_ne (fun e => hj e.symm)
 have z3 : (G3.set n (some ⟨C', 60, some 104⟩)).length = G3.length := by rw [List.length_set]
 have hrows4 := hrows3.keep (G := G3.set n (some ⟨C', 60, some 104⟩)) (fun j h1 h2 => z2 j (by omega)) (by omega)
 generalize G3.set n (some ⟨C', 60, some 104⟩) = G4 at *
 have htk2 : l.take i ++ [hn l i] = l.take (i + 1) := by rw [List.take_add_one, hn_get hi]; rfl
 rw [htk2] at hrows4
 subst hCe2
 (refine aw_ops (by kernel_rfl) (fun K hK => ?_); simp (disch := first | omega | (simp only [lnS]; try omega)) [-getElem?_pos, -getElem?_neg, h13]; refine hK _ _ ?_; clear hK K)
 exact ⟨q - 1, by omega, i + 1, R ++ [us'], by omega, by (first | (simp [put_at, put_none, fr0_at, h0]; done) | rfl), by (first | (simp [put_at, put_none, fr0_at, h1]; done) | rfl), by (first | (simp [put_at, put_none, fr0_at, h5]; done) | rfl), by (first | (simp [put_at, put_none, fr0_at, h11]; done) | rfl), by (first | (simp [put_at, put_none, fr0_at, h12]; done) | rfl), by (first | (simp [put_at, put_none, fr0_at]; done) | rfl), ⟨fun j hj => (z2 j (by omega)).trans ((w1.1 j (by omega)).trans (hlowG2.1 j hj)), by omega⟩, by rw [hsuc]; omega, z1, hrows4⟩
theorem deepHeld_ac {nro : Nat} {γ : Nat → Option Nat} {H : AH} {nv : Value} {l : List HeldD} (hN : HdA H nv l) (hl : l.length ≤ 1000) (hs : ∀ x ∈ l, SmH x) (hnro : nro ≤ H.length) :
  ∃ N : Nat, AC Try.prog nro γ 86 #[nv] H (fun v' H' => v' = .slice (some ⟨H.length, 0, none⟩) l.length l.length ∧ H'.length = N ∧ Low H.length H H' ∧ ∃ R, NewRowsH (H.length + 1) H' R l ∧ hget H' H.length = some ⟨R.flatten, 60, some 104⟩) := by
 obtain ⟨N, hE⟩ := eachH_ac (nro := nro) (γ := γ) hN hl hs hnro helds1_callable
 obtain ⟨hnt, hvc, hxl, hwf, hat⟩ := hN
 have hfn : notTuple (.func (.func 138) #[] #[]) = true := rfl
 have hfc : (Value.func (.func 138) #[] #[]).cells = #[.func (.func 138) #[] #[]] := rfl
 refine ⟨N, ?_⟩
 refine ac_of_aw Try.func86 rfl Try.ntmps86 Try.results86 (by simp) ?_
 refine aw_seq ?_
 (refine aw_ops (by kernel_rfl) (fun K hK => ?_); simp (disch := first | omega | (simp only [lnS]; try omega)) [-getElem?_pos, -getElem?_neg]; refine hK _ _ ?_; clear hK K)
 refine aw_seq ?_
 refine aw_ops (by kernel_rfl) (fun K hK => ?_)
 simp (disch := first | omega | (simp only [lnS]; try omega)) [-getElem?_pos, -getElem?_neg, -notTuple, hnt, hvc, hfn, hfc, eval_fnG]
 refine ⟨by kernel_rfl, hE.mono ?_⟩
 rintro v1 G1 ⟨rfl, h1, h2, h3⟩
 try simp (disch := first | omega | (simp only [lnS]; try omega)) [-getElem?_pos, -getElem?_neg]
 refine hK _ _ ?_; clear hK K
 (refine aw_ret ?_; simp (disch := first | omega | (simp only [lnS]; try omega)) [-getElem?_pos, -getElem?_neg, thenQ_ret, scopeQ_ret, inBlockQ_ret, RQ, resL, resV])
 exact ⟨h2, h3⟩
end
section
def NewGH (n : Nat) (H : AH) (v : Value) (l : List HeldD) : Prop := ∀ G, KeepN n H G → HdV G v l
theorem NewGH.sh {n : Nat} {H : AH} {v : Value} {l : List HeldD} (h : NewGH n H v l) : notTuple v = true ∧ v.cells = #[v] := val_nt (h H (fun _ _ _ => rfl))
def putE (q : List HeldD) (x : HeldD) : Int := if (rightQ q && rightO x.op) = false then 1 else if 0 ≤ findIH q q.length x.id then 13 else if q.length = 24 then 8 else 0
def PutR (q : List HeldD) (x : HeldD) (H : AH) (v' : Value) (H' : AH) : Prop :=
 Low H.length H H' ∧ ∃ sv, v' = .tuple #[sv, .int .i64 (putE q x)] ∧ ((putE q x = 0 ∧ NewGH H.length H' sv (q ++ [x])) ∨ (putE q x ≠ 0 ∧ sv = .slice none 0 0))
theorem PutR.bad {q : List HeldD} {x : HeldD} {H H' : AH} {z : Int} (hl : Low H.length H H') (h : putE q x = z) (hz : z ≠ 0) : Low H.length H H' ∧ ∃ sv, (Value.slice none 0 0 = sv ∧ z = putE q x) ∧ ((putE q x = 0 ∧ NewGH H.length H' sv (q ++ [x])) ∨ (putE q x ≠ 0 ∧ sv = .slice none 0 0)) :=
 ⟨hl, _, ⟨rfl, h.symm⟩, .inr ⟨by rw [h]; exact hz, rfl⟩⟩
theorem rightQ_smH {q : List HeldD} (h : rightQ q = true) (hg : ∀ x ∈ q, x.got.length ≤ 1000) : ∀ x ∈ q, SmH x := fun x hx => by
 obtain ⟨i, hi, rfl⟩ := List.mem_iff_getElem.1 hx
 unfold rightQ at h
 rw [Bool.and_eq_true, List.all_eq_true] at h
 have h1 := h.2 i (List.mem_range.2 hi)
 unfold oneQ at h1
 rw [Bool.and_eq_true] at h1
 have e : hn q i = q[i] := hn_eq (List.getElem?_eq_getElem hi)
 rw [e] at h1
 have := rightO_sm h1.2
 exact ⟨⟨by omega, by omega, by omega⟩, hg _ hx⟩
theorem rightQ_len {q : List HeldD} (h : rightQ q = true) : q.length ≤ 24 := by
 unfold rightQ at h
 rw [Bool.and_eq_true, decide_eq_true_eq] at h
 exact h.1
attribute [local simp] wb_bool wb_undef with_lit XL_nil XL_cons XLc_val XLc_call step1_eq stepW_t stepW_f stepC_n stepC_s stepX_s stepX_n stepN_s calleeX xrecv oneV xop_eq xopR_s xopR_n wantedA_eq wantedG_n wantedG_s plain1_int plain1_bool plain1_string bits_i64 bits_u64 bits_u32 bits_u16 bits_u8 xeqA xagg xcmp xarr allK_iv num_iv calleeOf xread xeff xbin xint xnil xun xstr xload xconv xpart xfield xfieldAddr xindexAddr xindex bnd asInt? xslice xlen xmin xmax xbuild xfill xappend xapp2 xappstr xappmk xcap xcopy xcells eval_tmp eval_const put_at put_none fr0_at cells_agg cells_int cells_bool cells_string cells_ptr cells_slice notTuple tab iv_all hget_app hget_app0 hget_cons0 hget_cons set_app set_app0 setR setR_one QL_nil QL_cons QLc_val stepQ_t stepQ_f stepQC_n stepQC_s stepQX_s SL_nil SL_cons SLc_val stepS_t stepS_f ltT ltF leT leF eqT eqF ltTn ltFn leTn leFn eqTn eqFn beqT beqF bneT bneF wi64 wu64 wu32 wu16 wu8 tmodP tdivP hgetL hgetNe hgetEq setL nums_def nums_len Nat.succ_le_of_lt List.getElem?_cons_zero List.getElem?_cons_succ Option.getD_some Int.toNat_add Int.toNat_mul agM okM agB agI agS agP agL agA okB okI okS okP okSl okA
theorem held_app {nro n L0 L1 : Nat} {A : AH} {R R1 : List (List Value)} {l : List HeldD} {x : HeldD} (hnro : nro ≤ L0) (hnL : n ≤ L0) (hL : L0 < L1) (b0 : hget A L0 = some ⟨R.flatten, 60, some 104⟩) (b1 : hget A L1 = some ⟨R1.flatten, 60, some 104⟩) (h0 : NewRowsH (L0 + 1) A R l) (h1 : NewRowsH (L1 + 1) A R1 [x]) (hl : l.length ≤ 1000) (hw : ∀ y ∈ l ++ [x], y.Wf) :
  ∃ v' H', xappend Try.prog nro 58 (.slice (some ⟨L0, 0, none⟩) l.length l.length) (.slice (some ⟨L1, 0, none⟩) 1 1) A = some (v', H') ∧ NewGH n H' v' (l ++ [x]) ∧ (∀ j, j < L0 → hget H' j = hget A j) ∧ A.length ≤ H'.length := by
 have hRl := fl_len h0.len
 rw [h0.1] at hRl
 obtain ⟨r1, rfl⟩ : ∃ r, R1 = [r] := by
  have := h1.1
  match R1, this with
  | [r], _ => exact ⟨r, rfl⟩
 have hr1 := h1.2 0 r1 x rfl rfl
 have hfl : [r1].flatten = r1 := by simp
 rw [hfl] at b1
 have hrl := hr1.1
 have htr : r1.take 104 = r1 := List.take_of_length_le (by omega)
 have hxc : xcells 104 (.slice (some ⟨L1, 0, none⟩) 1 1) A = some r1 := by simp [xcells, b1, hrl, htr]
 obtain ⟨v', H', hap, ho, hl', hk'⟩ := ownF_append (P := Try.prog) (nro := nro) (t := 58) (e := 60) (H := A) (v := .slice (some ⟨L0, 0, none⟩) l.length l.length) (x := .slice (some ⟨L1, 0, none⟩) 1 1) (sz := 104) (cells := R.flatten) (news := r1) (F := [L0]) (by simp) (by simp) (by omega) (by simp) (.inr ⟨L0, l.length, rfl, b0, hRl, rfl⟩)
  (fun j hj => by simp at hj; omega) (fun s e => by cases e) hxc (fun e => by rw [e] at hrl; simp at hrl) (by rw [hrl]) (by rw [hRl, hrl]; simp; omega) (by rw [hRl, hrl]; simp only [maxLen]; omega)
 have g0 := hget_lt b0
 have g1 := hget_lt b1
 obtain ⟨len, rfl⟩ := ho.new
 have hlen : len = l.length + 1 := by
  rcases ho with ⟨h, _, _⟩ | ⟨i, k, he, _, h3, _⟩
  ·cases h
  ·cases he
   rw [List.length_append, hRl, hrl] at h3
   omega
 subst hlen
 have hnew : hget H' A.length = some ⟨R.flatten ++ r1, 60, some 104⟩ := by
  rcases ho with ⟨h, _, _⟩ | ⟨i, k, he, h2, _, _⟩
  ·cases h
  ·cases he; exact h2
 have hold : ∀ j, j < A.length → j ≠ L0 → hget H' j = hget A j := fun j hj hn => hk' j hj (by simpa using hn)
 refine ⟨_, H', hap, fun D hD => ?_, fun j hj => hold j (by omega) (by omega), by omega⟩
 have hD2 : ∀ j, L0 + 1 ≤ j → j < A.length → hget D j = hget A j := fun j h1 h2 => (hD j (by omega) (by omega)).trans (hold j h2 (by omega))
 have hfin := rows_valH (D := D) (b := A.length) (T := 60) (es := some 104) (R := R ++ [r1]) (L := l ++ [x]) (by rw [hD A.length (by omega) (by omega), hnew]; simp) (by simp [h0.1]) hw (fun k us' y hk hy => by
  rcases Nat.lt_or_ge k l.length with hkl | hkl
  ·rw [List.getElem?_append_left (by rw [h0.1]; exact hkl)] at hk
   rw [List.getElem?_append_left hkl] at hy
   have := h0.2 k us' y hk hy
   exact ⟨this.1, this.2 D (fun j h1 h2 => hD2 j h1 h2)⟩
  ·rw [List.getElem?_append_right (by rw [h0.1]; exact hkl), h0.1] at hk
   rw [List.getElem?_append_right hkl] at hy
   match k - l.length, hk, hy with
   | 0, hk, hy => cases hk; cases hy; exact ⟨hrl, hr1.2 D (fun j h1 h2 => hD2 j (by omega) h2)⟩)
 rw [List.length_append] at hfin
 exact hfin
theorem put_rc {γ : Nat → Option Nat} {H : AH} {qv : Value} {l : List HeldD} {us : List Value} {x : HeldD} {pv wv bv kv : Value} (hQ : HdA H qv l) (hC : HdC H us x pv wv bv kv) (hw : x.Wf) (hl : l.length ≤ maxLen) (hg : ∀ y ∈ l, y.got.length ≤ 1000) (hgx : x.got.length ≤ 1000) : AC Try.prog H.length γ 37 #[qv, .agg us.toArray] H (PutR l x H) := by
 have q1 := hQ.nt
 have q2 := hQ.cs
 have hxl := hQ.len
 have hul := hC.len
 have hset : ∀ Z : List Value, Z.length = 104 → setR Z 0 us = us := fun Z hZ => setR_all _ _ (by omega)
 have hset2 : ∀ g : Nat → Value, setR (List.map g (List.range 104)) 0 us = us := fun g => hset _ (by simp)
 have hp0 : plain1 (.slice none 0 0) = true := rfl
 have htu : us.take 104 = us := List.take_of_length_le (by omega)
 have hivl : (iv .u8 x.id).length = 32 := by rw [iv_length, hw.id.1]
 have hid := hC.id
 have hcop := hC.op.len
 obtain ⟨n, hn0⟩ : ∃ n, n = H.length := ⟨_, rfl⟩
 unfold PutR
 refine ac_of_aw Try.func37 rfl Try.ntmps37 Try.results37 (by simp) ?_
 refine aw_seq ?_
 (refine aw_ops (by kernel_rfl) (fun K hK => ?_); simp (disch := first | omega | (simp only [lnS]; try omega)) [-getElem?_pos, -getElem?_neg, -notTuple, q1, q2, hul, nt_aggG, hp0, all_zl, hset, htu]; refine hK _ _ ?_; clear hK K)
 obtain ⟨lw, b3⟩ := boxed (H := H) us 60
 rw [← hn0] at b3
 have gl : (H ++ ([some ⟨us, 60, none⟩] : AH)).length = n + 1 := by simp [hn0]
 have hptr : Value.pointer (some ⟨H.length, 0, none⟩) = .pointer (some ⟨n, 0, none⟩) := by rw [hn0]
 generalize H ++ [some ⟨us, 60, none⟩] = G at *
 have hQG := hQ.lowG lw
 have hCG := hC.low lw.1
 have qr := qRight_rc (γ := γ) hQG hl
 have ro := right_rc (γ := γ) hCG.op hw.op
 have fi := qfind_rc (γ := γ) hQG hl hw.id.1
 have k0 : putE l x = if (rightQ l && rightO x.op) = false then 1 else if 0 ≤ findIH l l.length x.id then 13 else if l.length = 24 then 8 else 0 := rfl
 rw [hptr]
 refine aw_seq ?_
 refine aw_block ?_
 refine aw_seq ?_
 refine aw_cut (fun α G2 => α 6 = .bool (!(rightQ l && rightO x.op)) ∧ α 0 = qv ∧ α 3 = .pointer (some ⟨n, 0, none⟩) ∧ G2 = G) ?_ ?_
 ·refine aw_seq ?_
  refine aw_ops (by kernel_rfl) (fun K hK => ?_)
  simp (disch := first | omega | (simp only [lnS]; try omega)) [-getElem?_pos, -getElem?_neg, -notTuple, q1, q2, nt_intG]
  refine ⟨by kernel_rfl, ac_of_rc qr (by simp [pv_iv, pv_int, pv_bool, pv_string, pv_tup2, pv_tup3, iv_plain, p2_int, p2_bool, p2_string]) ?_⟩
  cases hq : rightQ l with
  | false =>
   try simp (disch := first | omega | (simp only [lnS]; try omega)) [-getElem?_pos, -getElem?_neg]
   refine hK _ _ ?_; clear hK K
   refine aw_t (by (first | (simp [eval_tmp, put_at]; done) | (simp [eval_tmp, put_at]; omega))) (by kernel_rfl) ?_
   refine aw_skip ?_
   exact ⟨by rw [hq]; (first | (simp [put_at, put_none, fr0_at]; done) | rfl), by (first | (simp [put_at, put_none, fr0_at]; done) | rfl), by (first | (simp [put_at, put_none, fr0_at]; done) | rfl), rfl⟩
  | true =>
   try simp (disch := first | omega | (simp only [lnS]; try omega)) [-getElem?_pos, -getElem?_neg]
   refine hK _ _ ?_; clear hK K
   refine aw_f (by (first | (simp [eval_tmp, put_at]; done) | (simp [eval_tmp, put_at]; omega))) (by kernel_rfl) ?_
   refine aw_ops (by kernel_rfl) (fun K hK => ?_)
   simp (disch := first | omega | (simp only [lnS]; try omega)) [-getElem?_pos, -getElem?_neg, b3, hul, hcop, nt_intG, nt_aggG]
   refine ⟨by kernel_rfl, ac_of_rc ro (by simp [pv_iv, pv_int, pv_bool, pv_string, pv_tup2, pv_tup3, iv_plain, p2_int, p2_bool, p2_string]) ?_⟩
   try simp (disch := first | omega | (simp only [lnS]; try omega)) [-getElem?_pos, -getElem?_neg]
   refine hK _ _ ?_; clear hK K
   exact ⟨by rw [hq]; (first | (simp [put_at, put_none, fr0_at]; done) | rfl), by (first | (simp [put_at, put_none, fr0_at]; done) | rfl), by (first | (simp [put_at, put_none, fr0_at]; done) | rfl), rfl⟩
 rintro α G2 ⟨q6, q0, q3, rfl⟩
 have lwn : Low H.length H G2 := lw
 cases hb : (rightQ l && rightO x.op) with
 | false =>
  rw [hb] at q6
  refine aw_t (by (first | (simp [eval_tmp, put_at, q6]; done) | (simp [eval_tmp, put_at, q6]; omega))) (by kernel_rfl) ?_
  refine aw_seq ?_
  (refine aw_ops (by kernel_rfl) (fun K hK => ?_); simp (disch := first | omega | (simp only [lnS]; try omega)) [-getElem?_pos, -getElem?_neg, nt_slG, nt_intG]; refine hK _ _ ?_; clear hK K)
  (refine aw_ret ?_; simp (disch := first | omega | (simp only [lnS]; try omega)) [-getElem?_pos, -getElem?_neg, thenQ_ret, scopeQ_ret, inBlockQ_ret, RQ, resL, resV])
  exact PutR.bad lw (by rw [k0, hb, if_pos rfl]) (by decide)
 | true =>
 rw [hb] at q6
 rw [hb, if_neg (by simp)] at k0
 refine aw_f (by (first | (simp [eval_tmp, put_at, q6]; done) | (simp [eval_tmp, put_at, q6]; omega))) (by kernel_rfl) ?_
 obtain ⟨hq, hro⟩ := Bool.and_eq_true_iff.1 hb
 refine aw_seq ?_
 refine aw_ops (by kernel_rfl) (fun K hK => ?_)
 simp (disch := first | omega | (simp only [lnS]; try omega)) [-getElem?_pos, -getElem?_neg, q0, q3, b3, hul, hid, hivl, -notTuple, q1, q2, nt_intG, nt_aggG]
 refine ⟨by kernel_rfl, ac_of_rc fi (by simp [pv_iv, pv_int, pv_bool, pv_string, pv_tup2, pv_tup3, iv_plain, p2_int, p2_bool, p2_string]) ?_⟩
 generalize findIH l l.length x.id = f at *
 by_cases hf : 0 ≤ f
 ·try simp (disch := first | omega | (simp only [lnS]; try omega)) [-getElem?_pos, -getElem?_neg, hf]
  refine hK _ _ ?_; clear hK K
  refine aw_t (by (first | (simp [eval_tmp, put_at]; done) | (simp [eval_tmp, put_at]; omega))) (by kernel_rfl) ?_
  refine aw_seq ?_
  (refine aw_ops (by kernel_rfl) (fun K hK => ?_); simp (disch := first | omega | (simp only [lnS]; try omega)) [-getElem?_pos, -getElem?_neg, nt_slG, nt_intG]; refine hK _ _ ?_; clear hK K)
  (refine aw_ret ?_; simp (disch := first | omega | (simp only [lnS]; try omega)) [-getElem?_pos, -getElem?_neg, thenQ_ret, scopeQ_ret, inBlockQ_ret, RQ, resL, resV])
  first | exact lw | exact PutR.bad lw (by rw [k0, if_pos hf]) (by decide)
 rw [if_neg hf] at k0
 try simp (disch := first | omega | (simp only [lnS]; try omega)) [-getElem?_pos, -getElem?_neg, hf]
 refine hK _ _ ?_; clear hK K
 refine aw_f (by (first | (simp [eval_tmp, put_at]; done) | (simp [eval_tmp, put_at]; omega))) (by kernel_rfl) ?_
 refine aw_seq ?_
 by_cases h24 : l.length = 24
 ·have h24b : ((l.length : Int) == 24) = true := by rw [beq_iff_eq]; omega
  have h24i : (l.length : Int) = 24 := by omega
  (refine aw_ops (by kernel_rfl) (fun K hK => ?_); simp (disch := first | omega | (simp only [lnS]; try omega)) [-getElem?_pos, -getElem?_neg, q0, -notTuple, q1, q2, nt_intG, -xlen, hxl, h24i, h24b]; refine hK _ _ ?_; clear hK K)
  refine aw_t (by (first | (simp [eval_tmp, put_at]; done) | (simp [eval_tmp, put_at]; omega))) (by kernel_rfl) ?_
  refine aw_seq ?_
  (refine aw_ops (by kernel_rfl) (fun K hK => ?_); simp (disch := first | omega | (simp only [lnS]; try omega)) [-getElem?_pos, -getElem?_neg, nt_slG, nt_intG]; refine hK _ _ ?_; clear hK K)
  (refine aw_ret ?_; simp (disch := first | omega | (simp only [lnS]; try omega)) [-getElem?_pos, -getElem?_neg, thenQ_ret, scopeQ_ret, inBlockQ_ret, RQ, resL, resV])
  first | exact lw | exact PutR.bad lw (by rw [k0, if_pos h24]) (by decide)
 have h24b : ((l.length : Int) == 24) = false := by rw [beq_eq_false_iff_ne]; omega
 have h24i : ¬ (l.length : Int) = 24 := by omega
 rw [if_neg h24] at k0
 (refine aw_ops (by kernel_rfl) (fun K hK => ?_); simp (disch := first | omega | (simp only [lnS]; try omega)) [-getElem?_pos, -getElem?_neg, q0, -notTuple, q1, q2, nt_intG, -xlen, hxl, h24i, h24b]; refine hK _ _ ?_; clear hK K)
 refine aw_f (by (first | (simp [eval_tmp, put_at]; done) | (simp [eval_tmp, put_at]; omega))) (by kernel_rfl) ?_
 refine aw_skip ?_
 have hsm := rightQ_smH hq hg
 have hxs : SmH x := by
  have := rightO_sm hro
  exact ⟨⟨by omega, by omega, by omega⟩, hgx⟩
 have hwx : ∀ y ∈ l ++ [x], y.Wf := fun y hy => by
  rcases List.mem_append.1 hy with hy | hy
  ·exact hQ.wf y hy
  ·rw [List.mem_singleton] at hy; subst hy; exact hw
 have hl24 := rightQ_len hq
 have hval : ∀ D, Low G2.length G2 D → ValL D x.row us := fun D hD => by
  have h := hCG.low hD.1
  rw [h.row hw]
  exact held_val h.op.parents h.op.who h.op.boxes h.got
 have hone : ∀ (D : AH) (b : Nat), Low G2.length G2 D → hget D b = some ⟨us, 60, some 104⟩ → HdA D (.slice (some ⟨b, 0, none⟩) 1 1) [x] := fun D b hD hb => by
  have := rows_valH (D := D) (b := b) (T := 60) (es := some 104) (R := [us]) (L := [x]) (by simpa using hb) rfl (fun y hy => by rw [List.mem_singleton] at hy; subst hy; exact hw) (fun k us' y hk hy => by
   match k, hk, hy with
   | 0, hk, hy => cases hk; cases hy; exact ⟨hul, hval D hD⟩)
  exact this.hda (fun y hy => by rw [List.mem_singleton] at hy; subst hy; exact hw)
 have hsx : ∀ y ∈ [x], SmH y := fun y hy => by rw [List.mem_singleton] at hy; subst hy; exact hxs
 have hGn : H.length ≤ G2.length := lw.2
 have fin : ∀ (A : AH) (L0 L1 : Nat) (R R1 : List (List Value)), G2.length ≤ L0 → L0 < L1 → Low G2.length G2 A → hget A L0 = some ⟨R.flatten, 60, some 104⟩ → hget A L1 = some ⟨R1.flatten, 60, some 104⟩ → NewRowsH (L0 + 1) A R l → NewRowsH (L1 + 1) A R1 [x] → ∃ v' H', xappend Try.prog H.length 58 (.slice (some ⟨L0, 0, none⟩) l.length l.length) (.slice (some ⟨L1, 0, none⟩) 1 1) A = some (v', H') ∧ notTuple v' = true ∧ v'.cells = #[v'] ∧ Low H.length H H' ∧ NewGH H.length H' v' (l ++ [x]) := fun A L0 L1 R R1 g1 g2 g3 g4 g5 g6 g7 => by
  obtain ⟨v', H', h1, h2, h3, h4⟩ := held_app (nro := H.length) (n := H.length) (by omega) (by omega) g2 g4 g5 g6 g7 (by omega) hwx
  have hs := h2.sh
  exact ⟨v', H', h1, hs.1, hs.2, ⟨fun j hj => (h3 j (by omega)).trans ((g3.1 j (by omega)).trans (lw.1 j hj)), by have := g3.2; omega⟩, h2⟩
 obtain ⟨N, hc1⟩ := deepHeld_ac (nro := H.length) (γ := γ) hQG (by omega) hsm hGn
 refine aw_seq ?_
 (refine aw_ptree [0] 7 [[1, 2, 3, 4, 5, 6, 7], [2, 1, 3, 4, 5, 6, 7], [2, 3, 1, 4, 5, 6, 7]] (by kernel_rfl) (by kernel_rfl) (by kernel_rfl) (fun K hK => ?_)); simp only [sel, List.getElem?_cons_succ, List.getElem?_cons_zero]; simp (disch := first | omega | (simp only [lnS]; try omega)) [-getElem?_pos, -getElem?_neg, q0, q3, b3, hul, htu, hset2, hp0, hGn, all_zl, -notTuple, q1, q2, nt_intG, nt_aggG, nt_slG, -xappend, XO_s, XO_z, XLk_val, XLk_call, headsO, behind, List.length_cons, List.length_nil, List.mem_cons, List.not_mem_nil, or_false, forall_eq_or_imp, forall_eq, List.contains_cons, List.contains_nil]
 refine ⟨⟨by kernel_rfl, hc1.mono ?_⟩, ?_⟩
 ·rintro v G3 ⟨rfl, hN, lw3, R, hR, bR⟩
  have b33 := (lw3.1 _ (hget_lt b3)).trans b3
  have hle3 := lw3.2
  have hn3 : H.length ≤ G3.length := by omega
  simp (disch := first | omega | (simp only [lnS]; try omega)) [-getElem?_pos, -getElem?_neg, b33, hul, htu, hp0, hset2, -notTuple, nt_slG, nt_aggG, hn3, -xappend, XO_s, XO_z, XLk_val, XLk_call, headsO, behind, List.length_cons, List.length_nil, List.mem_cons, List.not_mem_nil, or_false, forall_eq_or_imp, forall_eq, List.contains_cons, List.contains_nil]
  obtain ⟨lw4, b4⟩ := boxed2 (H := G3) us 60 104
  have hle4 := lw4.2
  have hlt4 := hget_lt b4
  generalize G3 ++ [some ⟨us, 60, some 104⟩] = G4 at *
  obtain ⟨N2, hc2⟩ := deepHeld_ac (nro := H.length) (γ := γ) (hone G4 G3.length (lw3.both lw4) b4) (by simp) hsx (by omega)
  refine ⟨by kernel_rfl, hc2.mono ?_⟩
  rintro v G5 ⟨rfl, hN2, lw5, R1, hR1, bR1⟩
  have hle5 := lw5.2
  have lw35 := lw4.both lw5
  obtain ⟨v', H', hap, s1, s2, hL, hnew⟩ := fin G5 G2.length G4.length R R1 (Nat.le_refl _) (by omega) (lw3.both lw35) ((lw35.1 _ (hget_lt bR)).trans bR) bR1 (hR.keep (fun j _ hj => lw35.1 j hj) lw35.2) hR1
  try simp (disch := first | omega | (simp only [lnS]; try omega)) [-getElem?_pos, -getElem?_neg, -xappend, hap, -notTuple, s1, s2, nt_slG, nt_aggG, XO_s, XO_z, XLk_val, XLk_call, headsO, behind, List.length_cons, List.length_nil, List.mem_cons, List.not_mem_nil, or_false, forall_eq_or_imp, forall_eq, List.contains_cons, List.contains_nil]
  refine hK _ _ ?_; clear hK K
  (refine aw_ret ?_; simp (disch := first | omega | (simp only [lnS]; try omega)) [-getElem?_pos, -getElem?_neg, thenQ_ret, scopeQ_ret, inBlockQ_ret, RQ, resL, resV])
  exact ⟨_, ⟨s1, rfl⟩, hL, v', by rw [k0], hnew⟩
 refine ⟨⟨by kernel_rfl, hc1.mono ?_⟩, ?_⟩
 ·rintro v G3 ⟨rfl, hN, lw3, R, hR, bR⟩
  have hle3 := lw3.2
  have hn3 : H.length ≤ G3.length := by omega
  try simp (disch := first | omega | (simp only [lnS]; try omega)) [-getElem?_pos, -getElem?_neg, hset2, -notTuple, nt_slG, nt_aggG, hn3, -xappend, XO_s, XO_z, XLk_val, XLk_call, headsO, behind, List.length_cons, List.length_nil, List.mem_cons, List.not_mem_nil, or_false, forall_eq_or_imp, forall_eq, List.contains_cons, List.contains_nil]
  obtain ⟨lw4, b4⟩ := boxed2 (H := G3) us 60 104
  have hle4 := lw4.2
  have hlt4 := hget_lt b4
  generalize G3 ++ [some ⟨us, 60, some 104⟩] = G4 at *
  obtain ⟨N2, hc2⟩ := deepHeld_ac (nro := H.length) (γ := γ) (hone G4 G3.length (lw3.both lw4) b4) (by simp) hsx (by omega)
  refine ⟨by kernel_rfl, hc2.mono ?_⟩
  rintro v G5 ⟨rfl, hN2, lw5, R1, hR1, bR1⟩
  have hle5 := lw5.2
  have lw35 := lw4.both lw5
  obtain ⟨v', H', hap, s1, s2, hL, hnew⟩ := fin G5 G2.length G4.length R R1 (Nat.le_refl _) (by omega) (lw3.both lw35) ((lw35.1 _ (hget_lt bR)).trans bR) bR1 (hR.keep (fun j _ hj => lw35.1 j hj) lw35.2) hR1
  try simp (disch := first | omega | (simp only [lnS]; try omega)) [-getElem?_pos, -getElem?_neg, -xappend, hap, -notTuple, s1, s2, nt_slG, nt_aggG, XO_s, XO_z, XLk_val, XLk_call, headsO, behind, List.length_cons, List.length_nil, List.mem_cons, List.not_mem_nil, or_false, forall_eq_or_imp, forall_eq, List.contains_cons, List.contains_nil]
  refine hK _ _ ?_; clear hK K
  (refine aw_ret ?_; simp (disch := first | omega | (simp only [lnS]; try omega)) [-getElem?_pos, -getElem?_neg, thenQ_ret, scopeQ_ret, inBlockQ_ret, RQ, resL, resV])
  exact ⟨_, ⟨s1, rfl⟩, hL, v', by rw [k0], hnew⟩
 ·obtain ⟨lw3, b4⟩ := boxed2 (H := G2) us 60 104
  have hle3 := lw3.2
  have hlt4 := hget_lt b4
  try simp (disch := first | omega | (simp only [lnS]; try omega)) [-getElem?_pos, -getElem?_neg, hset2, -xappend, XO_s, XO_z, XLk_val, XLk_call, headsO, behind, List.length_cons, List.length_nil, List.mem_cons, List.not_mem_nil, or_false, forall_eq_or_imp, forall_eq, List.contains_cons, List.contains_nil]
  generalize G2 ++ [some ⟨us, 60, some 104⟩] = G3 at *
  obtain ⟨N3, hc3⟩ := deepHeld_ac (nro := H.length) (γ := γ) (hQG.lowG lw3) (by omega) hsm (show H.length ≤ G3.length by omega)
  refine ⟨by kernel_rfl, hc3.mono ?_⟩
  rintro v G4 ⟨rfl, hN, lw4, R, hR, bR⟩
  have hle4 := lw4.2
  have b44 := (lw4.1 _ hlt4).trans b4
  obtain ⟨N2, hc2⟩ := deepHeld_ac (nro := H.length) (γ := γ) (hone G4 G2.length (lw3.both lw4) b44) (by simp) hsx (by omega)
  try simp (disch := first | omega | (simp only [lnS]; try omega)) [-getElem?_pos, -getElem?_neg, -notTuple, nt_slG, nt_aggG, -xappend, XO_s, XO_z, XLk_val, XLk_call, headsO, behind, List.length_cons, List.length_nil, List.mem_cons, List.not_mem_nil, or_false, forall_eq_or_imp, forall_eq, List.contains_cons, List.contains_nil]
  refine ⟨by kernel_rfl, hc2.mono ?_⟩
  rintro v G5 ⟨rfl, hN2, lw5, R1, hR1, bR1⟩
  have hle5 := lw5.2
  have g3l := hget_lt bR
  obtain ⟨v', H', hap, s1, s2, hL, hnew⟩ := fin G5 G3.length G4.length R R1 (by omega) (by omega) ((lw3.both lw4).both lw5) ((lw5.1 _ (hget_lt bR)).trans bR) bR1 (hR.keep (fun j _ hj => lw5.1 j hj) lw5.2) hR1
  try simp (disch := first | omega | (simp only [lnS]; try omega)) [-getElem?_pos, -getElem?_neg, -xappend, hap, -notTuple, s1, s2, nt_slG, nt_aggG, XO_s, XO_z, XLk_val, XLk_call, headsO, behind, List.length_cons, List.length_nil, List.mem_cons, List.not_mem_nil, or_false, forall_eq_or_imp, forall_eq, List.contains_cons, List.contains_nil]
  refine hK _ _ ?_; clear hK K
  (refine aw_ret ?_; simp (disch := first | omega | (simp only [lnS]; try omega)) [-getElem?_pos, -getElem?_neg, thenQ_ret, scopeQ_ret, inBlockQ_ret, RQ, resL, resV])
  exact ⟨_, ⟨s1, rfl⟩, hL, v', by rw [k0], hnew⟩
end
end Go.Proofs.Ytdeccbjdhcifiaa
