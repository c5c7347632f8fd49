/-
  graph.Add.
  The vector that every right program answers: three nodes, put behind one another.
  GraphOrder: the law, walked.
  slices.IndexFunc, ContainsFunc, BinarySearch over numbers; groups.
  roster: listed, ahead, removes.
  roster: admits, and the roster of a set.
  roster: the group of a set; a group's members.
  roster.look: which nodes count.
  roster.isSet, Of, All.
  roster.All.
  The vector of layer 16.
  The document's rosters: removal, lets.
  The document's rosters: Roster, Counts, All.
  The document's rosters: All, Set.
  RosterTells: the law, walked.
  RosterStrong: the law, walked.
  GraphHeads: the law, walked.
-/
import Derived.Test.YtdeccbjdhcifiaaMvE
import Derived.Test.YtdeccbjdhcifiaaMvC
namespace Go.Proofs.Ytdeccbjdhcifiaa
open Go Go.RowKit
set_option linter.unusedSimpArgs false
set_option linter.unusedVariables false
set_option maxRecDepth 100000
set_option maxHeartbeats 4000000
section
def aheadL (l : List NodeD) (P : List Int) (x : Int) : Nat := (P.filter fun z => (nd l z.toNat).op.author == x).length
theorem aheadL_pastL (l : List NodeD) (n : Nat) (ps : List (List Int)) (x : Int) : aheadL l (pastL l n ps) x = (((List.range n).filter fun a => (nd l a).op.author == x).filter (inB l n ps)).length := by
 unfold aheadL pastL
 rw [List.filter_map, List.length_map, List.filter_filter, List.filter_filter]
 congr 1
 refine List.filter_congr fun k _ => ?_
 show (_ && _) = (_ && _)
 rw [Bool.and_comm]
 rfl
theorem ahead_all (l : List NodeD) (n : Nat) (ps : List (List Int)) (x : Int) : aheadL l (pastL l n ps) x = autN l n x ↔ autA l n x (pastL l n ps) = true := by
 rw [aheadL_pastL]
 unfold autN autA
 rw [List.length_filter_eq_length_iff, List.all_eq_true]
 refine ⟨fun h k hk => ?_, fun h k hk => ?_⟩
 ·by_cases e : ((nd l k).op.author == x) = true
  ·have := h k (List.mem_filter.2 ⟨hk, e⟩)
   have h2 : (k : Int) ∈ pastL l n ps := mem_pastL.2 ⟨List.mem_range.1 hk, this⟩
   simp [h2]
  ·simp only [Bool.not_eq_true] at e
   simp [e]
 ·rw [List.mem_filter] at hk
  have := h k hk.1
  rw [hk.2] at this
  have h2 : (k : Int) ∈ pastL l n ps := by simpa using this
  exact (mem_pastL.1 h2).2
theorem aheadL_le (l : List NodeD) (P : List Int) (x : Int) : aheadL l P x ≤ P.length := List.length_filter_le _ _
theorem aheadL_succ {l : List NodeD} {P : List Int} {e : Nat} {z : Int} (x : Int) (h : P[e]? = some z) : aheadL l (P.take (e + 1)) x = aheadL l (P.take e) x + if (nd l z.toNat).op.author = x then 1 else 0 := by
 unfold aheadL
 rw [List.take_add_one, h, List.filter_append, List.length_append]
 congr 1
 show (List.filter _ [z]).length = _
 by_cases hc : (nd l z.toNat).op.author = x
 ·simp [hc]
 ·have : ((nd l z.toNat).op.author == x) = false := by simpa using hc
  simp [this, hc]
def seqOk (l : List NodeD) (o : OpD) : Bool := !(decide (o.kind = 1) && decide (0 < l.length)) && (decide (o.seq = 1 + (aheadL l (pastL l l.length o.parents) o.author : Nat)) && decide (aheadL l (pastL l l.length o.parents) o.author = autN l l.length o.author))
def addE (l : List NodeD) (id : List Int) (o : OpD) : Int :=
 if rightG l = false then 1 else if rightO o = false then 1 else if (findN l l.length id).isSome = true then 13 else if l.length = 96 then 8 else if o.parents.all (fun p => (findN l l.length p).isSome) = false then 14 else if seqOk l o = false then 15 else 0
def addD (l : List NodeD) (id : List Int) (o : OpD) : NodeD := ⟨id, o, pastL l l.length o.parents⟩
def NewG (n : Nat) (H : AH) (v : Value) (l : List NodeD) : Prop := ∀ G, KeepN n H G → NdV G v l
def AddQ (l : List NodeD) (id : List Int) (o : OpD) (H : AH) (v' : Value) (H' : AH) : Prop :=
 Low H.length H H' ∧ ∃ sv, v' = .tuple #[sv, .int .i64 (addE l id o)] ∧ ((addE l id o = 0 ∧ NewG H.length H' sv (l ++ [addD l id o])) ∨ (addE l id o ≠ 0 ∧ sv = .slice none 0 0))
theorem AddQ.bad {l : List NodeD} {id : List Int} {o : OpD} {H H' : AH} {z : Int} (hl : Low H.length H H') (h : addE l id o = z) (hz : z ≠ 0) : AddQ l id o H (.tuple #[.slice none 0 0, .int .i64 z]) H' :=
 ⟨hl, _, by rw [h], .inr ⟨by rw [h]; exact hz, rfl⟩⟩
theorem fill_row {Z row : List Value} (hr : row.length = 104) (hZ : Z.length = 104) : xfill (fun i => some (i * 104, 104)) Z [(0, .agg row.toArray)] = some row := by
 have h1 : (Value.agg row.toArray).cells.size = 104 := by simpa [Value.cells] using hr
 unfold xfill
 simp only [Nat.zero_mul]
 rw [if_pos ⟨h1, by omega⟩]
 unfold xfill
 rw [setR_all _ _ (by simp [Value.cells, hr, hZ])]
 rfl
attribute [local simp] wb_bool wb_undef with_lit XL_nil XL_cons XLc_val XLc_call step1_eq stepW_t stepW_f stepC_n stepC_s stepX_s stepX_n stepN_s calleeX oneV xop_eq xopR_s xopR_n wantedA_eq wantedG_n wantedG_s plain1_int plain1_bool plain1_string bits_i64 bits_u64 bits_u32 bits_u16 bits_u8 xeqA xagg xcmp xarr allK_iv num_iv calleeOf xread xeff xbin xint xnil xun xstr xload xconv xpart xfield xfieldAddr xindexAddr xindex bnd asInt? xslice xlen xmin xmax xbuild xfill xappend xapp2 xappstr xappmk xcap xcopy xcells eval_tmp eval_const put_at put_none fr0_at cells_agg cells_int cells_bool cells_string cells_ptr cells_slice notTuple tab iv_all hget_app hget_app0 hget_cons0 hget_cons set_app set_app0 setR setR_one QL_nil QL_cons QLc_val stepQ_t stepQ_f stepQC_n stepQC_s stepQX_s SL_nil SL_cons SLc_val stepS_t stepS_f ltT ltF leT leF eqT eqF ltTn ltFn leTn leFn eqTn eqFn beqT beqF bneT bneF wi64 wu64 wu32 wu16 wu8 tmodP tdivP hgetL hgetNe hgetEq setL nums_def nums_len Nat.succ_le_of_lt List.getElem?_cons_zero List.getElem?_cons_succ Option.getD_some Int.toNat_add Int.toNat_mul agM okM agB agI agS agP agL agA okB okI okS okP okSl okA
theorem add_rc {γ : Nat → Option Nat} {H : AH} {nv pv wv bv : Value} {l : List NodeD} {id : List Int} {us : List Value} {o : OpD} (hN : NdA H nv l) (hid : Key32 id) (hO : OpC H us o pv wv bv) (hw : o.Wf) : AC Try.prog H.length γ 31 #[nv, .agg (iv .u8 id).toArray, .agg us.toArray] H (AddQ l id o H) := by
 have hivl : (iv .u8 id).length = 32 := by rw [iv_length, hid.1]
 have hta : (iv .u8 id).take 32 = iv .u8 id := List.take_of_length_le (by omega)
 have hul := hO.len
 have htu : us.take 71 = us := List.take_of_length_le (by omega)
 refine ac_of_aw Try.func31 rfl Try.ntmps31 Try.results31 (by simp) ?_
 refine aw_seq ?_
 (refine aw_ops (by kernel_rfl) (fun K hK => ?_); simp (disch := first | omega | (simp only [lnS]; try omega)) [-getElem?_pos, -getElem?_neg, hivl, hul, nt_aggG]; refine hK _ _ ?_; clear hK K)
 obtain ⟨G, hG⟩ : ∃ G : AH, G = H ++ [some ⟨iv .u8 id, 38, none⟩, some ⟨us, 41, none⟩] := ⟨_, rfl⟩
 have b4 : hget G H.length = some ⟨iv .u8 id, 38, none⟩ := by rw [hG, hget_app0]; rfl
 have b5 : hget G (H.length + 1) = some ⟨us, 41, none⟩ := by rw [hG, hget_app]; rfl
 have lw : Low H.length H G := hG ▸ Low.push (Nat.le_refl _) _
 have gl : G.length = H.length + 2 := by simp [hG]
 rw [← hG]
 clear hG
 have hNG := hN.lowG lw
 have hOG : OpC G us o pv wv bv := hO.low lw.1
 have hnt := hN.nt
 have hvc := hN.cs
 have hxl := hN.len
 have r1 := graph_right_rc (γ := γ) hNG
 have r2 := right_rc (γ := γ) hOG hw
 obtain ⟨n, hn⟩ : ∃ n, n = H.length := ⟨_, rfl⟩
 rw [← hn] at b4 b5 gl lw ⊢
 refine aw_seq ?_
 refine aw_block ?_
 refine aw_seq ?_
 refine aw_seq ?_
 refine aw_ops (by kernel_rfl) (fun K hK => ?_)
 simp (disch := first | omega | (simp only [lnS]; try omega)) [-getElem?_pos, -getElem?_neg, -notTuple, hnt, hvc, nt_intG]
 refine ⟨by kernel_rfl, ac_of_rc r1 (by simp [pv_iv, pv_int, pv_bool, pv_string, pv_tup2, pv_tup3, iv_plain, p2_int, p2_bool, p2_string]) ?_⟩
 cases h1 : rightG l with
 | false =>
  try simp (disch := first | omega | (simp only [lnS]; try omega)) [-getElem?_pos, -getElem?_neg]
  refine hK _ _ ?_; clear hK K
  refine aw_t (by (first | (simp [eval_tmp, put_at]; done) | (simp [eval_tmp, put_at]; omega))) (by kernel_rfl) ?_
  refine aw_skip ?_
  refine aw_t (by (first | (simp [eval_tmp, put_at]; done) | (simp [eval_tmp, put_at]; omega))) (by kernel_rfl) ?_
  refine aw_seq ?_
  (refine aw_ops (by kernel_rfl) (fun K hK => ?_); simp (disch := first | omega | (simp only [lnS]; try omega)) [-getElem?_pos, -getElem?_neg]; refine hK _ _ ?_; clear hK K)
  (refine aw_ret ?_; simp (disch := first | omega | (simp only [lnS]; try omega)) [-getElem?_pos, -getElem?_neg, thenQ_ret, scopeQ_ret, inBlockQ_ret, RQ, resL, resV])
  exact AddQ.bad (hn ▸ lw) (by simp [addE, h1]) (by decide)
 | true =>
 try simp (disch := first | omega | (simp only [lnS]; try omega)) [-getElem?_pos, -getElem?_neg]
 refine hK _ _ ?_; clear hK K
 refine aw_f (by (first | (simp [eval_tmp, put_at]; done) | (simp [eval_tmp, put_at]; omega))) (by kernel_rfl) ?_
 refine aw_ops (by kernel_rfl) (fun K hK => ?_)
 simp (disch := first | omega | (simp only [lnS]; try omega)) [-getElem?_pos, -getElem?_neg, b5, hul, htu, nt_aggG]
 refine ⟨by kernel_rfl, ac_of_rc r2 (by simp [pv_iv, pv_int, pv_bool, pv_string, pv_tup2, pv_tup3, iv_plain, p2_int, p2_bool, p2_string]) ?_⟩
 cases h2 : rightO o with
 | false =>
  try simp (disch := first | omega | (simp only [lnS]; try omega)) [-getElem?_pos, -getElem?_neg]
  refine hK _ _ ?_; clear hK K
  refine aw_t (by (first | (simp [eval_tmp, put_at]; done) | (simp [eval_tmp, put_at]; omega))) (by kernel_rfl) ?_
  refine aw_seq ?_
  (refine aw_ops (by kernel_rfl) (fun K hK => ?_); simp (disch := first | omega | (simp only [lnS]; try omega)) [-getElem?_pos, -getElem?_neg]; refine hK _ _ ?_; clear hK K)
  (refine aw_ret ?_; simp (disch := first | omega | (simp only [lnS]; try omega)) [-getElem?_pos, -getElem?_neg, thenQ_ret, scopeQ_ret, inBlockQ_ret, RQ, resL, resV])
  exact AddQ.bad (hn ▸ lw) (by simp [addE, h1, h2]) (by decide)
 | true =>
 try simp (disch := first | omega | (simp only [lnS]; try omega)) [-getElem?_pos, -getElem?_neg]
 refine hK _ _ ?_; clear hK K
 refine aw_f (by (first | (simp [eval_tmp, put_at]; done) | (simp [eval_tmp, put_at]; omega))) (by kernel_rfl) ?_
 have hl := rightG_len h1
 have r4 := find_rc (γ := γ) hNG (by simp only [maxLen]; omega) hid.1
 refine aw_seq ?_
 refine aw_ops (by kernel_rfl) (fun K hK => ?_)
 simp (disch := first | omega | (simp only [lnS]; try omega)) [-getElem?_pos, -getElem?_neg, b4, hivl, hta, -notTuple, hnt, hvc, nt_intG, nt_aggG]
 refine ⟨by kernel_rfl, ac_of_rc r4 (by simp [pv_iv, pv_int, pv_bool, pv_string, pv_tup2, pv_tup3, iv_plain, p2_int, p2_bool, p2_string]) ?_⟩
 unfold findI
 cases h3 : findN l l.length id with
 | some a =>
  have ha := findN_lt h3
  try simp (disch := first | omega | (simp only [lnS]; try omega)) [-getElem?_pos, -getElem?_neg]
  refine hK _ _ ?_; clear hK K
  refine aw_t (by (first | (simp [eval_tmp, put_at]; done) | (simp [eval_tmp, put_at]; omega))) (by kernel_rfl) ?_
  refine aw_seq ?_
  (refine aw_ops (by kernel_rfl) (fun K hK => ?_); simp (disch := first | omega | (simp only [lnS]; try omega)) [-getElem?_pos, -getElem?_neg]; refine hK _ _ ?_; clear hK K)
  (refine aw_ret ?_; simp (disch := first | omega | (simp only [lnS]; try omega)) [-getElem?_pos, -getElem?_neg, thenQ_ret, scopeQ_ret, inBlockQ_ret, RQ, resL, resV])
  exact AddQ.bad (hn ▸ lw) (by simp [addE, h1, h2, h3]) (by decide)
 | none =>
 try simp (disch := first | omega | (simp only [lnS]; try omega)) [-getElem?_pos, -getElem?_neg]
 refine hK _ _ ?_; clear hK K
 refine aw_f (by (first | (simp [eval_tmp, put_at]; done) | (simp [eval_tmp, put_at]; omega))) (by kernel_rfl) ?_
 refine aw_seq ?_
 by_cases h4 : l.length = 96
 ·(refine aw_ops (by kernel_rfl) (fun K hK => ?_); simp (disch := first | omega | (simp only [lnS]; try omega)) [-getElem?_pos, -getElem?_neg, -notTuple, hnt, hvc, nt_intG, -xlen, hxl, h4]; refine hK _ _ ?_; clear hK K)
  refine aw_t (by (first | (simp [eval_tmp, put_at, h4]; done) | (simp [eval_tmp, put_at, h4]; omega))) (by kernel_rfl) ?_
  refine aw_seq ?_
  (refine aw_ops (by kernel_rfl) (fun K hK => ?_); simp (disch := first | omega | (simp only [lnS]; try omega)) [-getElem?_pos, -getElem?_neg]; refine hK _ _ ?_; clear hK K)
  (refine aw_ret ?_; simp (disch := first | omega | (simp only [lnS]; try omega)) [-getElem?_pos, -getElem?_neg, thenQ_ret, scopeQ_ret, inBlockQ_ret, RQ, resL, resV])
  exact AddQ.bad (hn ▸ lw) (by unfold addE; rw [h1, h2, h3, if_neg (by simp), if_neg (by simp), if_neg (by simp), if_pos h4]) (by decide)
 have h4n : l.length < 96 := by omega
 have h4i : ¬ (l.length : Int) = 96 := by omega
 (refine aw_ops (by kernel_rfl) (fun K hK => ?_); simp (disch := first | omega | (simp only [lnS]; try omega)) [-getElem?_pos, -getElem?_neg, -notTuple, hnt, hvc, nt_intG, -xlen, hxl, h4i]; refine hK _ _ ?_; clear hK K)
 refine aw_f (by (first | (simp [eval_tmp, put_at]; done) | (simp [eval_tmp, put_at]; omega))) (by kernel_rfl) ?_
 refine aw_skip ?_
 have hP := hOG.parents
 have hP4 := val_nt hP
 have hps := rightO_sm h2
 have c2 := hOG.c2
 have hpk : ∀ k ∈ o.parents, k.length = 32 := fun k hk => (hw.parents k hk).1
 have rp := (pastF_rc (γ := γ) hNG hl hP hpk (by simp only [maxLen]; omega)).thaw (nro := n) (fun v H' h => ⟨h.1.2, h.1.1⟩)
 refine aw_seq ?_
 refine aw_ops (by kernel_rfl) (fun K hK => ?_)
 simp (disch := first | omega | (simp only [lnS]; try omega)) [-getElem?_pos, -getElem?_neg, b5, hul, c2, -notTuple, hnt, hvc, hP4.1, hP4.2, nt_intG, nt_aggG]
 refine ⟨by kernel_rfl, rp.mono ?_⟩
 rintro v1 G1 ⟨hlow1, ⟨hall, sv, F, rfl, hown, hF⟩ | ⟨hall, rfl⟩⟩
 case inr =>
  simp (disch := first | omega | (simp only [lnS]; try omega)) [-getElem?_pos, -getElem?_neg]
  refine hK _ _ ?_; clear hK K
  refine aw_seq ?_
  refine aw_seq ?_
  (refine aw_ops (by kernel_rfl) (fun K hK => ?_); simp (disch := first | omega | (simp only [lnS]; try omega)) [-getElem?_pos, -getElem?_neg]; refine hK _ _ ?_; clear hK K)
  refine aw_t (by (first | (simp [eval_tmp, put_at]; done) | (simp [eval_tmp, put_at]; omega))) (by kernel_rfl) ?_
  refine aw_seq ?_
  (refine aw_ops (by kernel_rfl) (fun K hK => ?_); simp (disch := first | omega | (simp only [lnS]; try omega)) [-getElem?_pos, -getElem?_neg]; refine hK _ _ ?_; clear hK K)
  (refine aw_ret ?_; simp (disch := first | omega | (simp only [lnS]; try omega)) [-getElem?_pos, -getElem?_neg, thenQ_ret, scopeQ_ret, inBlockQ_ret, RQ, resL, resV])
  exact AddQ.bad ⟨fun j hj => (hlow1.1 j (by have := lw.2; omega)).trans (lw.1 j (by omega)), by have := hlow1.2; have := lw.2; omega⟩ (by simp [addE, h1, h2, h3, h4, hall]) (by decide)
 obtain ⟨v1, v2⟩ := own_nt hown
 have hFn : ∀ j ∈ F, n + 2 ≤ j := fun j hj => by have := hF j hj; omega
 clear hF
 simp (disch := first | omega | (simp only [lnS]; try omega)) [-getElem?_pos, -getElem?_neg, -notTuple, v1, v2, nt_intG]
 refine hK _ _ ?_; clear hK K
 refine aw_seq ?_
 refine aw_seq ?_
 (refine aw_ops (by kernel_rfl) (fun K hK => ?_); simp (disch := first | omega | (simp only [lnS]; try omega)) [-getElem?_pos, -getElem?_neg]; refine hK _ _ ?_; clear hK K)
 refine aw_f (by (first | (simp [eval_tmp, put_at]; done) | (simp [eval_tmp, put_at]; omega))) (by kernel_rfl) ?_
 refine aw_skip ?_
 have hPl := pastL_length l l.length o.parents
 have hPb : ∀ z ∈ pastL l l.length o.parents, ∃ k : Nat, z = k ∧ k < l.length := fun z hz => by
  obtain ⟨k, e, hk, _⟩ := pastL_bd hz
  exact ⟨k, e, hk⟩
 have hseq : seqOk l o = (!(decide (o.kind = 1) && decide (0 < l.length)) && (decide (o.seq = 1 + (aheadL l (pastL l l.length o.parents) o.author : Nat)) && decide (aheadL l (pastL l l.length o.parents) o.author = autN l l.length o.author))) := rfl
 have hle : addE l id o = if seqOk l o = false then 15 else 0 := by unfold addE; rw [h1, h2, h3, hall, if_neg (by simp), if_neg (by simp), if_neg (by simp), if_neg h4, if_neg (by simp)]
 have hInv := own_inv hown
 have hacc := hInv.acc
 have hdd : addD l id o = ⟨id, o, pastL l l.length o.parents⟩ := rfl
 obtain ⟨P, hPe⟩ : ∃ P, P = pastL l l.length o.parents := ⟨_, rfl⟩
 rw [← hPe] at hPl hPb hown hInv hacc hseq hdd
 have hlowG1 : Low n H G1 := ⟨fun j hj => (hlow1.1 j (by omega)).trans (lw.1 j (by omega)), by have := hlow1.2; omega⟩
 have hNG1 := hN.lowG (hn ▸ hlowG1)
 have d4 := (hlow1.1 n (by omega)).trans b4
 have d5 := (hlow1.1 (n + 1) (by omega)).trans b5
 have hOG1 : OpC G1 us o pv wv bv := hOG.low hlow1.1
 have hat := hNG1.at_
 have ca := hOG1.c0
 have hlG1 : n + 2 ≤ G1.length := by have := hlow1.2; omega
 refine aw_seq ?_
 (refine aw_ops (by kernel_rfl) (fun K hK => ?_); simp (disch := first | omega | (simp only [lnS]; try omega)) [-getElem?_pos, -getElem?_neg]; refine hK _ _ ?_; clear hK K)
 refine aw_seq ?_
 refine aw_seq ?_
 (refine aw_ops (by kernel_rfl) (fun K hK => ?_); simp (disch := first | omega | (simp only [lnS]; try omega)) [-getElem?_pos, -getElem?_neg, -notTuple, v1, v2, nt_intG, -xlen, hacc.len]; refine hK _ _ ?_; clear hK K)
 refine aw_block ?_
 refine aw_loop (fun c α G => ∃ e : Nat, e + c = P.length ∧ G = G1 ∧ α 0 = nv ∧ α 4 = .pointer (some ⟨n, 0, none⟩) ∧ α 5 = .pointer (some ⟨n + 1, 0, none⟩) ∧ α 8 = sv ∧ α 10 = .int .i64 (aheadL l (P.take e) o.author : Nat) ∧ α 39 = sv ∧ α 40 = .int .i64 (P.length : Nat) ∧ α 41 = .int .i64 (e : Nat)) P.length ?_ ?_
 ·exact ⟨0, by omega, rfl, by (first | (simp [put_at, put_none, fr0_at]; done) | rfl), by (first | (simp [put_at, put_none, fr0_at]; done) | rfl), by (first | (simp [put_at, put_none, fr0_at]; done) | rfl), by (first | (simp [put_at, put_none, fr0_at]; done) | rfl), by (first | (simp [put_at, put_none, fr0_at]; done) | rfl), by (first | (simp [put_at, put_none, fr0_at]; done) | rfl), by (first | (simp [put_at, put_none, fr0_at]; done) | rfl), by (first | (simp [put_at, put_none, fr0_at]; done) | rfl)⟩
 rintro c α G2 ⟨e, hec, rfl, q0, q4, q5, q8, q10, q39, q40, q41⟩
 refine aw_seq ?_
 by_cases he : e < P.length
 case pos =>
  obtain ⟨p2, x2, p21, p22, p23, p24, p25⟩ := hacc.at_ e he
  subst p24
  obtain ⟨z, hz⟩ : ∃ z, z = P.getD e 0 := ⟨_, rfl⟩
  rw [← hz] at p25
  have hze : P[e]? = some z := by rw [hz, List.getD_eq_getElem?_getD, List.getElem?_eq_getElem he]; rfl
  have hsu := aheadL_succ (l := l) o.author hze
  have hal := aheadL_le l (P.take e) o.author
  rw [List.length_take] at hal
  have p25 := p25 G2 (Low.refl (Nat.le_refl _))
  obtain ⟨kz, rfl, hkz⟩ := hPb z (List.mem_of_getElem? hze)
  rw [Int.toNat_natCast] at hsu
  obtain ⟨j, q, bb, ws, pv', wv', bv', qv', hx, hbb, hq, hcell, hws, hC⟩ := hat kz _ (nd_get hkz)
  have cz : bb.cells[q + 32]? = some (.int .i64 (nd l kz).op.author) := by
   have := hC.op.c0
   rw [List.getElem?_take_of_lt (by omega), List.getElem?_drop] at this
   exact (hcell 32 (by omega)).trans this
  (refine aw_ops (by kernel_rfl) (fun K hK => ?_); simp (disch := first | omega | (simp only [lnS]; try omega)) [-getElem?_pos, -getElem?_neg, q40, q41, he]; refine hK _ _ ?_; clear hK K)
  refine aw_seq ?_
  refine aw_t (by (first | (simp [eval_tmp, put_at, he]; done) | (simp [eval_tmp, put_at, he]; omega))) (by kernel_rfl) ?_
  refine aw_skip ?_
  refine aw_seq ?_
  refine aw_block ?_
  refine aw_seq ?_
  (refine aw_ops (by kernel_rfl) (fun K hK => ?_); simp (disch := first | omega | (simp only [lnS]; try omega)) [-getElem?_pos, -getElem?_neg, q39, q41, -notTuple, v1, v2, p21, nt_intG, -xindexAddr, p22, -xload, p25]; refine hK _ _ ?_; clear hK K)
  refine aw_seq ?_
  obtain ⟨x, hxa⟩ : ∃ x, x = (nd l kz).op.author := ⟨_, rfl⟩
  rw [← hxa] at cz hsu
  by_cases hxz : x = o.author
  ·have hxb : (x == o.author) = true := by simp [hxz]
   rw [if_pos hxz] at hsu
   (refine aw_plan [] [] [0, 1, 2, 3, 4, 5, 6, 7, 8] 9 0 (by kernel_rfl) (by kernel_rfl) (by kernel_rfl) (fun K hK => ?_)); simp only [sel, List.getElem?_cons_succ, List.getElem?_cons_zero, List.drop_succ_cons, List.drop_zero]; simp (disch := first | omega | (simp only [lnS]; try omega)) [-getElem?_pos, -getElem?_neg, q0, q5, -notTuple, hnt, hvc, nt_intG, nt_ptrG, -xindexAddr, hx, hbb, cz, d5, ca, hxz, hxb, PL_nil, plainB_lit, PL_cons, PLc_val, PLc_new, stepP_t, stepP_f, stepPC_n, stepPC_s, stepPX_s, stepPX_n, stepPV_n, stepPV_s, stepPA_t, stepPA_c, stepPA_l, stepPN_s, allocOp, reloc_sl, reloc_ptr, List.map_cons, List.map_nil, List.nil_append, List.append_assoc, List.cons_append, Nat.add_assoc]
   refine hK _ _ ?_; clear hK K
   refine aw_t (by (first | (simp [eval_tmp, put_at, hxz, hxb]; done) | (simp [eval_tmp, put_at, hxz, hxb]; omega))) (by kernel_rfl) ?_
   (refine aw_ops (by kernel_rfl) (fun K hK => ?_); simp (disch := first | omega | (simp only [lnS]; try omega)) [-getElem?_pos, -getElem?_neg, q10]; refine hK _ _ ?_; clear hK K)
   (refine aw_ops (by kernel_rfl) (fun K hK => ?_); simp (disch := first | omega | (simp only [lnS]; try omega)) [-getElem?_pos, -getElem?_neg, q41]; refine hK _ _ ?_; clear hK K)
   exact ⟨c - 1, by omega, e + 1, by omega, rfl, by (first | (simp [put_at, put_none, fr0_at, q0]; done) | rfl), by (first | (simp [put_at, put_none, fr0_at, q4]; done) | rfl), by (first | (simp [put_at, put_none, fr0_at, q5]; done) | rfl), by (first | (simp [put_at, put_none, fr0_at, q8]; done) | rfl), by rw [hsu]; (first | (simp [put_at, put_none, fr0_at]; done) | rfl), by (first | (simp [put_at, put_none, fr0_at, q39]; done) | rfl), by (first | (simp [put_at, put_none, fr0_at, q40]; done) | rfl), by (first | (simp [put_at, put_none, fr0_at]; done) | rfl)⟩
  ·have hxb : (x == o.author) = false := by simp [hxz]
   rw [if_neg hxz] at hsu
   (refine aw_plan [] [] [0, 1, 2, 3, 4, 5, 6, 7, 8] 9 0 (by kernel_rfl) (by kernel_rfl) (by kernel_rfl) (fun K hK => ?_)); simp only [sel, List.getElem?_cons_succ, List.getElem?_cons_zero, List.drop_succ_cons, List.drop_zero]; simp (disch := first | omega | (simp only [lnS]; try omega)) [-getElem?_pos, -getElem?_neg, q0, q5, -notTuple, hnt, hvc, nt_intG, nt_ptrG, -xindexAddr, hx, hbb, cz, d5, ca, hxz, hxb, PL_nil, plainB_lit, PL_cons, PLc_val, PLc_new, stepP_t, stepP_f, stepPC_n, stepPC_s, stepPX_s, stepPX_n, stepPV_n, stepPV_s, stepPA_t, stepPA_c, stepPA_l, stepPN_s, allocOp, reloc_sl, reloc_ptr, List.map_cons, List.map_nil, List.nil_append, List.append_assoc, List.cons_append, Nat.add_assoc]
   refine hK _ _ ?_; clear hK K
   refine aw_f (by (first | (simp [eval_tmp, put_at, hxz, hxb]; done) | (simp [eval_tmp, put_at, hxz, hxb]; omega))) (by kernel_rfl) ?_
   refine aw_skip ?_
   (refine aw_ops (by kernel_rfl) (fun K hK => ?_); simp (disch := first | omega | (simp only [lnS]; try omega)) [-getElem?_pos, -getElem?_neg, q41]; refine hK _ _ ?_; clear hK K)
   exact ⟨c - 1, by omega, e + 1, by omega, rfl, by (first | (simp [put_at, put_none, fr0_at, q0]; done) | rfl), by (first | (simp [put_at, put_none, fr0_at, q4]; done) | rfl), by (first | (simp [put_at, put_none, fr0_at, q5]; done) | rfl), by (first | (simp [put_at, put_none, fr0_at, q8]; done) | rfl), by rw [hsu]; (first | (simp [put_at, put_none, fr0_at, q10]; done) | rfl), by (first | (simp [put_at, put_none, fr0_at, q39]; done) | rfl), by (first | (simp [put_at, put_none, fr0_at, q40]; done) | rfl), by (first | (simp [put_at, put_none, fr0_at]; done) | rfl)⟩
 (refine aw_ops (by kernel_rfl) (fun K hK => ?_); simp (disch := first | omega | (simp only [lnS]; try omega)) [-getElem?_pos, -getElem?_neg, q40, q41, he]; refine hK _ _ ?_; clear hK K)
 refine aw_seq ?_
 refine aw_f (by (first | (simp [eval_tmp, put_at, he]; done) | (simp [eval_tmp, put_at, he]; omega))) (by kernel_rfl) ?_
 refine aw_exit ?_
 obtain rfl : e = P.length := by omega
 rw [List.take_length] at q10
 have c3 := hOG1.c3
 have c1 := hOG1.c1
 have hsq := hw.seq
 unfold U32 at hsq
 have hal := aheadL_le l P o.author
 have rc := count_rc (γ := γ) hNG1 (by simp only [maxLen]; omega) o.author
 have hcl := autN_le l l.length o.author
 generalize aheadL l P o.author = ah at *
 generalize autN l l.length o.author = cn at *
 refine aw_seq ?_
 refine aw_seq ?_
 refine aw_cut (fun α G => α 81 = .bool (!seqOk l o) ∧ α 0 = nv ∧ α 4 = .pointer (some ⟨n, 0, none⟩) ∧ α 5 = .pointer (some ⟨n + 1, 0, none⟩) ∧ α 8 = sv ∧ G = G2) ?_ ?_
 ·by_cases hk : o.kind = 1
  ·by_cases h0 : 0 < l.length
   ·(refine aw_ops (by kernel_rfl) (fun K hK => ?_); simp (disch := first | omega | (simp only [lnS]; try omega)) [-getElem?_pos, -getElem?_neg, q0, q5, q10, hk, h0, d5, c3, c1, ca, hul, -notTuple, hnt, hvc, nt_intG, nt_ptrG, -xlen, hxl]; refine hK _ _ ?_; clear hK K)
    exact ⟨by rw [hseq]; simp [hk, h0, put_at], by (first | (simp [put_at, put_none, fr0_at, q0]; done) | rfl), by (first | (simp [put_at, put_none, fr0_at, q4]; done) | rfl), by (first | (simp [put_at, put_none, fr0_at, q5]; done) | rfl), by (first | (simp [put_at, put_none, fr0_at, q8]; done) | rfl), rfl⟩
   ·have h0e : l.length = 0 := by omega
    by_cases hs1 : o.seq = 1 + (ah : Int)
    ·have hs2 : ¬ o.seq ≠ 1 + (ah : Int) := by omega
     have hs3 : (o.seq == 1 + (ah : Int)) = true := by simp [hs1]
     refine aw_ops (by kernel_rfl) (fun K hK => ?_)
     simp (disch := first | omega | (simp only [lnS]; try omega)) [-getElem?_pos, -getElem?_neg, q0, q5, q10, hk, h0, h0e, d5, c3, c1, ca, hul, -notTuple, hnt, hvc, nt_intG, nt_ptrG, -xlen, hxl, hs1, hs3]
     refine ⟨by kernel_rfl, ac_of_rc rc (by simp [pv_iv, pv_int, pv_bool, pv_string, pv_tup2, pv_tup3, iv_plain, p2_int, p2_bool, p2_string]) ?_⟩
     by_cases hcn : ah = cn
     ·have hcb : ((ah : Int) == (cn : Int)) = true := by simp [hcn]
      have hci : (ah : Int) = (cn : Int) := by omega
      try simp (disch := first | omega | (simp only [lnS]; try omega)) [-getElem?_pos, -getElem?_neg, hcb, hci]
      refine hK _ _ ?_; clear hK K
      refine ⟨by rw [hseq]; simp [hk, h0, h0e, hs1, hcn, put_at], by (first | (simp [put_at, put_none, fr0_at, q0]; done) | rfl), by (first | (simp [put_at, put_none, fr0_at, q4]; done) | rfl), by (first | (simp [put_at, put_none, fr0_at, q5]; done) | rfl), by (first | (simp [put_at, put_none, fr0_at, q8]; done) | rfl), rfl⟩
     ·have hci : ¬ (ah : Int) = (cn : Int) := by omega
      have hcb : ((ah : Int) == (cn : Int)) = false := by simp [hci]
      try simp (disch := first | omega | (simp only [lnS]; try omega)) [-getElem?_pos, -getElem?_neg, hcb, hci]
      refine hK _ _ ?_; clear hK K
      refine ⟨by rw [hseq]; simp [hci, hk, h0, h0e, hs1, hcn, put_at], by (first | (simp [put_at, put_none, fr0_at, q0]; done) | rfl), by (first | (simp [put_at, put_none, fr0_at, q4]; done) | rfl), by (first | (simp [put_at, put_none, fr0_at, q5]; done) | rfl), by (first | (simp [put_at, put_none, fr0_at, q8]; done) | rfl), rfl⟩
    ·have hs3 : (o.seq == 1 + (ah : Int)) = false := by simp [hs1]
     (refine aw_ops (by kernel_rfl) (fun K hK => ?_); simp (disch := first | omega | (simp only [lnS]; try omega)) [-getElem?_pos, -getElem?_neg, q0, q5, q10, hk, h0, h0e, d5, c3, c1, ca, hul, -notTuple, hnt, hvc, nt_intG, nt_ptrG, -xlen, hxl, hs1, hs3]; refine hK _ _ ?_; clear hK K)
     refine ⟨by rw [hseq]; simp [hk, h0, h0e, hs1, put_at], by (first | (simp [put_at, put_none, fr0_at, q0]; done) | rfl), by (first | (simp [put_at, put_none, fr0_at, q4]; done) | rfl), by (first | (simp [put_at, put_none, fr0_at, q5]; done) | rfl), by (first | (simp [put_at, put_none, fr0_at, q8]; done) | rfl), rfl⟩
  ·have hkb : (o.kind == 1) = false := by simp [hk]
   by_cases hs1 : o.seq = 1 + (ah : Int)
   ·have hs2 : ¬ o.seq ≠ 1 + (ah : Int) := by omega
    have hs3 : (o.seq == 1 + (ah : Int)) = true := by simp [hs1]
    refine aw_ops (by kernel_rfl) (fun K hK => ?_)
    simp (disch := first | omega | (simp only [lnS]; try omega)) [-getElem?_pos, -getElem?_neg, q0, q5, q10, hk, hkb, d5, c3, c1, ca, hul, -notTuple, hnt, hvc, nt_intG, nt_ptrG, -xlen, hxl, hs1, hs3]
    refine ⟨by kernel_rfl, ac_of_rc rc (by simp [pv_iv, pv_int, pv_bool, pv_string, pv_tup2, pv_tup3, iv_plain, p2_int, p2_bool, p2_string]) ?_⟩
    by_cases hcn : ah = cn
    ·have hcb : ((ah : Int) == (cn : Int)) = true := by simp [hcn]
     have hci : (ah : Int) = (cn : Int) := by omega
     try simp (disch := first | omega | (simp only [lnS]; try omega)) [-getElem?_pos, -getElem?_neg, hcb, hci]
     refine hK _ _ ?_; clear hK K
     refine ⟨by rw [hseq]; simp [hk, hkb, hs1, hcn, put_at], by (first | (simp [put_at, put_none, fr0_at, q0]; done) | rfl), by (first | (simp [put_at, put_none, fr0_at, q4]; done) | rfl), by (first | (simp [put_at, put_none, fr0_at, q5]; done) | rfl), by (first | (simp [put_at, put_none, fr0_at, q8]; done) | rfl), rfl⟩
    ·have hci : ¬ (ah : Int) = (cn : Int) := by omega
     have hcb : ((ah : Int) == (cn : Int)) = false := by simp [hci]
     try simp (disch := first | omega | (simp only [lnS]; try omega)) [-getElem?_pos, -getElem?_neg, hcb, hci]
     refine hK _ _ ?_; clear hK K
     refine ⟨by rw [hseq]; simp [hci, hk, hkb, hs1, hcn, put_at], by (first | (simp [put_at, put_none, fr0_at, q0]; done) | rfl), by (first | (simp [put_at, put_none, fr0_at, q4]; done) | rfl), by (first | (simp [put_at, put_none, fr0_at, q5]; done) | rfl), by (first | (simp [put_at, put_none, fr0_at, q8]; done) | rfl), rfl⟩
   ·have hs3 : (o.seq == 1 + (ah : Int)) = false := by simp [hs1]
    (refine aw_ops (by kernel_rfl) (fun K hK => ?_); simp (disch := first | omega | (simp only [lnS]; try omega)) [-getElem?_pos, -getElem?_neg, q0, q5, q10, hk, hkb, d5, c3, c1, ca, hul, -notTuple, hnt, hvc, nt_intG, nt_ptrG, -xlen, hxl, hs1, hs3]; refine hK _ _ ?_; clear hK K)
    refine ⟨by rw [hseq]; simp [hk, hkb, hs1, put_at], by (first | (simp [put_at, put_none, fr0_at, q0]; done) | rfl), by (first | (simp [put_at, put_none, fr0_at, q4]; done) | rfl), by (first | (simp [put_at, put_none, fr0_at, q5]; done) | rfl), by (first | (simp [put_at, put_none, fr0_at, q8]; done) | rfl), rfl⟩
 clear q0 q4 q5 q8 q10 q39 q40 q41
 rintro α G3 ⟨q81, q0, q4, q5, q8, rfl⟩
 cases hso : seqOk l o with
 | false =>
  rw [hso] at q81
  refine aw_t (by (first | (simp [eval_tmp, put_at, q81]; done) | (simp [eval_tmp, put_at, q81]; omega))) (by kernel_rfl) ?_
  refine aw_seq ?_
  (refine aw_ops (by kernel_rfl) (fun K hK => ?_); simp (disch := first | omega | (simp only [lnS]; try omega)) [-getElem?_pos, -getElem?_neg]; refine hK _ _ ?_; clear hK K)
  (refine aw_ret ?_; simp (disch := first | omega | (simp only [lnS]; try omega)) [-getElem?_pos, -getElem?_neg, thenQ_ret, scopeQ_ret, inBlockQ_ret, RQ, resL, resV])
  exact AddQ.bad (hn ▸ hlowG1) (by rw [hle, if_pos hso]) (by decide)
 | true =>
 rw [hso] at q81
 refine aw_f (by (first | (simp [eval_tmp, put_at, q81]; done) | (simp [eval_tmp, put_at, q81]; omega))) (by kernel_rfl) ?_
 refine aw_skip ?_
 refine aw_seq ?_
 have hadd0 : addE l id o = 0 := by rw [hle, if_neg (by simp [hso])]
 obtain ⟨L0, hL0⟩ : ∃ k, k = G3.length := ⟨_, rfl⟩
 obtain ⟨N, hcN⟩ := deepNodes_ac (nro := n) (γ := γ) hNG1 (by omega) (right_sm h1) (by omega)
 rw [← hL0] at hcN
 have hxw : (addD l id o).Wf := by
  rw [hdd]
  refine ⟨hid, hw, fun z hz => ?_, by simp only [maxLen]; omega⟩
  obtain ⟨k, rfl, hk⟩ := hPb z hz
  unfold I64
  omega
 have hcO : ∀ A : AH, A.length = N → Low L0 G3 A → AC Try.prog n γ 82 #[.agg us.toArray] A (DeepO A o pv wv bv) := fun A hA hlow => deepOp_ac (nro := n) (γ := γ) (hOG1.low (fun j hj => hlow.1 j (by omega))) hw ⟨by omega, by omega, by omega⟩ (by have := hlow.2; omega)
 unfold DeepO at hcO
 have hbl := build_node (x := addD l id o) (pv := opP pv N) (wv := opW pv wv N) (bv := opB pv wv bv N) hxw v1 v2
 have hrl := nodeRow_len hxw (opP pv N) (opW pv wv N) (opB pv wv bv N) sv
 have hrv : ∀ D : AH, KsV D (opP pv N) o.parents → InV D (opW pv wv N) o.who → BxV D (opB pv wv bv N) o.boxes → InV D sv P → ValL D (addD l id o).row (nodeRow (addD l id o) (opP pv N) (opW pv wv N) (opB pv wv bv N) sv) := fun D k1 k2 k3 k4 => by
  have : (addD l id o).past = P := by rw [hdd]
  exact node_val (x := addD l id o) k1 k2 k3 (by rw [this]; exact k4)
 have hxid : (addD l id o).id = id := rfl
 have hxop : (addD l id o).op = o := rfl
 rw [hxid, hxop] at hbl
 obtain ⟨ov, hov⟩ : ∃ ov, ov = opRow o (opP pv N) (opW pv wv N) (opB pv wv bv N) := ⟨_, rfl⟩
 have hovl := opRow_len hw (opP pv N) (opW pv wv N) (opB pv wv bv N)
 rw [← hov] at hbl hovl
 have hwfx : ∀ x ∈ l ++ [addD l id o], x.Wf := fun x hx => by
  rcases List.mem_append.1 hx with hx | hx
  ·exact hN.wf x hx
  ·rw [List.mem_singleton] at hx; subst hx; exact hxw
 obtain ⟨row, hrow⟩ : ∃ r, r = nodeRow (addD l id o) (opP pv N) (opW pv wv N) (opB pv wv bv N) sv := ⟨_, rfl⟩
 rw [← hrow] at hbl hrl hrv
 have hown0 := hown
 have hFl := hown.lt
 obtain ⟨N2, hN2⟩ : ∃ k, k = N + opN pv wv bv := ⟨_, rfl⟩
 obtain ⟨Φ, e0, e1, e2, e3, e4, eS⟩ : ∃ Φ : Nat → AH → Prop, (∀ A, Φ 0 A ↔ A = G3) ∧ (∀ A, Φ 1 A ↔ (A.length = N ∧ Low L0 G3 A ∧ ∃ R, NewRows (L0 + 1) A R l ∧ hget A L0 = some ⟨R.flatten, 50, some 104⟩)) ∧
   (∀ A, Φ 2 A ↔ (A.length = N2 ∧ Low L0 G3 A ∧ L0 < N ∧ NewO N A o (opP pv N) (opW pv wv N) (opB pv wv bv N) ∧ ∃ R, NewRows (L0 + 1) A R l ∧ hget A L0 = some ⟨R.flatten, 50, some 104⟩)) ∧
   (∀ A, Φ 3 A ↔ ∃ B, Φ 2 B ∧ A = B ++ [some ⟨row, 50, some 104⟩]) ∧ (∀ A, Φ 4 A ↔ (Low L0 G3 A ∧ NewG n A (.slice (some ⟨N2 + 1, 0, none⟩) (l.length + 1) (l.length + 1)) (l ++ [addD l id o]))) ∧ (∀ s A, Φ s A → Low L0 G3 A) := by
  refine ⟨fun s A => match s with
   | 0 => A = G3
   | 1 => A.length = N ∧ Low L0 G3 A ∧ ∃ R, NewRows (L0 + 1) A R l ∧ hget A L0 = some ⟨R.flatten, 50, some 104⟩
   | 2 => A.length = N2 ∧ Low L0 G3 A ∧ L0 < N ∧ NewO N A o (opP pv N) (opW pv wv N) (opB pv wv bv N) ∧ ∃ R, NewRows (L0 + 1) A R l ∧ hget A L0 = some ⟨R.flatten, 50, some 104⟩
   | 3 => ∃ B : AH, (B.length = N2 ∧ Low L0 G3 B ∧ L0 < N ∧ NewO N B o (opP pv N) (opW pv wv N) (opB pv wv bv N) ∧ ∃ R, NewRows (L0 + 1) B R l ∧ hget B L0 = some ⟨R.flatten, 50, some 104⟩) ∧ A = B ++ [some ⟨row, 50, some 104⟩]
   | _ => Low L0 G3 A ∧ NewG n A (.slice (some ⟨N2 + 1, 0, none⟩) (l.length + 1) (l.length + 1)) (l ++ [addD l id o]), fun _ => Iff.rfl, fun _ => Iff.rfl, fun _ => Iff.rfl, fun _ => Iff.rfl, fun _ => Iff.rfl, fun s A h => ?_⟩
  match s, h with
  | 0, h => cases h; rw [hL0]; exact Low.refl (Nat.le_refl _)
  | 1, h => exact h.2.1
  | 2, h => exact h.2.1
  | 3, ⟨B, h, hA⟩ => rw [hA]; exact ⟨fun j hj => (hget_left (by have := h.2.1.2; omega)).trans (h.2.1.1 j hj), by have := h.2.1.2; rw [List.length_append]; omega⟩
  | s + 4, h => exact h.1
 refine aw_chain (fun j => j == n || j == n + 1) Φ (by kernel_rfl) (by kernel_rfl) (by kernel_rfl) (fun s A h j hj => by
  have e : j = n ∨ j = n + 1 := by simpa using hj
  exact (eS s A h).1 j (by omega)) ((e0 _).2 rfl) (fun K hK => ?_)
 simp (disch := first | omega | (simp only [lnS]; try omega)) [-getElem?_pos, -getElem?_neg, q0, q4, q5, q8, d4, d5, hivl, hta, hul, htu, -notTuple, hnt, hvc, v1, v2, nt_intG, nt_aggG, nt_slG, CL_nil, CL_cons, CLc_val, CLc_skip, memS, inS, inSp, isCallH, isCallU, isCallF, calleeH_f, calleeH_t, effF]
 refine CLc_call (v := .slice (some ⟨L0, 0, none⟩) l.length l.length) (by kernel_rfl) (fun A hA => ?_) ?_
 ·obtain rfl := (e0 _).1 hA
  exact hcN.mono fun v' A' h => ⟨h.1, (e1 _).2 h.2⟩
 try simp (disch := first | omega | (simp only [lnS]; try omega)) [-getElem?_pos, -getElem?_neg, q0, q4, q5, q8, d4, d5, hivl, hta, hul, htu, -notTuple, hnt, hvc, v1, v2, nt_intG, nt_aggG, nt_slG, CL_nil, CL_cons, CLc_val, CLc_skip, memS, inS, inSp, isCallH, isCallU, isCallF, calleeH_f, calleeH_t, effF]
 refine CLc_call (v := .agg ov.toArray) (by kernel_rfl) (fun A hA => ?_) ?_
 ·obtain ⟨g1, g2, R, g3, g4⟩ := (e1 _).1 hA
  refine (hcO A g1 g2).mono ?_
  rintro v' A' ⟨k1, k2, k3, k4⟩
  rw [g1] at k1 k2 k3 k4
  have hL0A := hget_lt g4
  refine ⟨by rw [hov]; exact k1, (e2 _).2 ⟨by omega, ⟨fun j hj => (k3.1 j (by omega)).trans (g2.1 j hj), by have := k3.2; omega⟩, by omega, k4, R, g3.keep (fun j _ hj => k3.1 j (by omega)) (by have := k3.2; omega), (k3.1 L0 (by omega)).trans g4⟩⟩
 try simp (disch := first | omega | (simp only [lnS]; try omega)) [-getElem?_pos, -getElem?_neg, q0, q4, q5, q8, d4, d5, hivl, hta, hul, htu, -notTuple, hnt, hvc, v1, v2, nt_intG, nt_aggG, nt_slG, -xbuild, hbl, CL_nil, CL_cons, CLc_val, CLc_skip, memS, inS, inSp, isCallH, isCallU, isCallF, calleeH_f, calleeH_t, effF]
 have hfil : ∀ Z : List Value, Z.length = 104 → xfill (fun i => some (i * 104, 104)) Z [(0, .agg row.toArray)] = some row := fun Z hZ => fill_row hrl hZ
 have hp0 : plain1 (.slice none 0 0) = true := rfl
 refine CLc_eff (v := .slice (some ⟨N2, 0, none⟩) 1 1) (fun A hA => ?_) ?_
 ·have hA' := (e2 _).1 hA
  refine ⟨A ++ [some ⟨row, 50, some 104⟩], ?_, (e3 _).2 ⟨A, hA, rfl⟩⟩
  have g1 := hA'.1
  simp (disch := first | omega | (simp only [lnS]; try omega)) [-getElem?_pos, -getElem?_neg, -xfill, nt_aggG, hp0, all_zl, g1]
  rw [hfil _ (by simp)]
 try simp (disch := first | omega | (simp only [lnS]; try omega)) [-getElem?_pos, -getElem?_neg, CL_nil, CL_cons, CLc_val, CLc_skip, memS, inS, inSp, isCallH, isCallU, isCallF, calleeH_f, calleeH_t, effF]
 refine CLc_eff (v := .slice (some ⟨N2 + 1, 0, none⟩) (l.length + 1) (l.length + 1)) (fun A hA => ?_) ?_
 ·obtain ⟨B, hB, rfl⟩ := (e3 _).1 hA
  obtain ⟨g1, g2, hLN, g3, R, g4, g5⟩ := (e2 _).1 hB
  have hL0B := hget_lt g5
  have hRl := fl_len g4.len
  rw [g4.1] at hRl
  have htr : List.take 104 row = row := List.take_of_length_le (by omega)
  have hxc : xcells 104 (.slice (some ⟨N2, 0, none⟩) 1 1) (B ++ [some ⟨row, 50, some 104⟩]) = some row := by rw [← g1]; simp [xcells, hget_app0, hrl, htr]
  obtain ⟨v', H', hap, ho, hl', hk'⟩ := ownF_append (P := Try.prog) (nro := n) (t := 22) (e := 50) (H := B ++ ([some ⟨row, 50, some 104⟩] : AH)) (v := .slice (some ⟨L0, 0, none⟩) l.length l.length) (x := .slice (some ⟨N2, 0, none⟩) 1 1) (sz := 104) (cells := R.flatten) (news := row) (F := [L0]) (by simp) (by simp) (by omega) (by simp) (.inr ⟨L0, l.length, rfl, hget_left' g5, hRl, rfl⟩)
   (fun j hj => by simp at hj; omega) (fun s e => by cases e) hxc (fun e => by rw [e] at hrl; simp at hrl) (by rw [hrl]) (by rw [hRl, hrl]; simp; omega) (by rw [hRl, hrl]; simp only [maxLen]; omega)
  have hBl : (B ++ ([some ⟨row, 50, some 104⟩] : AH)).length = N2 + 1 := by simp [g1]
  rw [hBl] at ho hl' hk'
  obtain ⟨len, rfl⟩ := ho.new
  have hlen : len = l.length + 1 := by
   rcases ho with ⟨h, _, _⟩ | ⟨i, k, he, _, h3, _⟩
   ·cases h
   ·cases he
    rw [List.length_append, hRl, hrl] at h3
    omega
  subst hlen
  have hnew : hget H' (N2 + 1) = some ⟨R.flatten ++ row, 50, some 104⟩ := by
   rcases ho with ⟨h, _, _⟩ | ⟨i, k, he, h2, _, _⟩
   ·cases h
   ·cases he; exact h2
  have hold : ∀ j, j < N2 → j ≠ L0 → hget H' j = hget B j := fun j hj hn => (hk' j (by omega) (by simpa using hn)).trans (hget_left (by omega))
  refine ⟨H', ?_, (e4 _).2 ⟨⟨fun j hj => (hold j (by omega) (by omega)).trans (g2.1 j hj), by omega⟩, fun D hD => ?_⟩⟩
  ·simp (disch := first | omega | (simp only [lnS]; try omega)) [-getElem?_pos, -getElem?_neg, -xappend, hap]
  ·have hD2 : ∀ j, n ≤ j → j < N2 → j ≠ L0 → hget D j = hget B j := fun j h1 h2 h3 => (hD j h1 (by omega)).trans (hold j h2 h3)
   obtain ⟨k1, k2, k3⟩ := g3 D (fun j h1 h2 => hD2 j (by omega) (by omega) (by omega))
   have ho2 := hown0.low (H' := D) (fun j hj => (hD2 j (by have := hFn j hj; omega) (by have := hFl j hj; omega) (by have := hFl j hj; omega)).trans (g2.1 j (by have := hFl j hj; omega)))
   have hrow2 := hrv D k1 k2 k3 (own_inv ho2)
   have hfin := rows_val (D := D) (b := N2 + 1) (T := 50) (es := some 104) (R := R ++ [row]) (L := l ++ [addD l id o]) (by rw [hD (N2 + 1) (by omega) (by omega), hnew]; simp) (by simp [g4.1]) hwfx (fun k us' x hk hx => by
    rcases Nat.lt_or_ge k l.length with hkl | hkl
    ·rw [List.getElem?_append_left (by rw [g4.1]; exact hkl)] at hk
     rw [List.getElem?_append_left hkl] at hx
     have := g4.2 k us' x hk hx
     exact ⟨this.1, this.2 D (fun j h1 h2 => hD2 j (by omega) (by omega) (by omega))⟩
    ·rw [List.getElem?_append_right (by rw [g4.1]; exact hkl), g4.1] at hk
     rw [List.getElem?_append_right hkl] at hx
     match k - l.length, hk, hx with
     | 0, hk, hx => cases hk; cases hx; exact ⟨hrl, hrow2⟩)
   rw [List.length_append] at hfin
   exact hfin
 try simp (disch := first | omega | (simp only [lnS]; try omega)) [-getElem?_pos, -getElem?_neg, CL_nil, CL_cons, CLc_val, CLc_skip, memS, inS, inSp, isCallH, isCallU, isCallF, calleeH_f, calleeH_t, effF]
 intro A hA
 obtain ⟨g1, g2⟩ := (e4 _).1 hA
 refine hK _ _ ?_; clear hK K
 (refine aw_ret ?_; simp (disch := first | omega | (simp only [lnS]; try omega)) [-getElem?_pos, -getElem?_neg, thenQ_ret, scopeQ_ret, inBlockQ_ret, RQ, resL, resV])
 refine ⟨⟨fun j hj => (g1.1 j (by omega)).trans (hlowG1.1 j (by omega)), by have := g1.2; omega⟩, _, by rw [hadd0], .inl ⟨hadd0, hn ▸ g2⟩⟩
end
section
theorem opC_row {G : AH} {o : OpD} {pv wv bv : Value} (hw : o.Wf) (h1 : KsV G pv o.parents) (h2 : InV G wv o.who) (h3 : BxV G bv o.boxes) : OpC G (opRow o pv wv bv) o pv wv bv := by
 obtain ⟨pv', wv', bv', h⟩ := op_c hw (op_val h1 h2 h3)
 have e2 := h.c2
 have e4 := h.c4
 have e70 := h.c70
 rw [opRow_2] at e2
 rw [opRow_4] at e4
 rw [opRow_70 hw] at e70
 cases e2; cases e4; cases e70
 exact h
def key1 (x : Int) : List Int := x :: zl 31
def opC1 (a s k : Int) (ps : List (List Int)) (who : List Int) : OpD := ⟨a, s, ps, k, who, zl 32, key1 1, ByteArray.empty, []⟩
theorem key1_32 (x : Int) : (key1 x).length = 32 := by simp [key1]
theorem key1_ok {x : Int} (h : 0 ≤ x ∧ x ≤ 255) : Key32 (key1 x) := ⟨key1_32 x, fun y hy => by
 rcases List.mem_cons.1 hy with rfl | hy
 ·exact h
 ·have : y = 0 := by
   unfold zl at hy
   exact (List.mem_replicate.1 hy).2
  omega⟩
theorem build_key (x : Int) : xbuild Try.prog 38 [(0, .int .u8 x)] = some (.agg (iv .u8 (key1 x)).toArray) := by
 kernel_rfl
theorem build_create (x : Int) (d : Addr) (n : Nat) : xbuild Try.prog 41 [(0, .int .i64 x), (1, .int .u32 1), (3, .int .i64 1), (4, .slice (some d) n n), (6, .agg (iv .u8 (key1 1)).toArray)] = some (.agg (opRow (opC1 x 1 1 [] []) (.slice none 0 0) (.slice (some d) n n) (.slice none 0 0)).toArray) := by kernel_rfl
theorem opRow_c1 (a s k : Int) (ps : List (List Int)) (who : List Int) (pv wv bv : Value) : opRow (opC1 a s k [] []) pv wv bv = opRow (opC1 a s k ps who) pv wv bv := rfl
attribute [local simp] wb_bool wb_undef with_lit XL_nil XL_cons XLc_val XLc_call step1_eq stepW_t stepW_f stepC_n stepC_s stepX_s stepX_n stepN_s calleeX oneV xop_eq xopR_s xopR_n wantedA_eq wantedG_n wantedG_s plain1_int plain1_bool plain1_string bits_i64 bits_u64 bits_u32 bits_u16 bits_u8 xeqA xagg xcmp xarr allK_iv num_iv calleeOf xread xeff xbin xint xnil xun xstr xload xconv xpart xfield xfieldAddr xindexAddr xindex bnd asInt? xslice xlen xmin xmax xbuild xfill xappend xapp2 xappstr xappmk xcap xcopy xcells eval_tmp eval_const put_at put_none fr0_at cells_agg cells_int cells_bool cells_string cells_ptr cells_slice notTuple tab iv_all hget_app hget_app0 hget_cons0 hget_cons set_app set_app0 setR setR_one QL_nil QL_cons QLc_val stepQ_t stepQ_f stepQC_n stepQC_s stepQX_s SL_nil SL_cons SLc_val stepS_t stepS_f ltT ltF leT leF eqT eqF ltTn ltFn leTn leFn eqTn eqFn beqT beqF bneT bneF wi64 wu64 wu32 wu16 wu8 tmodP tdivP hgetL hgetNe hgetEq setL nums_def nums_len Nat.succ_le_of_lt List.getElem?_cons_zero List.getElem?_cons_succ Option.getD_some Int.toNat_add Int.toNat_mul agM okM agB agI agS agP agL agA okB okI okS okP okSl okA
theorem opC1_wf {a s k : Int} {ps : List (List Int)} {who : List Int} (ha : I64 a) (hs : U32 s) (hk : I64 k) (hp : ∀ p ∈ ps, Key32 p) (hpl : ps.length ≤ 100) (hw : ∀ z ∈ who, I64 z) (hwl : who.length ≤ 100) : (opC1 a s k ps who).Wf := by
 refine ⟨ha, hs, hp, by simp only [maxLen]; show ps.length ≤ _; omega, hk, hw, by simp only [maxLen]; show who.length ≤ _; omega, ⟨by simp [opC1], fun y hy => ?_⟩, key1_ok (by omega), by simp [opC1], fun b hb => (by cases hb), by simp [opC1]⟩
 have : y = 0 := (List.mem_replicate.1 hy).2
 omega
theorem NewG.nda {n : Nat} {H G : AH} {v : Value} {l : List NodeD} (h : NewG n H v l) (hw : ∀ x ∈ l, x.Wf) (hk : KeepN n H G) : NdA G v l := (h G hk).nda hw
theorem nil_nda (H : AH) : NdA H (.slice none 0 0) [] := NdV.nda (CD.Val.nil (fun x e => by cases e)) (fun x hx => by cases hx)
theorem AddQ.zero {l : List NodeD} {id : List Int} {o : OpD} {H : AH} {v' : Value} {H' : AH} {L : List NodeD} (h : AddQ l id o H v' H') (hz : addE l id o = 0 ∧ l ++ [addD l id o] = L) : Low H.length H H' ∧ ∃ sv, v' = .tuple #[sv, .int .i64 0] ∧ NewG H.length H' sv L := by
 obtain ⟨h1, sv, h2, h3⟩ := h
 rw [hz.1] at h2
 refine ⟨h1, sv, h2, ?_⟩
 rcases h3 with ⟨_, h3⟩ | ⟨h3, _⟩
 ·rw [← hz.2]; exact h3
 ·exact absurd hz.1 h3
theorem NewG.sh {n : Nat} {H : AH} {v : Value} {l : List NodeD} (h : NewG n H v l) : notTuple v = true ∧ v.cells = #[v] := val_nt (h H (fun _ _ _ => rfl))
theorem kr_ksv {G : AH} {v : Value} {F : List Nat} {ps : List (List Int)} (h : OwnF G v 38 32 (kr ps) F) (hk : K32 ps) : KsV G v ps := by
 rw [← ksC_kr] at h
 exact own_val (by omega) h (kd_len hk) (kd_flat ps)
end
section
section
variable {l : List NodeD}
theorem ahead_iff {a b : Int} : aheadB l a b = true ↔ ∃ i j : Nat, a = i ∧ b = j ∧ i < l.length ∧ j < l.length ∧ rightG l = true ∧ (i : Int) ∈ (nd l j).past := by
 unfold aheadB pastAt
 simp only [Bool.and_eq_true, decide_eq_true_eq]
 constructor
 ·rintro ⟨h1, h2, h3, h4⟩
  obtain ⟨i, rfl, hi⟩ := isP_nat h1
  obtain ⟨j, rfl, hj⟩ := isP_nat h2
  exact ⟨i, j, rfl, rfl, hi, hj, h3, h4⟩
 ·rintro ⟨i, j, rfl, rfl, hi, hj, h3, h4⟩
  refine ⟨?_, ?_, h3, h4⟩
  ·unfold isP; simp [hi]
  ·unfold isP; simp [hj]
end
end
section
def Fun1 (γ : Nat → Option Nat) (H : AH) (f : Nat) (cs : Array Value) (P : Int → Bool) : Prop := callable Try.prog f = true ∧ ∀ (G : AH) (z : Int), Low H.length H G → AC Try.prog G.length γ f (#[.int .i64 z] ++ cs) G (fun v' _ => v' = .bool (P z))
def Grp (γ : Nat → Option Nat) (H : AH) (v : Value) (P : Int → Bool) : Prop := ∃ f cs, v = .agg #[.func (.func f) #[] cs] ∧ Fun1 γ H f cs P
theorem Low.both {A B C : AH} (h : Low A.length A B) (k : Low B.length B C) : Low A.length A C := ⟨fun j hj => (k.1 j (by have := h.2; omega)).trans (h.1 j hj), by have := h.2; have := k.2; omega⟩
theorem Fun1.low {γ : Nat → Option Nat} {H H' : AH} {f : Nat} {cs : Array Value} {P : Int → Bool} (h : Fun1 γ H f cs P) (hl : Low H.length H H') : Fun1 γ H' f cs P := ⟨h.1, fun G z hg => h.2 G z (hl.both hg)⟩
theorem Grp.low {γ : Nat → Option Nat} {H H' : AH} {v : Value} {P : Int → Bool} (h : Grp γ H v P) (hl : Low H.length H H') : Grp γ H' v P := by
 obtain ⟨f, cs, e, hf⟩ := h
 exact ⟨f, cs, e, hf.low hl⟩
theorem any_first {n : Nat} {p : Nat → Bool} : decide (0 ≤ firstI n p) = (List.range n).any p := by
 rw [Bool.eq_iff_iff, decide_eq_true_eq, firstI_ge, List.any_eq_true]
 exact ⟨fun ⟨k, h1, h2⟩ => ⟨k, List.mem_range.2 h1, h2⟩, fun ⟨k, h1, h2⟩ => ⟨k, List.mem_range.1 h1, h2⟩⟩
theorem any_getD {l : List Int} {P : Int → Bool} : ((List.range l.length).any fun i => P (l.getD i 0)) = l.any P := by
 rw [Bool.eq_iff_iff, List.any_eq_true, List.any_eq_true]
 constructor
 ·rintro ⟨i, hi, hp⟩
  rw [List.mem_range] at hi
  rw [List.getD_eq_getElem?_getD, List.getElem?_eq_getElem hi] at hp
  exact ⟨l[i], List.getElem_mem hi, hp⟩
 ·rintro ⟨x, hx, hp⟩
  obtain ⟨i, hi, rfl⟩ := List.mem_iff_getElem.1 hx
  refine ⟨i, List.mem_range.2 hi, ?_⟩
  rwa [List.getD_eq_getElem?_getD, List.getElem?_eq_getElem hi]
attribute [local simp] wb_bool wb_undef with_lit XL_nil XL_cons XLc_val XLc_call step1_eq stepW_t stepW_f stepC_n stepC_s stepX_s stepX_n stepN_s calleeX oneV xop_eq xopR_s xopR_n wantedA_eq wantedG_n wantedG_s plain1_int plain1_bool plain1_string bits_i64 bits_u64 bits_u32 bits_u16 bits_u8 xeqA xagg xcmp xarr allK_iv num_iv calleeOf xread xeff xbin xint xnil xun xstr xload xconv xpart xfield xfieldAddr xindexAddr xindex bnd asInt? xslice xlen xmin xmax xbuild xfill xappend xapp2 xappstr xappmk xcap xcopy xcells eval_tmp eval_const put_at put_none fr0_at cells_agg cells_int cells_bool cells_string cells_ptr cells_slice notTuple tab iv_all hget_app hget_app0 hget_cons0 hget_cons set_app set_app0 setR setR_one QL_nil QL_cons QLc_val stepQ_t stepQ_f stepQC_n stepQC_s stepQX_s SL_nil SL_cons SLc_val stepS_t stepS_f ltT ltF leT leF eqT eqF ltTn ltFn leTn leFn eqTn eqFn beqT beqF bneT bneF wi64 wu64 wu32 wu16 wu8 tmodP tdivP hgetL hgetNe hgetEq setL nums_def nums_len Nat.succ_le_of_lt List.getElem?_cons_zero List.getElem?_cons_succ Option.getD_some Int.toNat_add Int.toNat_mul agM okM agB agI agS agP agL agA okB okI okS okP okSl okA
theorem indexI_rc {γ : Nat → Option Nat} {H : AH} {v : Value} {l : List Int} (h : InV H v l) (hm : l.length ≤ maxLen) {f : Nat} {cs : Array Value} {p : Nat → Bool} (hcal : callable Try.prog f = true)
  (hf : ∀ (G : AH) (i : Nat), Low H.length H G → i < l.length → AC Try.prog G.length γ f (#[.int .i64 (l.getD i 0)] ++ cs) G (fun v' _ => v' = .bool (p i))) :
  AC Try.prog H.length γ 145 #[v, .func (.func f) #[] cs] H (fun v' _ => v' = .int .i64 (firstI l.length p)) := by
 have hacc := h.acc
 have hnt := hacc.nt
 have hvc := hacc.cs
 have hxl := hacc.len
 have hm63 : l.length ≤ 9223372036854775807 := by simp only [maxLen] at hm; omega
 have hfn : notTuple (.func (.func f) #[] cs) = true := rfl
 have hfc : (Value.func (.func f) #[] cs).cells = #[.func (.func f) #[] cs] := rfl
 refine ac_of_aw Try.func145 rfl Try.ntmps145 Try.results145 (by simp) ?_
 refine aw_seq ?_
 (refine aw_ops (by kernel_rfl) (fun K hK => ?_); simp (disch := first | omega | (simp only [lnS]; try omega)) [-getElem?_pos, -getElem?_neg]; refine hK _ _ ?_; clear hK K)
 refine aw_seq ?_
 refine aw_seq ?_
 (refine aw_ops (by kernel_rfl) (fun K hK => ?_); simp (disch := first | omega | (simp only [lnS]; try omega)) [-getElem?_pos, -getElem?_neg, -notTuple, hnt, hvc, nt_intG, -xlen, hxl]; refine hK _ _ ?_; clear hK K)
 refine aw_block ?_
 refine aw_loop (fun c α G => ∃ i : Nat, i + c = l.length ∧ Low H.length H G ∧ α 0 = v ∧ α 1 = .func (.func f) #[] cs ∧ α 7 = .int .i64 (l.length : Nat) ∧ α 8 = .int .i64 (i : Nat) ∧ ∀ k, k < i → p k = false) l.length ?_ ?_
 ·exact ⟨0, by omega, Low.refl (Nat.le_refl _), by (first | (simp [put_at, put_none, fr0_at]; done) | rfl), by (first | (simp [put_at, put_none, fr0_at]; done) | rfl), by (first | (simp [put_at, put_none, fr0_at]; done) | rfl), by (first | (simp [put_at, put_none, fr0_at]; done) | rfl), fun k hk => by omega⟩
 rintro c α G ⟨i, hic, hlow, h0, h1, h7, h8, hpre⟩
 refine aw_seq ?_
 by_cases hi : i < l.length
 case neg =>
  (refine aw_ops (by kernel_rfl) (fun K hK => ?_); simp (disch := first | omega | (simp only [lnS]; try omega)) [-getElem?_pos, -getElem?_neg, h7, h8, hi]; refine hK _ _ ?_; clear hK K)
  refine aw_seq ?_
  refine aw_f (by (first | (simp [eval_tmp, put_at, hi]; done) | (simp [eval_tmp, put_at, hi]; omega))) (by kernel_rfl) ?_
  refine aw_exit ?_
  refine aw_seq ?_
  (refine aw_ops (by kernel_rfl) (fun K hK => ?_); simp (disch := first | omega | (simp only [lnS]; try omega)) [-getElem?_pos, -getElem?_neg]; refine hK _ _ ?_; clear hK K)
  (refine aw_ret ?_; simp (disch := first | omega | (simp only [lnS]; try omega)) [-getElem?_pos, -getElem?_neg, thenQ_ret, scopeQ_ret, inBlockQ_ret, RQ, resL, resV])
  exact (firstI_none (fun k hk => hpre k (by omega))).symm
 obtain ⟨q, x, r1, r2, r3, r4, r5⟩ := hacc.at_ i hi
 have r5 := r5 G hlow
 subst r4
 have hc := hf G i hlow hi
 obtain ⟨z, hz⟩ : ∃ z, z = l.getD i 0 := ⟨_, rfl⟩
 rw [← hz] at hc r5
 (refine aw_ops (by kernel_rfl) (fun K hK => ?_); simp (disch := first | omega | (simp only [lnS]; try omega)) [-getElem?_pos, -getElem?_neg, h7, h8, hi]; refine hK _ _ ?_; clear hK K)
 refine aw_seq ?_
 refine aw_t (by (first | (simp [eval_tmp, put_at, hi]; done) | (simp [eval_tmp, put_at, hi]; omega))) (by kernel_rfl) ?_
 refine aw_skip ?_
 refine aw_seq ?_
 refine aw_block ?_
 refine aw_seq ?_
 (refine aw_ops (by kernel_rfl) (fun K hK => ?_); simp (disch := first | omega | (simp only [lnS]; try omega)) [-getElem?_pos, -getElem?_neg, h8]; refine hK _ _ ?_; clear hK K)
 refine aw_seq ?_
 refine aw_ops (by kernel_rfl) (fun K hK => ?_)
 simp (disch := first | omega | (simp only [lnS]; try omega)) [-getElem?_pos, -getElem?_neg, h0, h1, -notTuple, hnt, hvc, hfn, hfc, nt_intG, r1, -xindexAddr, r2, -xload, r5]
 refine ⟨hcal, ac_of_rc hc (by simp [pv_iv, pv_int, pv_bool, pv_string, pv_tup2, pv_tup3, iv_plain, p2_int, p2_bool, p2_string]) ?_⟩
 cases hp : p i with
 | true =>
  try simp (disch := first | omega | (simp only [lnS]; try omega)) [-getElem?_pos, -getElem?_neg]
  refine hK _ _ ?_; clear hK K
  refine aw_t (by (first | (simp [eval_tmp, put_at]; done) | (simp [eval_tmp, put_at]; omega))) (by kernel_rfl) ?_
  refine aw_seq ?_
  (refine aw_ops (by kernel_rfl) (fun K hK => ?_); simp (disch := first | omega | (simp only [lnS]; try omega)) [-getElem?_pos, -getElem?_neg]; refine hK _ _ ?_; clear hK K)
  (refine aw_ret ?_; simp (disch := first | omega | (simp only [lnS]; try omega)) [-getElem?_pos, -getElem?_neg, thenQ_ret, scopeQ_ret, inBlockQ_ret, RQ, resL, resV])
  exact (firstI_some hi hpre hp).symm
 | false =>
  try simp (disch := first | omega | (simp only [lnS]; try omega)) [-getElem?_pos, -getElem?_neg]
  refine hK _ _ ?_; clear hK K
  refine aw_f (by (first | (simp [eval_tmp, put_at]; done) | (simp [eval_tmp, put_at]; omega))) (by kernel_rfl) ?_
  refine aw_skip ?_
  (refine aw_ops (by kernel_rfl) (fun K hK => ?_); simp (disch := first | omega | (simp only [lnS]; try omega)) [-getElem?_pos, -getElem?_neg, h8]; refine hK _ _ ?_; clear hK K)
  refine ⟨c - 1, by omega, i + 1, by omega, hlow, by (first | (simp [put_at, put_none, fr0_at, h0]; done) | rfl), by (first | (simp [put_at, put_none, fr0_at, h1]; done) | rfl), by (first | (simp [put_at, put_none, fr0_at, h7]; done) | rfl), by (first | (simp [put_at, put_none, fr0_at]; done) | rfl), fun k hk => ?_⟩
  by_cases e : k = i
  ·subst e; exact hp
  ·exact hpre k (by omega)
theorem anyI_rc {γ : Nat → Option Nat} {H : AH} {v : Value} {l : List Int} (h : InV H v l) (hm : l.length ≤ maxLen) {f : Nat} {cs : Array Value} {P : Int → Bool} (hcal : callable Try.prog f = true)
  (hf : ∀ (G : AH) (z : Int), Low H.length H G → z ∈ l → AC Try.prog G.length γ f (#[.int .i64 z] ++ cs) G (fun v' _ => v' = .bool (P z))) :
  AC Try.prog H.length γ 106 #[v, .func (.func f) #[] cs] H (fun v' _ => v' = .bool (l.any P)) := by
 have hacc := h.acc
 have hnt := hacc.nt
 have hvc := hacc.cs
 have hfn : notTuple (.func (.func f) #[] cs) = true := rfl
 have hfc : (Value.func (.func f) #[] cs).cells = #[.func (.func f) #[] cs] := rfl
 have hix := indexI_rc (γ := γ) h hm (p := fun i => P (l.getD i 0)) hcal (fun G i hg hi => hf G _ hg (by
  rw [List.getD_eq_getElem?_getD, List.getElem?_eq_getElem hi]
  exact List.getElem_mem hi))
 have hb := firstI_bd (n := l.length) (p := fun i => P (l.getD i 0))
 rw [← any_getD, ← any_first]
 generalize firstI l.length (fun i => P (l.getD i 0)) = r at *
 refine ac_of_aw Try.func106 rfl Try.ntmps106 Try.results106 (by simp) ?_
 refine aw_seq ?_
 (refine aw_ops (by kernel_rfl) (fun K hK => ?_); simp (disch := first | omega | (simp only [lnS]; try omega)) [-getElem?_pos, -getElem?_neg]; refine hK _ _ ?_; clear hK K)
 refine aw_seq ?_
 refine aw_ops (by kernel_rfl) (fun K hK => ?_)
 simp (disch := first | omega | (simp only [lnS]; try omega)) [-getElem?_pos, -getElem?_neg, -notTuple, hnt, hvc, hfn, hfc, nt_intG]
 refine ⟨by kernel_rfl, ac_of_rc hix (by simp [pv_iv, pv_int, pv_bool, pv_string, pv_tup2, pv_tup3, iv_plain, p2_int, p2_bool, p2_string]) ?_⟩
 by_cases h0 : 0 ≤ r
 ·simp (disch := first | omega | (simp only [lnS]; try omega)) [-getElem?_pos, -getElem?_neg, h0]
  refine hK _ _ ?_; clear hK K
  (refine aw_ret ?_; simp (disch := first | omega | (simp only [lnS]; try omega)) [-getElem?_pos, -getElem?_neg, thenQ_ret, scopeQ_ret, inBlockQ_ret, RQ, resL, resV, h0])
 ·simp (disch := first | omega | (simp only [lnS]; try omega)) [-getElem?_pos, -getElem?_neg, h0]
  refine hK _ _ ?_; clear hK K
  (refine aw_ret ?_; simp (disch := first | omega | (simp only [lnS]; try omega)) [-getElem?_pos, -getElem?_neg, thenQ_ret, scopeQ_ret, inBlockQ_ret, RQ, resL, resV, h0])
theorem cless_vc (a b : Int) : VC Try.prog 143 #[.int .i64 a, .int .i64 b] (.bool (decide (a < b))) := by
 refine vc_of_ac (by simp [pv_iv, pv_int, pv_bool, pv_string, pv_tup2, pv_tup3, iv_plain, p2_int, p2_bool, p2_string]) (by simp [pv_iv, pv_int, pv_bool, pv_string, pv_tup2, pv_tup3, iv_plain, p2_int, p2_bool, p2_string]) ?_
 refine ac_of_aw Try.func143 rfl Try.ntmps143 Try.results143 (by simp) ?_
 refine aw_seq ?_
 (refine aw_ops (by kernel_rfl) (fun K hK => ?_); simp (disch := first | omega | (simp only [lnS]; try omega)) [-getElem?_pos, -getElem?_neg]; refine hK _ _ ?_; clear hK K)
 refine aw_seq ?_
 refine aw_ops (by kernel_rfl) (fun K hK => ?_)
 simp (disch := first | omega | (simp only [lnS]; try omega)) [-getElem?_pos, -getElem?_neg]
 refine ⟨by kernel_rfl, ac_of_vc (by simp [pv_iv, pv_int, pv_bool, pv_string, pv_tup2, pv_tup3, iv_plain, p2_int, p2_bool, p2_string]) (isNaN_vc a) ?_⟩
 by_cases h : a < b
 ·simp (disch := first | omega | (simp only [lnS]; try omega)) [-getElem?_pos, -getElem?_neg, h]
  refine hK _ _ ?_; clear hK K
  (refine aw_ret ?_; simp (disch := first | omega | (simp only [lnS]; try omega)) [-getElem?_pos, -getElem?_neg, thenQ_ret, scopeQ_ret, inBlockQ_ret, RQ, resL, resV, h])
 ·simp (disch := first | omega | (simp only [lnS]; try omega)) [-getElem?_pos, -getElem?_neg, h]
  refine hK _ _ ?_; clear hK K
  (refine aw_ret ?_; simp (disch := first | omega | (simp only [lnS]; try omega)) [-getElem?_pos, -getElem?_neg, thenQ_ret, scopeQ_ret, inBlockQ_ret, RQ, resL, resV, h])
theorem snan_vc (a : Int) : VC Try.prog 144 #[.int .i64 a] (.bool false) := by
 refine vc_of_ac (by simp [pv_iv, pv_int, pv_bool, pv_string, pv_tup2, pv_tup3, iv_plain, p2_int, p2_bool, p2_string]) (by simp [pv_iv, pv_int, pv_bool, pv_string, pv_tup2, pv_tup3, iv_plain, p2_int, p2_bool, p2_string]) ?_
 refine ac_of_aw Try.func144 rfl Try.ntmps144 Try.results144 (by simp) ?_
 refine aw_seq ?_
 (refine aw_ops (by kernel_rfl) (fun K hK => ?_); simp (disch := first | omega | (simp only [lnS]; try omega)) [-getElem?_pos, -getElem?_neg]; refine hK _ _ ?_; clear hK K)
 refine aw_seq ?_
 (refine aw_ops (by kernel_rfl) (fun K hK => ?_); simp (disch := first | omega | (simp only [lnS]; try omega)) [-getElem?_pos, -getElem?_neg]; refine hK _ _ ?_; clear hK K)
 (refine aw_ret ?_; simp (disch := first | omega | (simp only [lnS]; try omega)) [-getElem?_pos, -getElem?_neg, thenQ_ret, scopeQ_ret, inBlockQ_ret, RQ, resL, resV])
def Inc (l : List Int) : Prop := l.Pairwise (· < ·)
theorem Inc.at_ {l : List Int} (h : Inc l) {i j : Nat} (hij : i < j) (hj : j < l.length) : l.getD i 0 < l.getD j 0 := by
 rw [List.getD_eq_getElem?_getD, List.getD_eq_getElem?_getD, List.getElem?_eq_getElem hj, List.getElem?_eq_getElem (by omega)]
 exact List.pairwise_iff_getElem.1 h i j (by omega) hj hij
theorem Inc.le {l : List Int} (h : Inc l) {i j : Nat} (hij : i ≤ j) (hj : j < l.length) : l.getD i 0 ≤ l.getD j 0 := by
 rcases Nat.eq_or_lt_of_le hij with rfl | hlt
 ·exact Int.le_refl _
 ·exact Int.le_of_lt (h.at_ hlt hj)
theorem inc_find {l : List Int} (h : Inc l) {z : Int} {i : Nat} (hi : i ≤ l.length) (hlo : ∀ k, k < i → l.getD k 0 < z) (hhi : ∀ k, i ≤ k → k < l.length → z ≤ l.getD k 0) : (i < l.length ∧ l.getD i 0 = z) ↔ z ∈ l := by
 rw [mem_iff_getD]
 constructor
 ·rintro ⟨h1, h2⟩
  exact ⟨i, h1, by simpa using h2⟩
 ·rintro ⟨k, hk, e⟩
  have e : l.getD k 0 = z := by simpa using e
  rcases Nat.lt_or_ge k i with hlt | hge
  ·have := hlo k hlt; omega
  ·have h1 := hhi i (Nat.le_refl _) (by omega)
   have h2 := h.le hge hk
   exact ⟨by omega, by omega⟩
def posN (l : List Int) (z : Int) : Nat → Nat
 | 0 => 0
 | n + 1 => posN l z n + if l.getD n 0 < z then 1 else 0
theorem posN_eq {l : List Int} {z : Int} {i : Nat} (hlo : ∀ k, k < i → l.getD k 0 < z) {N : Nat} (hhi : ∀ k, i ≤ k → k < N → z ≤ l.getD k 0) : ∀ n, n ≤ N → posN l z n = min n i := by
 intro n
 induction n with
 | zero => intro _; simp [posN]
 | succ n ih =>
  intro hn
  have ih := ih (by omega)
  unfold posN
  rw [ih]
  by_cases h : n < i
  ·rw [if_pos (hlo n h)]; omega
  ·have := hhi n (by omega) (by omega)
   rw [if_neg (by omega)]; omega
theorem bsearch_rc {γ : Nat → Option Nat} {H : AH} {v : Value} {l : List Int} (h : InV H v l) (hm : l.length ≤ 1000000) (hI : Inc l) (z : Int) : AC Try.prog H.length γ 104 #[v, .int .i64 z] H (fun v' _ => v' = .tuple #[.int .i64 (posN l z l.length : Nat), .bool (decide (z ∈ l))]) := by
 have hacc := h.acc
 have hnt := hacc.nt
 have hvc := hacc.cs
 have hxl := hacc.len
 refine ac_of_aw Try.func104 rfl Try.ntmps104 Try.results104 (by simp) ?_
 refine aw_seq ?_
 (refine aw_ops (by kernel_rfl) (fun K hK => ?_); simp (disch := first | omega | (simp only [lnS]; try omega)) [-getElem?_pos, -getElem?_neg]; refine hK _ _ ?_; clear hK K)
 refine aw_seq ?_
 (refine aw_ops (by kernel_rfl) (fun K hK => ?_); simp (disch := first | omega | (simp only [lnS]; try omega)) [-getElem?_pos, -getElem?_neg, -notTuple, hnt, hvc, nt_intG, -xlen, hxl]; refine hK _ _ ?_; clear hK K)
 refine aw_seq ?_
 (refine aw_ops (by kernel_rfl) (fun K hK => ?_); simp (disch := first | omega | (simp only [lnS]; try omega)) [-getElem?_pos, -getElem?_neg]; refine hK _ _ ?_; clear hK K)
 refine aw_seq ?_
 refine aw_block ?_
 refine aw_loop (fun c α G => ∃ i j : Nat, i + c = j ∧ j ≤ l.length ∧ H = G ∧ α 0 = v ∧ α 1 = .int .i64 z ∧ α 6 = .int .i64 (l.length : Nat) ∧ α 7 = .int .i64 (i : Nat) ∧ α 8 = .int .i64 (j : Nat) ∧ (∀ k, k < i → l.getD k 0 < z) ∧ ∀ k, j ≤ k → k < l.length → z ≤ l.getD k 0) l.length ?_ ?_
 ·exact ⟨0, l.length, by omega, by omega, rfl, by (first | (simp [put_at, put_none, fr0_at]; done) | rfl), by (first | (simp [put_at, put_none, fr0_at]; done) | rfl), by (first | (simp [put_at, put_none, fr0_at]; done) | rfl), by (first | (simp [put_at, put_none, fr0_at]; done) | rfl), by (first | (simp [put_at, put_none, fr0_at]; done) | rfl), fun k hk => by omega, fun k h1 h2 => by omega⟩
 rintro c α _ ⟨i, j, hic, hj, rfl, h0, h1, h6, h7, h8, hlo, hhi⟩
 refine aw_seq ?_
 refine aw_seq ?_
 by_cases hij : i < j
 case neg =>
  obtain rfl : i = j := by omega
  have key := inc_find hI hj hlo hhi
  have hpe : posN l z l.length = i := by rw [posN_eq hlo hhi l.length (Nat.le_refl _)]; omega
  rw [hpe]
  (refine aw_ops (by kernel_rfl) (fun K hK => ?_); simp (disch := first | omega | (simp only [lnS]; try omega)) [-getElem?_pos, -getElem?_neg, h7, h8]; refine hK _ _ ?_; clear hK K)
  refine aw_f (by (first | (simp [eval_tmp, put_at]; done) | (simp [eval_tmp, put_at]; omega))) (by kernel_rfl) ?_
  refine aw_exit ?_
  refine aw_seq ?_
  by_cases hil : i < l.length
  ·obtain ⟨q, x, r1, r2, r3, r4, r5⟩ := hacc.at_ i hil
   have r5 := r5 H (Low.refl (Nat.le_refl _))
   subst r4
   obtain ⟨y, hy⟩ : ∃ y, y = l.getD i 0 := ⟨_, rfl⟩
   rw [← hy] at r5 key
   by_cases hyz : y = z
   ·have hb : (y == z) = true := by simp [hyz]
    (refine aw_ops (by kernel_rfl) (fun K hK => ?_); simp (disch := first | omega | (simp only [lnS]; try omega)) [-getElem?_pos, -getElem?_neg, h0, h1, h6, h7, hil, -notTuple, hnt, hvc, nt_intG, r1, -xindexAddr, r2, -xload, r5, hyz, hb]; refine hK _ _ ?_; clear hK K)
    (refine aw_ret ?_; simp (disch := first | omega | (simp only [lnS]; try omega)) [-getElem?_pos, -getElem?_neg, thenQ_ret, scopeQ_ret, inBlockQ_ret, RQ, resL, resV, hil])
    exact key.1 ⟨hil, hyz⟩
   ·have hb : (y == z) = false := by simp [hyz]
    have hmem : z ∉ l := fun hz => hyz (key.2 hz).2
    refine aw_ops (by kernel_rfl) (fun K hK => ?_)
    simp (disch := first | omega | (simp only [lnS]; try omega)) [-getElem?_pos, -getElem?_neg, h0, h1, h6, h7, hil, -notTuple, hnt, hvc, nt_intG, r1, -xindexAddr, r2, -xload, r5, hyz, hb]
    refine ⟨by kernel_rfl, ac_of_vc (by simp [pv_iv, pv_int, pv_bool, pv_string, pv_tup2, pv_tup3, iv_plain, p2_int, p2_bool, p2_string]) (snan_vc y) ?_⟩
    try simp (disch := first | omega | (simp only [lnS]; try omega)) [-getElem?_pos, -getElem?_neg]
    refine hK _ _ ?_; clear hK K
    (refine aw_ret ?_; simp (disch := first | omega | (simp only [lnS]; try omega)) [-getElem?_pos, -getElem?_neg, thenQ_ret, scopeQ_ret, inBlockQ_ret, RQ, resL, resV, hil, hmem])
  ·have hmem : z ∉ l := fun hz => hil (key.2 hz).1
   (refine aw_ops (by kernel_rfl) (fun K hK => ?_); simp (disch := first | omega | (simp only [lnS]; try omega)) [-getElem?_pos, -getElem?_neg, h0, h1, h6, h7, hil]; refine hK _ _ ?_; clear hK K)
   (refine aw_ret ?_; simp (disch := first | omega | (simp only [lnS]; try omega)) [-getElem?_pos, -getElem?_neg, thenQ_ret, scopeQ_ret, inBlockQ_ret, RQ, resL, resV, hil, hmem])
 (refine aw_ops (by kernel_rfl) (fun K hK => ?_); simp (disch := first | omega | (simp only [lnS]; try omega)) [-getElem?_pos, -getElem?_neg, h7, h8, hij]; refine hK _ _ ?_; clear hK K)
 refine aw_t (by (first | (simp [eval_tmp, put_at, hij]; done) | (simp [eval_tmp, put_at, hij]; omega))) (by kernel_rfl) ?_
 refine aw_skip ?_
 refine aw_block ?_
 refine aw_seq ?_
 obtain ⟨m, hmd⟩ : ∃ m, m = (i + j) / 2 := ⟨_, rfl⟩
 have hfd : ((i : Int) + (j : Int)).fdiv 2 = (m : Int) := by rw [fdivP (by omega)]; omega
 have hmi : i ≤ m := by omega
 have hmj : m < j := by omega
 clear hmd
 (refine aw_ops (by kernel_rfl) (fun K hK => ?_); simp (disch := first | omega | (simp only [lnS]; try omega)) [-getElem?_pos, -getElem?_neg, h7, h8, hfd]; refine hK _ _ ?_; clear hK K)
 obtain ⟨q, x, r1, r2, r3, r4, r5⟩ := hacc.at_ m (by omega)
 have r5 := r5 H (Low.refl (Nat.le_refl _))
 subst r4
 obtain ⟨y, hy⟩ : ∃ y, y = l.getD m 0 := ⟨_, rfl⟩
 rw [← hy] at r5
 refine aw_seq ?_
 refine aw_ops (by kernel_rfl) (fun K hK => ?_)
 simp (disch := first | omega | (simp only [lnS]; try omega)) [-getElem?_pos, -getElem?_neg, h0, h1, -notTuple, hnt, hvc, nt_intG, r1, -xindexAddr, r2, -xload, r5]
 refine ⟨by kernel_rfl, ac_of_vc (by simp [pv_iv, pv_int, pv_bool, pv_string, pv_tup2, pv_tup3, iv_plain, p2_int, p2_bool, p2_string]) (cless_vc y z) ?_⟩
 by_cases hyz : y < z
 ·try simp (disch := first | omega | (simp only [lnS]; try omega)) [-getElem?_pos, -getElem?_neg, hyz]
  refine hK _ _ ?_; clear hK K
  refine aw_t (by (first | (simp [eval_tmp, put_at, hyz]; done) | (simp [eval_tmp, put_at, hyz]; omega))) (by kernel_rfl) ?_
  (refine aw_ops (by kernel_rfl) (fun K hK => ?_); simp (disch := first | omega | (simp only [lnS]; try omega)) [-getElem?_pos, -getElem?_neg]; refine hK _ _ ?_; clear hK K)
  refine ⟨j - (m + 1), by omega, m + 1, j, by omega, hj, rfl, by (first | (simp [put_at, put_none, fr0_at, h0]; done) | rfl), by (first | (simp [put_at, put_none, fr0_at, h1]; done) | rfl), by (first | (simp [put_at, put_none, fr0_at, h6]; done) | rfl), by (first | (simp [put_at, put_none, fr0_at]; done) | rfl), by (first | (simp [put_at, put_none, fr0_at, h8]; done) | rfl), fun k hk => ?_, hhi⟩
  have := hI.le (i := k) (j := m) (by omega) (by omega)
  omega
 ·try simp (disch := first | omega | (simp only [lnS]; try omega)) [-getElem?_pos, -getElem?_neg, hyz]
  refine hK _ _ ?_; clear hK K
  refine aw_f (by (first | (simp [eval_tmp, put_at, hyz]; done) | (simp [eval_tmp, put_at, hyz]; omega))) (by kernel_rfl) ?_
  (refine aw_ops (by kernel_rfl) (fun K hK => ?_); simp (disch := first | omega | (simp only [lnS]; try omega)) [-getElem?_pos, -getElem?_neg]; refine hK _ _ ?_; clear hK K)
  refine ⟨m - i, by omega, i, m, by omega, by omega, rfl, by (first | (simp [put_at, put_none, fr0_at, h0]; done) | rfl), by (first | (simp [put_at, put_none, fr0_at, h1]; done) | rfl), by (first | (simp [put_at, put_none, fr0_at, h6]; done) | rfl), by (first | (simp [put_at, put_none, fr0_at, h7]; done) | rfl), by (first | (simp [put_at, put_none, fr0_at]; done) | rfl), hlo, fun k hk hkl => ?_⟩
  have := hI.le (i := m) (j := k) (by omega) (by omega)
  omega
end
section
theorem inc_cast {l : List Nat} (h : l.Pairwise (· < ·)) : Inc (l.map fun k : Nat => (k : Int)) := by
 unfold Inc
 rw [List.pairwise_map]
 exact h.imp fun h => by omega
theorem pastL_inc (l : List NodeD) (n : Nat) (ps : List (List Int)) : Inc (pastL l n ps) := by
 unfold pastL
 exact inc_cast (List.Pairwise.filter _ List.pairwise_lt_range)
theorem past_inc {l : List NodeD} (h : rightG l = true) {i : Nat} (hi : i < l.length) : Inc (nd l i).past := by
 rw [right_past h hi]; exact pastL_inc _ _ _
abbrev CtA (H : AH) (v : Value) (c : List Bool) : Prop := Acc H 33 4 v c.length (fun i x => x = .bool (c.getD i false))
def ahB (l : List NodeD) (a b : Nat) : Bool := decide ((a : Int) ∈ (nd l b).past)
def remB (l : List NodeD) (c : List Bool) (r : Nat) (w : Int) : Bool := decide ((nd l r).op.kind = 3) && (c.getD r false && decide (w ∈ (nd l r).op.who))
theorem NdA.op_at {H G : AH} {v : Value} {l : List NodeD} (h : NdA H v l) (hlow : Low H.length H G) {k : Nat} (hk : k < l.length) : ∃ j q b u7 pv wv bv, xindexAddr Try.prog 22 v (.int .i64 (k : Nat)) = some (.pointer (some ⟨j, q, none⟩)) ∧ hget G j = some b ∧ q + 104 ≤ b.cells.length ∧ (b.cells.drop (q + 32)).take 71 = u7 ∧ u7.length = 71 ∧ OpC G u7 (nd l k).op pv wv bv ∧ (nd l k).op.Wf := by
 obtain ⟨j, q, b, us, pv, wv', bv, qv, hx, hb, hq, hcell, hus, hC⟩ := h.at_ k _ (nd_get hk)
 exact ⟨j, q, b, _, pv, wv', bv, hx, (hlow.1 j (hget_lt hb)).trans hb, hq, by rw [op_cut, ← hus], hC.op.len, hC.op.low hlow.1, (h.wf _ (List.mem_of_getElem? (nd_get hk))).op⟩
theorem pl_nilF : plain1 .nilFunc = true := rfl
theorem nt_fn (f : Fn) (a b : Array Value) : notTuple (.func f a b) = true := rfl
theorem cs_fn (f : Fn) (a b : Array Value) : (Value.func f a b).cells = #[.func f a b] := rfl
theorem l1f_callable : callable Try.prog 119 = true := by kernel_rfl
attribute [local simp] wb_bool wb_undef with_lit XL_nil XL_cons XLc_val XLc_call step1_eq stepW_t stepW_f stepC_n stepC_s stepX_s stepX_n stepN_s calleeX oneV xop_eq xopR_s xopR_n wantedA_eq wantedG_n wantedG_s plain1_int plain1_bool plain1_string bits_i64 bits_u64 bits_u32 bits_u16 bits_u8 xeqA xagg xcmp xarr allK_iv num_iv calleeOf xread xeff xbin xint xnil xun xstr xload xconv xpart xfield xfieldAddr xindexAddr xindex bnd asInt? xslice xlen xmin xmax xbuild xfill xappend xapp2 xappstr xappmk xcap xcopy xcells eval_tmp eval_const put_at put_none fr0_at cells_agg cells_int cells_bool cells_string cells_ptr cells_slice notTuple tab iv_all hget_app hget_app0 hget_cons0 hget_cons set_app set_app0 setR setR_one QL_nil QL_cons QLc_val stepQ_t stepQ_f stepQC_n stepQC_s stepQX_s SL_nil SL_cons SLc_val stepS_t stepS_f ltT ltF leT leF eqT eqF ltTn ltFn leTn leFn eqTn eqFn beqT beqF bneT bneF wi64 wu64 wu32 wu16 wu8 tmodP tdivP hgetL hgetNe hgetEq setL nums_def nums_len Nat.succ_le_of_lt List.getElem?_cons_zero List.getElem?_cons_succ Option.getD_some Int.toNat_add Int.toNat_mul agM okM agB agI agS agP agL agA okB okI okS okP okSl okA
theorem listed1_rc {γ : Nat → Option Nat} {H : AH} {lv : Value} {L : List Int} {p : Nat} (hp : hget H p = some ⟨[lv], 23, none⟩) (hL : InV H lv L) (hm : L.length ≤ maxLen) (z : Int) : AC Try.prog H.length γ 119 #[.int .i64 z, .pointer (some ⟨p, 0, none⟩)] H (fun v' _ => v' = .bool (decide (z ∈ L))) := by
 have hct := contains_rc (γ := γ) hL hm z
 have v1 := hL.acc.nt
 have v2 := hL.acc.cs
 refine ac_of_aw Try.func119 rfl Try.ntmps119 Try.results119 (by simp) ?_
 refine aw_seq ?_
 (refine aw_ops (by kernel_rfl) (fun K hK => ?_); simp (disch := first | omega | (simp only [lnS]; try omega)) [-getElem?_pos, -getElem?_neg]; refine hK _ _ ?_; clear hK K)
 refine aw_seq ?_
 refine aw_ops (by kernel_rfl) (fun K hK => ?_)
 simp (disch := first | omega | (simp only [lnS]; try omega)) [-getElem?_pos, -getElem?_neg, hp, -notTuple, v1, v2, nt_intG]
 refine ⟨by kernel_rfl, ac_of_rc hct (by simp [pv_iv, pv_int, pv_bool, pv_string, pv_tup2, pv_tup3, iv_plain, p2_int, p2_bool, p2_string]) ?_⟩
 try simp (disch := first | omega | (simp only [lnS]; try omega)) [-getElem?_pos, -getElem?_neg]
 refine hK _ _ ?_; clear hK K
 (refine aw_ret ?_; simp (disch := first | omega | (simp only [lnS]; try omega)) [-getElem?_pos, -getElem?_neg, thenQ_ret, scopeQ_ret, inBlockQ_ret, RQ, resL, resV])
theorem listed_ac {γ : Nat → Option Nat} {nro : Nat} {H : AH} {lv : Value} {L : List Int} (hL : InV H lv L) (hm : L.length ≤ maxLen) (hnro : nro ≤ H.length) : AC Try.prog nro γ 71 #[lv] H (fun v' H' => Low H.length H H' ∧ Grp γ H' v' fun z => decide (z ∈ L)) := by
 have v1 := hL.acc.nt
 have v2 := hL.acc.cs
 refine ac_of_aw Try.func71 rfl Try.ntmps71 Try.results71 (by simp) ?_
 refine aw_seq ?_
 (refine aw_ops (by kernel_rfl) (fun K hK => ?_); simp (disch := first | omega | (simp only [lnS]; try omega)) [-getElem?_pos, -getElem?_neg, -notTuple, v1, v2]; refine hK _ _ ?_; clear hK K)
 refine aw_seq ?_
 (refine aw_ops (by kernel_rfl) (fun K hK => ?_); simp (disch := first | omega | (simp only [lnS]; try omega)) [-getElem?_pos, -getElem?_neg, -notTuple, v1, v2, pl_nilF, nt_fn, cs_fn]; refine hK _ _ ?_; clear hK K)
 (refine aw_ret ?_; simp (disch := first | omega | (simp only [lnS]; try omega)) [-getElem?_pos, -getElem?_neg, thenQ_ret, scopeQ_ret, inBlockQ_ret, RQ, resL, resV])
 have lw : Low H.length H (H ++ [some ⟨[lv], 23, none⟩, some ⟨[Value.func (.func 119) #[] #[.pointer (some ⟨H.length, 0, none⟩)]], 93, none⟩]) := Low.push (Nat.le_refl _) _
 refine ⟨lw, _, _, rfl, l1f_callable, fun G z hg => ?_⟩
 refine listed1_rc (p := H.length) (lv := lv) ?_ (hL.lowG (lw.both hg)) hm z
 refine (hg.1 _ (by simp)).trans ?_
 rw [hget_app0]; rfl
theorem vahead_rc {γ : Nat → Option Nat} {H : AH} {nv cv : Value} {l : List NodeD} (hN : NdA H nv l) (hc : notTuple cv = true ∧ cv.cells = #[cv]) (h3 : rightG l = true) (a : Nat) {b : Nat} (hb : b < l.length) : AC Try.prog H.length γ 111 #[.agg #[nv, cv], .int .i64 (a : Nat), .int .i64 (b : Nat)] H (fun v' _ => v' = .bool (ahB l a b)) := by
 obtain ⟨c1, c2⟩ := hc
 have hnt := hN.nt
 have hvc := hN.cs
 refine ac_of_aw Try.func111 rfl Try.ntmps111 Try.results111 (by simp) ?_
 refine aw_seq ?_
 (refine aw_ops (by kernel_rfl) (fun K hK => ?_); simp (disch := first | omega | (simp only [lnS]; try omega)) [-getElem?_pos, -getElem?_neg, -notTuple, hnt, hvc, c1, c2, nt_aggG]; refine hK _ _ ?_; clear hK K)
 obtain ⟨lw, b3⟩ := boxed (H := H) [nv, cv] 95
 generalize H ++ [some ⟨[nv, cv], 95, none⟩] = G at *
 obtain ⟨j', q', bb', pq, px, pb, pc, pI, pml, p1, p2⟩ := hN.past_at lw hb
 have hpl := past_len h3 hb
 have hl96 := rightG_len h3
 have bs := bsearch_rc (γ := γ) (pI.lowG lw) (by omega) (past_inc h3 hb) (a : Int)
 refine aw_seq ?_
 refine aw_ops (by kernel_rfl) (fun K hK => ?_)
 simp (disch := first | omega | (simp only [lnS]; try omega)) [-getElem?_pos, -getElem?_neg, b3, -notTuple, hnt, hvc, nt_intG, -xindexAddr, px, pb, pc, p1, p2]
 refine ⟨by kernel_rfl, ac_of_rc bs (by simp [pv_iv, pv_int, pv_bool, pv_string, pv_tup2, pv_tup3, iv_plain, p2_int, p2_bool, p2_string]) ?_⟩
 try simp (disch := first | omega | (simp only [lnS]; try omega)) [-getElem?_pos, -getElem?_neg]
 refine hK _ _ ?_; clear hK K
 refine aw_seq ?_
 (refine aw_ops (by kernel_rfl) (fun K hK => ?_); simp (disch := first | omega | (simp only [lnS]; try omega)) [-getElem?_pos, -getElem?_neg]; refine hK _ _ ?_; clear hK K)
 (refine aw_ret ?_; simp (disch := first | omega | (simp only [lnS]; try omega)) [-getElem?_pos, -getElem?_neg, thenQ_ret, scopeQ_ret, inBlockQ_ret, RQ, resL, resV])
 all_goals simp [ahB]
theorem removes_rc {γ : Nat → Option Nat} {H : AH} {nv cv : Value} {l : List NodeD} {c : List Bool} (hN : NdA H nv l) (hC : CtA H cv c) (hcl : c.length = l.length) {r : Nat} (hr : r < l.length) (w : Int) : AC Try.prog H.length γ 110 #[.agg #[nv, cv], .int .i64 (r : Nat), .int .i64 w] H (fun v' _ => v' = .bool (remB l c r w)) := by
 have hnt := hN.nt
 have hvc := hN.cs
 have c1 := hC.nt
 have c2 := hC.cs
 refine ac_of_aw Try.func110 rfl Try.ntmps110 Try.results110 (by simp) ?_
 refine aw_seq ?_
 (refine aw_ops (by kernel_rfl) (fun K hK => ?_); simp (disch := first | omega | (simp only [lnS]; try omega)) [-getElem?_pos, -getElem?_neg, -notTuple, hnt, hvc, c1, c2, nt_aggG]; refine hK _ _ ?_; clear hK K)
 obtain ⟨lw, b3⟩ := boxed (H := H) [nv, cv] 95
 generalize H ++ [some ⟨[nv, cv], 95, none⟩] = G at *
 obtain ⟨j, q, bb, u7, pv, wv, bv, hx, hb, hq, hcut, hu7, hO, hW⟩ := hN.op_at lw hr
 have hset : ∀ Z : List Value, Z.length = 71 → setR Z 0 u7 = u7 := fun Z hZ => setR_all _ _ (by omega)
 have hp0 : plain1 (.slice none 0 0) = true := rfl
 have hle0 := lw.2
 refine aw_seq ?_
 (refine aw_ops (by kernel_rfl) (fun K hK => ?_); simp (disch := first | omega | (simp only [lnS]; try omega)) [-getElem?_pos, -getElem?_neg, b3, -notTuple, hnt, hvc, nt_intG, nt_aggG, -xindexAddr, hx, hb, hcut, hu7, hle0, hp0, all_zl, hset]; refine hK _ _ ?_; clear hK K)
 obtain ⟨lw2, b7⟩ := boxed (H := G) u7 41
 obtain ⟨m, hm⟩ : ∃ m, m = G.length := ⟨_, rfl⟩
 have g3 := hget_lt b3
 have b3 := (lw2.1 _ g3).trans b3
 have lw3 := lw.both lw2
 have hO := hO.low lw2.1
 rw [← hm] at b7 ⊢
 generalize G ++ [some ⟨u7, 41, none⟩] = G2 at *
 have o3 := hO.c3
 have o4 := hO.c4
 have w1 := hO.who.acc.nt
 have w2 := hO.who.acc.cs
 have hli := listed_ac (γ := γ) (nro := H.length) hO.who hW.wlen lw3.2
 have hd : remB l c r w = (decide ((nd l r).op.kind = 3) && (c.getD r false && decide (w ∈ (nd l r).op.who))) := rfl
 rw [hd]
 generalize (nd l r).op = op at *
 refine aw_seq ?_
 by_cases hk : op.kind = 3
 case neg =>
  have hkb : (op.kind == 3) = false := by simp [hk]
  (refine aw_ops (by kernel_rfl) (fun K hK => ?_); simp (disch := first | omega | (simp only [lnS]; try omega)) [-getElem?_pos, -getElem?_neg, b7, o3, hu7, hk, hkb]; refine hK _ _ ?_; clear hK K)
  (refine aw_ret ?_; simp (disch := first | omega | (simp only [lnS]; try omega)) [-getElem?_pos, -getElem?_neg, thenQ_ret, scopeQ_ret, inBlockQ_ret, RQ, resL, resV, hk])
 have hkb : (op.kind == 3) = true := by simp [hk]
 obtain ⟨p, x, r1, r2, r3, r4, r5⟩ := hC.at_ r (by omega)
 have r5 := r5 G2 lw3
 have xl1 : xload Try.prog 33 (.pointer (some ⟨H.length, 1, none⟩)) G2 = some cv := by simp [xload, b3]
 have xl3 : xload Try.prog 3 (.pointer (some ⟨m, 3, none⟩)) G2 = some (.int .i64 op.kind) := by simp [xload, b7, o3]
 have xl4 : xload Try.prog 23 (.pointer (some ⟨m, 4, none⟩)) G2 = some wv := by simp [xload, b7, o4]
 subst r4
 cases hcr : c.getD r false with
 | false =>
  rw [hcr] at r5
  (refine aw_ops (by kernel_rfl) (fun K hK => ?_); simp (disch := first | omega | (simp only [lnS]; try omega)) [-getElem?_pos, -getElem?_neg, -xload, xl3, hk, hkb, xl1, r5, r1, -xindexAddr, r2, -notTuple, c1, c2, nt_intG, nt_boolG]; refine hK _ _ ?_; clear hK K)
  (refine aw_ret ?_; simp (disch := first | omega | (simp only [lnS]; try omega)) [-getElem?_pos, -getElem?_neg, thenQ_ret, scopeQ_ret, inBlockQ_ret, RQ, resL, resV, hk])
 | true =>
 rw [hcr] at r5
 refine aw_ops (by kernel_rfl) (fun K hK => ?_)
 simp (disch := first | omega | (simp only [lnS]; try omega)) [-getElem?_pos, -getElem?_neg, -xload, xl3, xl4, hk, hkb, xl1, r5, r1, -xindexAddr, r2, -notTuple, c1, c2, w1, w2, nt_intG, nt_boolG]
 refine ⟨by kernel_rfl, hli.mono ?_⟩
 rintro v' G3 ⟨lw4, f, cs, rfl, hf⟩
 simp (disch := first | omega | (simp only [lnS]; try omega)) [-getElem?_pos, -getElem?_neg, -notTuple, nt_aggG, nt_fn, cs_fn, nt_intG]
 refine ⟨hf.1, ac_of_rc (hf.2 G3 w (Low.refl (Nat.le_refl _))) (by simp [pv_iv, pv_int, pv_bool, pv_string, pv_tup2, pv_tup3, iv_plain, p2_int, p2_bool, p2_string]) ?_⟩
 try simp (disch := first | omega | (simp only [lnS]; try omega)) [-getElem?_pos, -getElem?_neg]
 refine hK _ _ ?_; clear hK K
 (refine aw_ret ?_; simp (disch := first | omega | (simp only [lnS]; try omega)) [-getElem?_pos, -getElem?_neg, thenQ_ret, scopeQ_ret, inBlockQ_ret, RQ, resL, resV, hk])
end
section
def besB (l : List NodeD) (c : List Bool) (S : List Int) (a : Nat) : Bool := S.any fun r => remB l c r.toNat (nd l a).op.author && (!ahB l r.toNat a && !ahB l a r.toNat)
def admB (l : List NodeD) (c : List Bool) (S : List Int) (a : Nat) (w : Int) : Bool := c.getD a false && (decide (w ∈ (nd l a).op.who) && (decide ((nd l a).op.kind = 1) || (decide ((nd l a).op.kind = 2) && !besB l c S a)))
def rosB (l : List NodeD) (c : List Bool) (S : List Int) (w : Int) : Bool := S.any fun a => admB l c S a.toNat w && !(S.any fun r => remB l c r.toNat w && !ahB l r.toNat a.toNat)
def Plc (l : List NodeD) (S : List Int) : Prop := ∀ z ∈ S, ∃ k : Nat, z = k ∧ k < l.length
structure VwA (H : AH) (nv cv : Value) (l : List NodeD) (c : List Bool) : Prop where
 nodes : NdA H nv l
 counts : CtA H cv c
 len : c.length = l.length
 right : rightG l = true
theorem VwA.low {H G : AH} {nv cv : Value} {l : List NodeD} {c : List Bool} (h : VwA H nv cv l c) (hl : Low H.length H G) : VwA G nv cv l c := ⟨h.nodes.lowG hl, h.counts.low hl, h.len, h.right⟩
attribute [local simp] wb_bool wb_undef with_lit XL_nil XL_cons XLc_val XLc_call step1_eq stepW_t stepW_f stepC_n stepC_s stepX_s stepX_n stepN_s calleeX oneV xop_eq xopR_s xopR_n wantedA_eq wantedG_n wantedG_s plain1_int plain1_bool plain1_string bits_i64 bits_u64 bits_u32 bits_u16 bits_u8 xeqA xagg xcmp xarr allK_iv num_iv calleeOf xread xeff xbin xint xnil xun xstr xload xconv xpart xfield xfieldAddr xindexAddr xindex bnd asInt? xslice xlen xmin xmax xbuild xfill xappend xapp2 xappstr xappmk xcap xcopy xcells eval_tmp eval_const put_at put_none fr0_at cells_agg cells_int cells_bool cells_string cells_ptr cells_slice notTuple tab iv_all hget_app hget_app0 hget_cons0 hget_cons set_app set_app0 setR setR_one QL_nil QL_cons QLc_val stepQ_t stepQ_f stepQC_n stepQC_s stepQX_s SL_nil SL_cons SLc_val stepS_t stepS_f ltT ltF leT leF eqT eqF ltTn ltFn leTn leFn eqTn eqFn beqT beqF bneT bneF wi64 wu64 wu32 wu16 wu8 tmodP tdivP hgetL hgetNe hgetEq setL nums_def nums_len Nat.succ_le_of_lt List.getElem?_cons_zero List.getElem?_cons_succ Option.getD_some Int.toNat_add Int.toNat_mul agM okM agB agI agS agP agL agA okB okI okS okP okSl okA
theorem admits1_rc {γ : Nat → Option Nat} {H : AH} {nv cv : Value} {l : List NodeD} {c : List Bool} (hV : VwA H nv cv l c) {p1 p2 p3 : Nat} {u7 : List Value} {au : Int} (h1 : hget H p1 = some ⟨[nv, cv], 95, none⟩) (h2 : hget H p2 = some ⟨u7, 41, none⟩) (hu : u7.length = 71) (h0 : u7[0]? = some (.int .i64 au)) {a r : Nat} (h3 : hget H p3 = some ⟨[.int .i64 (a : Nat)], 3, none⟩) (ha : a < l.length) (hr : r < l.length) :
  AC Try.prog H.length γ 146 #[.int .i64 (r : Nat), .pointer (some ⟨p1, 0, none⟩), .pointer (some ⟨p2, 0, none⟩), .pointer (some ⟨p3, 0, none⟩)] H (fun v' _ => v' = .bool (remB l c r au && (!ahB l r a && !ahB l a r))) := by
 have k1 := removes_rc (γ := γ) hV.nodes hV.counts hV.len hr au
 have k2 := vahead_rc (γ := γ) hV.nodes ⟨hV.counts.nt, hV.counts.cs⟩ hV.right r ha
 have k3 := vahead_rc (γ := γ) hV.nodes ⟨hV.counts.nt, hV.counts.cs⟩ hV.right a hr
 refine ac_of_aw Try.func146 rfl Try.ntmps146 Try.results146 (by simp) ?_
 refine aw_seq ?_
 (refine aw_ops (by kernel_rfl) (fun K hK => ?_); simp (disch := first | omega | (simp only [lnS]; try omega)) [-getElem?_pos, -getElem?_neg]; refine hK _ _ ?_; clear hK K)
 refine aw_seq ?_
 refine aw_ops (by kernel_rfl) (fun K hK => ?_)
 simp (disch := first | omega | (simp only [lnS]; try omega)) [-getElem?_pos, -getElem?_neg, h1, h2, h0, hu, nt_aggG, nt_intG]
 refine ⟨by kernel_rfl, ac_of_rc k1 (by simp [pv_iv, pv_int, pv_bool, pv_string, pv_tup2, pv_tup3, iv_plain, p2_int, p2_bool, p2_string]) ?_⟩
 cases e1 : remB l c r au with
 | false =>
  try simp (disch := first | omega | (simp only [lnS]; try omega)) [-getElem?_pos, -getElem?_neg]
  refine hK _ _ ?_; clear hK K
  (refine aw_ret ?_; simp (disch := first | omega | (simp only [lnS]; try omega)) [-getElem?_pos, -getElem?_neg, thenQ_ret, scopeQ_ret, inBlockQ_ret, RQ, resL, resV, e1])
 | true =>
 simp (disch := first | omega | (simp only [lnS]; try omega)) [-getElem?_pos, -getElem?_neg, h1, h3, nt_aggG, nt_intG]
 refine ⟨by kernel_rfl, ac_of_rc k2 (by simp [pv_iv, pv_int, pv_bool, pv_string, pv_tup2, pv_tup3, iv_plain, p2_int, p2_bool, p2_string]) ?_⟩
 cases e2 : ahB l r a with
 | true =>
  try simp (disch := first | omega | (simp only [lnS]; try omega)) [-getElem?_pos, -getElem?_neg]
  refine hK _ _ ?_; clear hK K
  (refine aw_ret ?_; simp (disch := first | omega | (simp only [lnS]; try omega)) [-getElem?_pos, -getElem?_neg, thenQ_ret, scopeQ_ret, inBlockQ_ret, RQ, resL, resV, e1, e2])
 | false =>
 simp (disch := first | omega | (simp only [lnS]; try omega)) [-getElem?_pos, -getElem?_neg, h1, h3, nt_aggG, nt_intG]
 refine ⟨by kernel_rfl, ac_of_rc k3 (by simp [pv_iv, pv_int, pv_bool, pv_string, pv_tup2, pv_tup3, iv_plain, p2_int, p2_bool, p2_string]) ?_⟩
 try simp (disch := first | omega | (simp only [lnS]; try omega)) [-getElem?_pos, -getElem?_neg]
 refine hK _ _ ?_; clear hK K
 (refine aw_ret ?_; simp (disch := first | omega | (simp only [lnS]; try omega)) [-getElem?_pos, -getElem?_neg, thenQ_ret, scopeQ_ret, inBlockQ_ret, RQ, resL, resV, e1, e2])
theorem adm1_callable : callable Try.prog 146 = true := by kernel_rfl
theorem admits_rc {γ : Nat → Option Nat} {H : AH} {nv cv sv : Value} {l : List NodeD} {c : List Bool} {S : List Int} (hV : VwA H nv cv l c) (hS : InV H sv S) (hSl : S.length ≤ maxLen) (hP : Plc l S) {a : Nat} (ha : a < l.length) (w : Int) :
  AC Try.prog H.length γ 108 #[.agg #[nv, cv], sv, .int .i64 (a : Nat), .int .i64 w] H (fun v' _ => v' = .bool (admB l c S a w)) := by
 have n1 := hV.nodes.nt
 have n2 := hV.nodes.cs
 have c1 := hV.counts.nt
 have c2 := hV.counts.cs
 have s1 := hS.acc.nt
 have s2 := hS.acc.cs
 refine ac_of_aw Try.func108 rfl Try.ntmps108 Try.results108 (by simp) ?_
 refine aw_seq ?_
 (refine aw_ops (by kernel_rfl) (fun K hK => ?_); simp (disch := first | omega | (simp only [lnS]; try omega)) [-getElem?_pos, -getElem?_neg, -notTuple, n1, n2, c1, c2, nt_aggG, nt_intG]; refine hK _ _ ?_; clear hK K)
 obtain ⟨n, hn⟩ : ∃ n, n = H.length := ⟨_, rfl⟩
 obtain ⟨G, hG⟩ : ∃ G : AH, G = H ++ [some ⟨[nv, cv], 95, none⟩, some ⟨[.int .i64 (a : Nat)], 3, none⟩] := ⟨_, rfl⟩
 have b4 : hget G n = some ⟨[nv, cv], 95, none⟩ := by rw [hG, hn, hget_app0]; rfl
 have b6 : hget G (n + 1) = some ⟨[.int .i64 (a : Nat)], 3, none⟩ := by rw [hG, hn, hget_app]; rfl
 have lw : Low H.length H G := by rw [hG]; exact Low.push (Nat.le_refl _) _
 rw [← hG, ← hn]
 clear hG
 obtain ⟨j, q, bb, u7, pv, wv, bv, hx, hb, hq, hcut, hu7, hO, hW⟩ := hV.nodes.op_at lw ha
 have hset : ∀ Z : List Value, Z.length = 71 → setR Z 0 u7 = u7 := fun Z hZ => setR_all _ _ (by omega)
 have hp0 : plain1 (.slice none 0 0) = true := rfl
 have hle0 := lw.2
 rw [← hn] at hle0
 refine aw_seq ?_
 (refine aw_ops (by kernel_rfl) (fun K hK => ?_); simp (disch := first | omega | (simp only [lnS]; try omega)) [-getElem?_pos, -getElem?_neg, b4, b6, -notTuple, n1, n2, nt_intG, nt_aggG, -xindexAddr, hx, hb, hcut, hu7, hle0, hp0, all_zl, hset]; refine hK _ _ ?_; clear hK K)
 obtain ⟨lw2, b9⟩ := boxed (H := G) u7 41
 obtain ⟨m, hm⟩ : ∃ m, m = G.length := ⟨_, rfl⟩
 have b4 := (lw2.1 _ (hget_lt b4)).trans b4
 have b6 := (lw2.1 _ (hget_lt b6)).trans b6
 have lw3 := lw.both lw2
 have hO := hO.low lw2.1
 rw [← hm] at b9 ⊢
 generalize G ++ [some ⟨u7, 41, none⟩] = G2 at *
 have o0 := hO.c0
 have o3 := hO.c3
 have o4 := hO.c4
 have w1 := hO.who.acc.nt
 have w2 := hO.who.acc.cs
 have hli := listed_ac (γ := γ) (nro := n) hO.who hW.wlen (hn ▸ lw3.2)
 have hd : admB l c S a w = (c.getD a false && (decide (w ∈ (nd l a).op.who) && (decide ((nd l a).op.kind = 1) || (decide ((nd l a).op.kind = 2) && !besB l c S a)))) := rfl
 have hbs : ∀ G3, Low G2.length G2 G3 → AC Try.prog G3.length γ 106 #[sv, .func (.func 146) #[] #[.pointer (some ⟨n, 0, none⟩), .pointer (some ⟨m, 0, none⟩), .pointer (some ⟨n + 1, 0, none⟩)]] G3 (fun v' _ => v' = .bool (besB l c S a)) := fun G3 h3 => anyI_rc (γ := γ) (hS.lowG (lw3.both h3)) hSl adm1_callable (fun G4 z h4 hz => by
  obtain ⟨r, rfl, hr⟩ := hP z hz
  have h5 := h3.both h4
  exact admits1_rc (γ := γ) (hV.low (lw3.both h5)) ((h5.1 _ (hget_lt b4)).trans b4) ((h5.1 _ (hget_lt b9)).trans b9) hu7 o0 ((h5.1 _ (hget_lt b6)).trans b6) ha hr)
 rw [hd]
 generalize besB l c S a = BE at *
 generalize (nd l a).op = op at *
 obtain ⟨p, x, r1, r2, r3, r4, r5⟩ := hV.counts.at_ a (by have := hV.len; omega)
 have r5 := r5 G2 lw3
 have xl0 : xload Try.prog 3 (.pointer (some ⟨n + 1, 0, none⟩)) G2 = some (.int .i64 (a : Nat)) := by simp [xload, b6]
 have xl1 : xload Try.prog 33 (.pointer (some ⟨n, 1, none⟩)) G2 = some cv := by simp [xload, b4]
 have xl3 : ∀ G3, Low G2.length G2 G3 → xload Try.prog 3 (.pointer (some ⟨m, 3, none⟩)) G3 = some (.int .i64 op.kind) := fun G3 h3 => by simp [xload, (h3.1 _ (hget_lt b9)).trans b9, o3]
 have xl4 : xload Try.prog 23 (.pointer (some ⟨m, 4, none⟩)) G2 = some wv := by simp [xload, b9, o4]
 subst r4
 refine aw_seq ?_
 refine aw_seq ?_
 refine aw_cut (fun α G3 => α 30 = .bool (!(c.getD a false && decide (w ∈ op.who))) ∧ α 1 = sv ∧ α 4 = .pointer (some ⟨n, 0, none⟩) ∧ α 6 = .pointer (some ⟨n + 1, 0, none⟩) ∧ α 9 = .pointer (some ⟨m, 0, none⟩) ∧ Low G2.length G2 G3) ?_ ?_
 ·cases hcr : c.getD a false with
  | false =>
   rw [hcr] at r5
   (refine aw_ops (by kernel_rfl) (fun K hK => ?_); simp (disch := first | omega | (simp only [lnS]; try omega)) [-getElem?_pos, -getElem?_neg, -xload, xl0, xl1, r5, r1, -xindexAddr, r2, -notTuple, c1, c2, nt_intG, nt_boolG]; refine hK _ _ ?_; clear hK K)
   exact ⟨by (first | (simp [put_at, put_none, fr0_at]; done) | rfl), by (first | (simp [put_at, put_none, fr0_at]; done) | rfl), by (first | (simp [put_at, put_none, fr0_at]; done) | rfl), by (first | (simp [put_at, put_none, fr0_at]; done) | rfl), by (first | (simp [put_at, put_none, fr0_at]; done) | rfl), Low.refl (Nat.le_refl _)⟩
  | true =>
  rw [hcr] at r5
  refine aw_ops (by kernel_rfl) (fun K hK => ?_)
  simp (disch := first | omega | (simp only [lnS]; try omega)) [-getElem?_pos, -getElem?_neg, -xload, xl0, xl1, xl4, r5, r1, -xindexAddr, r2, -notTuple, c1, c2, w1, w2, nt_intG, nt_boolG]
  refine ⟨by kernel_rfl, hli.mono ?_⟩
  rintro v' G3 ⟨lw4, f, cs, rfl, hf⟩
  simp (disch := first | omega | (simp only [lnS]; try omega)) [-getElem?_pos, -getElem?_neg, -notTuple, nt_aggG, nt_fn, cs_fn, nt_intG]
  refine ⟨hf.1, ac_of_rc (hf.2 G3 w (Low.refl (Nat.le_refl _))) (by simp [pv_iv, pv_int, pv_bool, pv_string, pv_tup2, pv_tup3, iv_plain, p2_int, p2_bool, p2_string]) ?_⟩
  try simp (disch := first | omega | (simp only [lnS]; try omega)) [-getElem?_pos, -getElem?_neg]
  refine hK _ _ ?_; clear hK K
  exact ⟨by (first | (simp [put_at, put_none, fr0_at]; done) | rfl), by (first | (simp [put_at, put_none, fr0_at]; done) | rfl), by (first | (simp [put_at, put_none, fr0_at]; done) | rfl), by (first | (simp [put_at, put_none, fr0_at]; done) | rfl), by (first | (simp [put_at, put_none, fr0_at]; done) | rfl), lw4⟩
 rintro α G3 ⟨q30, q1, q4, q6, q9, lw4⟩
 cases hcw : (c.getD a false && decide (w ∈ op.who)) with
 | false =>
  rw [hcw] at q30
  refine aw_t (by (first | (simp [eval_tmp, put_at, q30]; done) | (simp [eval_tmp, put_at, q30]; omega))) (by kernel_rfl) ?_
  refine aw_seq ?_
  (refine aw_ops (by kernel_rfl) (fun K hK => ?_); simp (disch := first | omega | (simp only [lnS]; try omega)) [-getElem?_pos, -getElem?_neg]; refine hK _ _ ?_; clear hK K)
  (refine aw_ret ?_; simp (disch := first | omega | (simp only [lnS]; try omega)) [-getElem?_pos, -getElem?_neg, thenQ_ret, scopeQ_ret, inBlockQ_ret, RQ, resL, resV])
  intro h1 h2
  exfalso
  simp [h1, h2] at hcw
 | true =>
 rw [hcw] at q30
 refine aw_f (by (first | (simp [eval_tmp, put_at, q30]; done) | (simp [eval_tmp, put_at, q30]; omega))) (by kernel_rfl) ?_
 refine aw_skip ?_
 rw [← Bool.and_assoc, hcw, Bool.true_and]
 have xl3 := xl3 G3 lw4
 have hbs := hbs G3 lw4
 refine aw_seq ?_
 by_cases k1 : op.kind = 1
 ·have k1b : (op.kind == 1) = true := by simp [k1]
  (refine aw_ops (by kernel_rfl) (fun K hK => ?_); simp (disch := first | omega | (simp only [lnS]; try omega)) [-getElem?_pos, -getElem?_neg, q9, -xload, xl3, k1, k1b]; refine hK _ _ ?_; clear hK K)
  (refine aw_ret ?_; simp (disch := first | omega | (simp only [lnS]; try omega)) [-getElem?_pos, -getElem?_neg, thenQ_ret, scopeQ_ret, inBlockQ_ret, RQ, resL, resV, k1])
 have k1b : (op.kind == 1) = false := by simp [k1]
 by_cases k2 : op.kind = 2
 case neg =>
  have k2b : (op.kind == 2) = false := by simp [k2]
  (refine aw_ops (by kernel_rfl) (fun K hK => ?_); simp (disch := first | omega | (simp only [lnS]; try omega)) [-getElem?_pos, -getElem?_neg, q9, -xload, xl3, k1, k1b, k2, k2b]; refine hK _ _ ?_; clear hK K)
  (refine aw_ret ?_; simp (disch := first | omega | (simp only [lnS]; try omega)) [-getElem?_pos, -getElem?_neg, thenQ_ret, scopeQ_ret, inBlockQ_ret, RQ, resL, resV, k1, k2])
 have k2b : (op.kind == 2) = true := by simp [k2]
 refine aw_ops (by kernel_rfl) (fun K hK => ?_)
 simp (disch := first | omega | (simp only [lnS]; try omega)) [-getElem?_pos, -getElem?_neg, q1, q4, q6, q9, -xload, xl3, k1, k1b, k2, k2b, -notTuple, s1, s2, nt_fn, cs_fn]
 refine ⟨by kernel_rfl, ac_of_rc hbs (by simp [pv_iv, pv_int, pv_bool, pv_string, pv_tup2, pv_tup3, iv_plain, p2_int, p2_bool, p2_string]) ?_⟩
 try simp (disch := first | omega | (simp only [lnS]; try omega)) [-getElem?_pos, -getElem?_neg]
 refine hK _ _ ?_; clear hK K
 (refine aw_ret ?_; simp (disch := first | omega | (simp only [lnS]; try omega)) [-getElem?_pos, -getElem?_neg, thenQ_ret, scopeQ_ret, inBlockQ_ret, RQ, resL, resV, k1, k2])
end
section
attribute [local simp] wb_bool wb_undef with_lit XL_nil XL_cons XLc_val XLc_call step1_eq stepW_t stepW_f stepC_n stepC_s stepX_s stepX_n stepN_s calleeX oneV xop_eq xopR_s xopR_n wantedA_eq wantedG_n wantedG_s plain1_int plain1_bool plain1_string bits_i64 bits_u64 bits_u32 bits_u16 bits_u8 xeqA xagg xcmp xarr allK_iv num_iv calleeOf xread xeff xbin xint xnil xun xstr xload xconv xpart xfield xfieldAddr xindexAddr xindex bnd asInt? xslice xlen xmin xmax xbuild xfill xappend xapp2 xappstr xappmk xcap xcopy xcells eval_tmp eval_const put_at put_none fr0_at cells_agg cells_int cells_bool cells_string cells_ptr cells_slice notTuple tab iv_all hget_app hget_app0 hget_cons0 hget_cons set_app set_app0 setR setR_one QL_nil QL_cons QLc_val stepQ_t stepQ_f stepQC_n stepQC_s stepQX_s SL_nil SL_cons SLc_val stepS_t stepS_f ltT ltF leT leF eqT eqF ltTn ltFn leTn leFn eqTn eqFn beqT beqF bneT bneF wi64 wu64 wu32 wu16 wu8 tmodP tdivP hgetL hgetNe hgetEq setL nums_def nums_len Nat.succ_le_of_lt List.getElem?_cons_zero List.getElem?_cons_succ Option.getD_some Int.toNat_add Int.toNat_mul agM okM agB agI agS agP agL agA okB okI okS okP okSl okA
theorem ros111_rc {γ : Nat → Option Nat} {H : AH} {nv cv : Value} {l : List NodeD} {c : List Bool} (hV : VwA H nv cv l c) {p1 p2 p3 : Nat} {w : Int} (h1 : hget H p1 = some ⟨[nv, cv], 95, none⟩) (h2 : hget H p2 = some ⟨[.int .i64 w], 3, none⟩) {a r : Nat} (h3 : hget H p3 = some ⟨[.int .i64 (a : Nat)], 3, none⟩) (ha : a < l.length) (hr : r < l.length) :
  AC Try.prog H.length γ 109 #[.int .i64 (r : Nat), .pointer (some ⟨p1, 0, none⟩), .pointer (some ⟨p2, 0, none⟩), .pointer (some ⟨p3, 0, none⟩)] H (fun v' _ => v' = .bool (remB l c r w && !ahB l r a)) := by
 have k1 := removes_rc (γ := γ) hV.nodes hV.counts hV.len hr w
 have k2 := vahead_rc (γ := γ) hV.nodes ⟨hV.counts.nt, hV.counts.cs⟩ hV.right r ha
 refine ac_of_aw Try.func109 rfl Try.ntmps109 Try.results109 (by simp) ?_
 refine aw_seq ?_
 (refine aw_ops (by kernel_rfl) (fun K hK => ?_); simp (disch := first | omega | (simp only [lnS]; try omega)) [-getElem?_pos, -getElem?_neg]; refine hK _ _ ?_; clear hK K)
 refine aw_seq ?_
 refine aw_ops (by kernel_rfl) (fun K hK => ?_)
 simp (disch := first | omega | (simp only [lnS]; try omega)) [-getElem?_pos, -getElem?_neg, h1, h2, nt_aggG, nt_intG]
 refine ⟨by kernel_rfl, ac_of_rc k1 (by simp [pv_iv, pv_int, pv_bool, pv_string, pv_tup2, pv_tup3, iv_plain, p2_int, p2_bool, p2_string]) ?_⟩
 cases e1 : remB l c r w with
 | false =>
  try simp (disch := first | omega | (simp only [lnS]; try omega)) [-getElem?_pos, -getElem?_neg]
  refine hK _ _ ?_; clear hK K
  (refine aw_ret ?_; simp (disch := first | omega | (simp only [lnS]; try omega)) [-getElem?_pos, -getElem?_neg, thenQ_ret, scopeQ_ret, inBlockQ_ret, RQ, resL, resV, e1])
 | true =>
 simp (disch := first | omega | (simp only [lnS]; try omega)) [-getElem?_pos, -getElem?_neg, h1, h3, nt_aggG, nt_intG]
 refine ⟨by kernel_rfl, ac_of_rc k2 (by simp [pv_iv, pv_int, pv_bool, pv_string, pv_tup2, pv_tup3, iv_plain, p2_int, p2_bool, p2_string]) ?_⟩
 try simp (disch := first | omega | (simp only [lnS]; try omega)) [-getElem?_pos, -getElem?_neg]
 refine hK _ _ ?_; clear hK K
 (refine aw_ret ?_; simp (disch := first | omega | (simp only [lnS]; try omega)) [-getElem?_pos, -getElem?_neg, thenQ_ret, scopeQ_ret, inBlockQ_ret, RQ, resL, resV, e1])
theorem ros111_callable : callable Try.prog 109 = true := by kernel_rfl
theorem ros11_rc {γ : Nat → Option Nat} {H : AH} {nv cv sv : Value} {l : List NodeD} {c : List Bool} {S : List Int} (hV : VwA H nv cv l c) (hS : InV H sv S) (hSl : S.length ≤ maxLen) (hP : Plc l S) {p1 p2 p3 : Nat} {w : Int} (h1 : hget H p1 = some ⟨[nv, cv], 95, none⟩) (h2 : hget H p2 = some ⟨[sv], 23, none⟩) (h3 : hget H p3 = some ⟨[.int .i64 w], 3, none⟩) {a : Nat} (ha : a < l.length) :
  AC Try.prog H.length γ 107 #[.int .i64 (a : Nat), .pointer (some ⟨p1, 0, none⟩), .pointer (some ⟨p2, 0, none⟩), .pointer (some ⟨p3, 0, none⟩)] H (fun v' _ => v' = .bool (admB l c S a w && !(S.any fun r => remB l c r.toNat w && !ahB l r.toNat a))) := by
 have s1 := hS.acc.nt
 have s2 := hS.acc.cs
 refine ac_of_aw Try.func107 rfl Try.ntmps107 Try.results107 (by simp) ?_
 refine aw_seq ?_
 (refine aw_ops (by kernel_rfl) (fun K hK => ?_); simp (disch := first | omega | (simp only [lnS]; try omega)) [-getElem?_pos, -getElem?_neg, nt_intG]; refine hK _ _ ?_; clear hK K)
 obtain ⟨lw, b4⟩ := boxed (H := H) [.int .i64 (a : Nat)] 3
 obtain ⟨n, hn⟩ : ∃ n, n = H.length := ⟨_, rfl⟩
 have h1 := (lw.1 _ (hget_lt h1)).trans h1
 have h2 := (lw.1 _ (hget_lt h2)).trans h2
 have h3 := (lw.1 _ (hget_lt h3)).trans h3
 rw [← hn] at b4 ⊢
 generalize H ++ [some ⟨[.int .i64 (a : Nat)], 3, none⟩] = G at *
 have k1 := admits_rc (γ := γ) (hV.low lw) (hS.lowG lw) hSl hP ha w
 have k2 := anyI_rc (γ := γ) (hS.lowG lw) hSl (f := 109) (cs := #[.pointer (some ⟨p1, 0, none⟩), .pointer (some ⟨p3, 0, none⟩), .pointer (some ⟨n, 0, none⟩)]) (P := fun r => remB l c r.toNat w && !ahB l r.toNat a) ros111_callable (fun G4 z h4 hz => by
  obtain ⟨r, rfl, hr⟩ := hP z hz
  exact ros111_rc (γ := γ) (hV.low (lw.both h4)) ((h4.1 _ (hget_lt h1)).trans h1) ((h4.1 _ (hget_lt h3)).trans h3) ((h4.1 _ (hget_lt b4)).trans b4) ha hr)
 generalize S.any (fun r => remB l c r.toNat w && !ahB l r.toNat a) = E at *
 generalize admB l c S a w = D at *
 refine aw_seq ?_
 refine aw_ops (by kernel_rfl) (fun K hK => ?_)
 simp (disch := first | omega | (simp only [lnS]; try omega)) [-getElem?_pos, -getElem?_neg, h1, h2, h3, b4, -notTuple, s1, s2, nt_aggG, nt_intG]
 refine ⟨by kernel_rfl, ac_of_rc k1 (by simp [pv_iv, pv_int, pv_bool, pv_string, pv_tup2, pv_tup3, iv_plain, p2_int, p2_bool, p2_string]) ?_⟩
 cases D with
 | false =>
  try simp (disch := first | omega | (simp only [lnS]; try omega)) [-getElem?_pos, -getElem?_neg]
  refine hK _ _ ?_; clear hK K
  (refine aw_ret ?_; simp (disch := first | omega | (simp only [lnS]; try omega)) [-getElem?_pos, -getElem?_neg, thenQ_ret, scopeQ_ret, inBlockQ_ret, RQ, resL, resV])
 | true =>
 simp (disch := first | omega | (simp only [lnS]; try omega)) [-getElem?_pos, -getElem?_neg, h2, -notTuple, s1, s2, nt_aggG, nt_intG, nt_fn, cs_fn]
 refine ⟨by kernel_rfl, ac_of_rc k2 (by simp [pv_iv, pv_int, pv_bool, pv_string, pv_tup2, pv_tup3, iv_plain, p2_int, p2_bool, p2_string]) ?_⟩
 try simp (disch := first | omega | (simp only [lnS]; try omega)) [-getElem?_pos, -getElem?_neg]
 refine hK _ _ ?_; clear hK K
 (refine aw_ret ?_; simp (disch := first | omega | (simp only [lnS]; try omega)) [-getElem?_pos, -getElem?_neg, thenQ_ret, scopeQ_ret, inBlockQ_ret, RQ, resL, resV])
theorem ros11_callable : callable Try.prog 107 = true := by kernel_rfl
theorem ros1_rc {γ : Nat → Option Nat} {H : AH} {nv cv sv : Value} {l : List NodeD} {c : List Bool} {S : List Int} (hV : VwA H nv cv l c) (hS : InV H sv S) (hSl : S.length ≤ maxLen) (hP : Plc l S) {p1 p2 : Nat} (h1 : hget H p1 = some ⟨[sv], 23, none⟩) (h2 : hget H p2 = some ⟨[nv, cv], 95, none⟩) (w : Int) :
  AC Try.prog H.length γ 105 #[.int .i64 w, .pointer (some ⟨p1, 0, none⟩), .pointer (some ⟨p2, 0, none⟩)] H (fun v' _ => v' = .bool (rosB l c S w)) := by
 have s1 := hS.acc.nt
 have s2 := hS.acc.cs
 refine ac_of_aw Try.func105 rfl Try.ntmps105 Try.results105 (by simp) ?_
 refine aw_seq ?_
 (refine aw_ops (by kernel_rfl) (fun K hK => ?_); simp (disch := first | omega | (simp only [lnS]; try omega)) [-getElem?_pos, -getElem?_neg, nt_intG]; refine hK _ _ ?_; clear hK K)
 obtain ⟨lw, b3⟩ := boxed (H := H) [.int .i64 w] 3
 obtain ⟨n, hn⟩ : ∃ n, n = H.length := ⟨_, rfl⟩
 have h1 := (lw.1 _ (hget_lt h1)).trans h1
 have h2 := (lw.1 _ (hget_lt h2)).trans h2
 rw [← hn] at b3 ⊢
 generalize H ++ [some ⟨[.int .i64 w], 3, none⟩] = G at *
 have k2 := anyI_rc (γ := γ) (hS.lowG lw) hSl (f := 107) (cs := #[.pointer (some ⟨p2, 0, none⟩), .pointer (some ⟨p1, 0, none⟩), .pointer (some ⟨n, 0, none⟩)]) (P := fun a => admB l c S a.toNat w && !(S.any fun r => remB l c r.toNat w && !ahB l r.toNat a.toNat)) ros11_callable (fun G4 z h4 hz => by
  obtain ⟨a, rfl, ha⟩ := hP z hz
  exact ros11_rc (γ := γ) (hV.low (lw.both h4)) (hS.lowG (lw.both h4)) hSl hP ((h4.1 _ (hget_lt h2)).trans h2) ((h4.1 _ (hget_lt h1)).trans h1) ((h4.1 _ (hget_lt b3)).trans b3) ha)
 have hd : rosB l c S w = S.any fun a => admB l c S a.toNat w && !(S.any fun r => remB l c r.toNat w && !ahB l r.toNat a.toNat) := rfl
 rw [hd]
 generalize (S.any fun a => admB l c S a.toNat w && !(S.any fun r => remB l c r.toNat w && !ahB l r.toNat a.toNat)) = E at *
 refine aw_seq ?_
 refine aw_ops (by kernel_rfl) (fun K hK => ?_)
 simp (disch := first | omega | (simp only [lnS]; try omega)) [-getElem?_pos, -getElem?_neg, h1, -notTuple, s1, s2, nt_fn, cs_fn]
 refine ⟨by kernel_rfl, ac_of_rc k2 (by simp [pv_iv, pv_int, pv_bool, pv_string, pv_tup2, pv_tup3, iv_plain, p2_int, p2_bool, p2_string]) ?_⟩
 try simp (disch := first | omega | (simp only [lnS]; try omega)) [-getElem?_pos, -getElem?_neg]
 refine hK _ _ ?_; clear hK K
 (refine aw_ret ?_; simp (disch := first | omega | (simp only [lnS]; try omega)) [-getElem?_pos, -getElem?_neg, thenQ_ret, scopeQ_ret, inBlockQ_ret, RQ, resL, resV])
theorem ros1_callable : callable Try.prog 105 = true := by kernel_rfl
def rosV (n : Nat) : Value := .agg #[.func (.func 105) #[] #[.pointer (some ⟨n + 1, 0, none⟩), .pointer (some ⟨n, 0, none⟩)]]
theorem vroster_ac {γ : Nat → Option Nat} {nro : Nat} {H : AH} {nv cv sv : Value} {l : List NodeD} {c : List Bool} {S : List Int} (hV : VwA H nv cv l c) (hS : InV H sv S) (hSl : S.length ≤ maxLen) (hP : Plc l S) (hnro : nro ≤ H.length) :
  AC Try.prog nro γ 63 #[.agg #[nv, cv], sv] H (fun v' H' => v' = rosV H.length ∧ Low H.length H H' ∧ Grp γ H' v' (rosB l c S)) := by
 have s1 := hS.acc.nt
 have s2 := hS.acc.cs
 have n1 := hV.nodes.nt
 have n2 := hV.nodes.cs
 have c1 := hV.counts.nt
 have c2 := hV.counts.cs
 refine ac_of_aw Try.func63 rfl Try.ntmps63 Try.results63 (by simp) ?_
 refine aw_seq ?_
 (refine aw_ops (by kernel_rfl) (fun K hK => ?_); simp (disch := first | omega | (simp only [lnS]; try omega)) [-getElem?_pos, -getElem?_neg, -notTuple, s1, s2, n1, n2, c1, c2, nt_aggG]; refine hK _ _ ?_; clear hK K)
 refine aw_seq ?_
 (refine aw_ops (by kernel_rfl) (fun K hK => ?_); simp (disch := first | omega | (simp only [lnS]; try omega)) [-getElem?_pos, -getElem?_neg, -notTuple, pl_nilF, nt_fn, cs_fn, nt_aggG]; refine hK _ _ ?_; clear hK K)
 (refine aw_ret ?_; simp (disch := first | omega | (simp only [lnS]; try omega)) [-getElem?_pos, -getElem?_neg, thenQ_ret, scopeQ_ret, inBlockQ_ret, RQ, resL, resV])
 obtain ⟨G, hG⟩ : ∃ G : AH, G = H ++ [some ⟨[nv, cv], 95, none⟩, some ⟨[sv], 23, none⟩, some ⟨[.func (.func 105) #[] #[.pointer (some ⟨H.length + 1, 0, none⟩), .pointer (some ⟨H.length, 0, none⟩)]], 93, none⟩] := ⟨_, rfl⟩
 have b2 : hget G H.length = some ⟨[nv, cv], 95, none⟩ := by rw [hG, hget_app0]; rfl
 have b3 : hget G (H.length + 1) = some ⟨[sv], 23, none⟩ := by rw [hG, hget_app]; rfl
 have lw : Low H.length H G := by rw [hG]; exact Low.push (Nat.le_refl _) _
 rw [← hG]
 refine ⟨rfl, lw, _, _, rfl, ros1_callable, fun G4 z h4 => ?_⟩
 exact ros1_rc (hV.low (lw.both h4)) (hS.lowG (lw.both h4)) hSl hP ((h4.1 _ (hget_lt b3)).trans b3) ((h4.1 _ (hget_lt b2)).trans b2) z
def membL (P : Int → Bool) (k : Nat) : List Int := ((List.range k).map fun n : Nat => (n : Int)).filter P
theorem membL_succ (P : Int → Bool) (k : Nat) : membL P (k + 1) = if P k then membL P k ++ [(k : Int)] else membL P k := by
 unfold membL
 rw [List.range_succ, List.map_append, List.filter_append]
 cases h : P k <;> simp [h]
theorem membL_le (P : Int → Bool) (k : Nat) : (membL P k).length ≤ k := by
 unfold membL
 exact Nat.le_trans (List.length_filter_le _ _) (by simp)
theorem members_ac {γ : Nat → Option Nat} {nro : Nat} {H : AH} {v : Value} {P : Int → Bool} (hg : Grp γ H v P) (hnro : nro ≤ H.length) : AC Try.prog nro γ 64 #[v] H (fun v' H' => Low H.length H H' ∧ ∃ F, OwnF H' v' 3 1 (iv .i64 (membL P 8)) F ∧ ∀ j ∈ F, H.length ≤ j) := by
 obtain ⟨f, cs, rfl, hf⟩ := hg
 refine ac_of_aw Try.func64 rfl Try.ntmps64 Try.results64 (by simp) ?_
 refine aw_seq ?_
 (refine aw_ops (by kernel_rfl) (fun K hK => ?_); simp (disch := first | omega | (simp only [lnS]; try omega)) [-getElem?_pos, -getElem?_neg, -notTuple, nt_aggG, nt_fn, cs_fn]; refine hK _ _ ?_; clear hK K)
 obtain ⟨lw, b1⟩ := boxed (H := H) [.func (.func f) #[] cs] 93
 generalize H ++ [some ⟨[.func (.func f) #[] cs], 93, none⟩] = G at *
 refine aw_seq ?_
 (refine aw_ops (by kernel_rfl) (fun K hK => ?_); simp (disch := first | omega | (simp only [lnS]; try omega)) [-getElem?_pos, -getElem?_neg]; refine hK _ _ ?_; clear hK K)
 refine aw_seq ?_
 refine aw_seq ?_
 (refine aw_ops (by kernel_rfl) (fun K hK => ?_); simp (disch := first | omega | (simp only [lnS]; try omega)) [-getElem?_pos, -getElem?_neg]; refine hK _ _ ?_; clear hK K)
 refine aw_block ?_
 refine aw_loop (fun c α G' => ∃ (k : Nat) (x : Value) (F : List Nat), k + c = 8 ∧ Low H.length H G' ∧ hget G' H.length = some ⟨[.func (.func f) #[] cs], 93, none⟩ ∧ α 1 = .pointer (some ⟨H.length, 0, none⟩) ∧ α 3 = x ∧ α 5 = .int .i64 (k : Nat) ∧ OwnF G' x 3 1 (iv .i64 (membL P k)) F ∧ ∀ j ∈ F, H.length < j) 8 ?_ ?_
 ·exact ⟨0, .slice none 0 0, [], by omega, lw, b1, by (first | (simp [put_at, put_none, fr0_at]; done) | rfl), by (first | (simp [put_at, put_none, fr0_at]; done) | rfl), by (first | (simp [put_at, put_none, fr0_at]; done) | rfl), .inl ⟨rfl, rfl, rfl⟩, fun j hj => by cases hj⟩
 clear lw b1
 rintro c α G' ⟨k, x, F, hkc, lw, b1, q1, q3, q5, hF, hFl⟩
 obtain ⟨v1, v2⟩ := own_nt hF
 have g1 := hget_lt b1
 refine aw_seq ?_
 by_cases hk : k < 8
 case neg =>
  (refine aw_ops (by kernel_rfl) (fun K hK => ?_); simp (disch := first | omega | (simp only [lnS]; try omega)) [-getElem?_pos, -getElem?_neg, q5, hk]; refine hK _ _ ?_; clear hK K)
  refine aw_seq ?_
  refine aw_f (by (first | (simp [eval_tmp, put_at, hk]; done) | (simp [eval_tmp, put_at, hk]; omega))) (by kernel_rfl) ?_
  refine aw_exit ?_
  obtain rfl : k = 8 := by omega
  refine aw_seq ?_
  (refine aw_ops (by kernel_rfl) (fun K hK => ?_); simp (disch := first | omega | (simp only [lnS]; try omega)) [-getElem?_pos, -getElem?_neg, q3, -notTuple, v1, v2]; refine hK _ _ ?_; clear hK K)
  (refine aw_ret ?_; simp (disch := first | omega | (simp only [lnS]; try omega)) [-getElem?_pos, -getElem?_neg, thenQ_ret, scopeQ_ret, inBlockQ_ret, RQ, resL, resV])
  exact ⟨lw, F, hF, fun j hj => by have := hFl j hj; omega⟩
 have hsu := membL_succ P k
 have hle := membL_le P k
 have hc := hf.2 G' (k : Int) lw
 (refine aw_ops (by kernel_rfl) (fun K hK => ?_); simp (disch := first | omega | (simp only [lnS]; try omega)) [-getElem?_pos, -getElem?_neg, q5, hk]; refine hK _ _ ?_; clear hK K)
 refine aw_seq ?_
 refine aw_t (by (first | (simp [eval_tmp, put_at, hk]; done) | (simp [eval_tmp, put_at, hk]; omega))) (by kernel_rfl) ?_
 refine aw_skip ?_
 refine aw_seq ?_
 refine aw_block ?_
 refine aw_seq ?_
 (refine aw_ops (by kernel_rfl) (fun K hK => ?_); simp (disch := first | omega | (simp only [lnS]; try omega)) [-getElem?_pos, -getElem?_neg, q5]; refine hK _ _ ?_; clear hK K)
 refine aw_seq ?_
 refine aw_ops (by kernel_rfl) (fun K hK => ?_)
 simp (disch := first | omega | (simp only [lnS]; try omega)) [-getElem?_pos, -getElem?_neg, q1, b1, -notTuple, nt_fn, cs_fn, nt_intG]
 refine ⟨hf.1, ac_of_rc hc (by simp [pv_iv, pv_int, pv_bool, pv_string, pv_tup2, pv_tup3, iv_plain, p2_int, p2_bool, p2_string]) ?_⟩
 cases hp : P (k : Int) with
 | false =>
  rw [hp] at hsu
  try simp (disch := first | omega | (simp only [lnS]; try omega)) [-getElem?_pos, -getElem?_neg]
  refine hK _ _ ?_; clear hK K
  refine aw_f (by (first | (simp [eval_tmp, put_at]; done) | (simp [eval_tmp, put_at]; omega))) (by kernel_rfl) ?_
  refine aw_skip ?_
  (refine aw_ops (by kernel_rfl) (fun K hK => ?_); simp (disch := first | omega | (simp only [lnS]; try omega)) [-getElem?_pos, -getElem?_neg, q5]; refine hK _ _ ?_; clear hK K)
  exact ⟨c - 1, by omega, k + 1, x, F, by omega, lw, b1, by (first | (simp [put_at, put_none, fr0_at, q1]; done) | rfl), by (first | (simp [put_at, put_none, fr0_at, q3]; done) | rfl), by (first | (simp [put_at, put_none, fr0_at]; done) | rfl), by rw [hsu]; simpa using hF, hFl⟩
 | true =>
  rw [hp, if_pos rfl] at hsu
  try simp (disch := first | omega | (simp only [lnS]; try omega)) [-getElem?_pos, -getElem?_neg]
  refine hK _ _ ?_; clear hK K
  refine aw_t (by (first | (simp [eval_tmp, put_at]; done) | (simp [eval_tmp, put_at]; omega))) (by kernel_rfl) ?_
  generalize membL P k = out at *
  have hxc : xcells 1 (.slice (some ⟨G'.length, 0, none⟩) 1 1) (G' ++ [some ⟨[.int .i64 (k : Nat)], 3, some 1⟩]) = some (iv .i64 [(k : Int)]) := by simp [xcells, iv, hget_app0]
  obtain ⟨v', G3, hap, ho3, hl3, hk3⟩ := ownF_append (P := Try.prog) (nro := nro) (t := 23) (e := 3) (H := G' ++ [some ⟨[.int .i64 (k : Nat)], 3, some 1⟩]) (v := x) (x := .slice (some ⟨G'.length, 0, none⟩) 1 1) (sz := 1) (cells := iv .i64 out) (news := iv .i64 [(k : Int)]) (F := F) (by simp) (by simp) (by omega) (by simp) (hF.low (fun j hj => hget_left (hF.lt j hj)))
   (fun j hj => by have := hFl j hj; omega) (fun s e => by cases e) hxc (by simp [iv]) (Nat.mod_one _) (by rw [iv_length, iv_length]; simp; omega) (by rw [iv_length, iv_length]; simp [maxLen]; omega)
  (refine aw_ops (by kernel_rfl) (fun K hK => ?_); simp (disch := first | omega | (simp only [lnS]; try omega)) [-getElem?_pos, -getElem?_neg, q3, -notTuple, v1, v2, nt_intG, nt_slG, -xappend, hap]; refine hK _ _ ?_; clear hK K)
  (refine aw_ops (by kernel_rfl) (fun K hK => ?_); simp (disch := first | omega | (simp only [lnS]; try omega)) [-getElem?_pos, -getElem?_neg, q5]; refine hK _ _ ?_; clear hK K)
  have hlw := lw.2
  refine ⟨c - 1, by omega, k + 1, v', _, by omega, ⟨fun j hj => (hk3 j (by simp; omega) (fun h => by have := hFl _ h; omega)).trans ((hget_left (by omega)).trans (lw.1 j hj)), by rw [hl3]; simp; omega⟩, (hk3 _ (by simp; omega) (fun h => by have := hFl _ h; omega)).trans ((hget_left g1).trans b1), by (first | (simp [put_at, put_none, fr0_at, q1]; done) | rfl), by (first | (simp [put_at, put_none, fr0_at]; done) | rfl), by (first | (simp [put_at, put_none, fr0_at]; done) | rfl), by rw [hsu, iv_append]; exact ho3, fun j hj => ?_⟩
  rw [List.mem_singleton] at hj
  rw [hj]
  simp; omega
end
section
def cntP (l : List NodeD) : Nat → List Bool
 | 0 => []
 | i + 1 => cntP l i ++ [decide ((nd l i).op.kind = 1) || rosB l (cntP l i) (nd l i).past (nd l i).op.author]
def cntsB (l : List NodeD) : List Bool := cntP l l.length
theorem cntP_len (l : List NodeD) (i : Nat) : (cntP l i).length = i := by
 induction i with
 | zero => rfl
 | succ i ih => simp [cntP, ih]
theorem getD_rep (c : List Bool) (k r : Nat) : (c ++ List.replicate k false).getD r false = c.getD r false := by
 rw [List.getD_eq_getElem?_getD, List.getD_eq_getElem?_getD]
 rcases Nat.lt_or_ge r c.length with h | h
 ·rw [List.getElem?_append_left h]
 ·rw [List.getElem?_append_right h, List.getElem?_eq_none h, List.getElem?_replicate]
  split <;> rfl
theorem ros_congr {l : List NodeD} {c d : List Bool} (h : ∀ r, c.getD r false = d.getD r false) : rosB l c = rosB l d := by
 have h1 : ∀ r w, remB l c r w = remB l d r w := fun r w => by unfold remB; rw [h]
 have h2 : ∀ S a, besB l c S a = besB l d S a := fun S a => by unfold besB; simp only [h1]
 have h3 : ∀ S a w, admB l c S a w = admB l d S a w := fun S a w => by unfold admB; rw [h, h2]
 funext S w
 unfold rosB
 simp only [h1, h3]
def bv (c : List Bool) : List Value := c.map .bool
theorem bv_get {c : List Bool} {i : Nat} (h : i < c.length) : (bv c)[i]? = some (.bool (c.getD i false)) := by
 unfold bv
 rw [List.getElem?_map, List.getD_eq_getElem?_getD, List.getElem?_eq_getElem h]; rfl
theorem bv_set (c : List Bool) (i : Nat) (b : Bool) : (bv c).set i (.bool b) = bv (c.set i b) := by simp [bv, List.map_set]
attribute [local simp] wb_bool wb_undef with_lit XL_nil XL_cons XLc_val XLc_call step1_eq stepW_t stepW_f stepC_n stepC_s stepX_s stepX_n stepN_s calleeX oneV xop_eq xopR_s xopR_n wantedA_eq wantedG_n wantedG_s plain1_int plain1_bool plain1_string bits_i64 bits_u64 bits_u32 bits_u16 bits_u8 xeqA xagg xcmp xarr allK_iv num_iv calleeOf xread xeff xbin xint xnil xun xstr xload xconv xpart xfield xfieldAddr xindexAddr xindex bnd asInt? xslice xlen xmin xmax xbuild xfill xappend xapp2 xappstr xappmk xcap xcopy xcells eval_tmp eval_const put_at put_none fr0_at cells_agg cells_int cells_bool cells_string cells_ptr cells_slice notTuple tab iv_all hget_app hget_app0 hget_cons0 hget_cons set_app set_app0 setR setR_one QL_nil QL_cons QLc_val stepQ_t stepQ_f stepQC_n stepQC_s stepQX_s SL_nil SL_cons SLc_val stepS_t stepS_f ltT ltF leT leF eqT eqF ltTn ltFn leTn leFn eqTn eqFn beqT beqF bneT bneF wi64 wu64 wu32 wu16 wu8 tmodP tdivP hgetL hgetNe hgetEq setL nums_def nums_len Nat.succ_le_of_lt List.getElem?_cons_zero List.getElem?_cons_succ Option.getD_some Int.toNat_add Int.toNat_mul agM okM agB agI agS agP agL agA okB okI okS okP okSl okA
theorem bv_acc {H : AH} {b : Nat} {c : List Bool} (h : hget H b = some ⟨bv c, 4, some 1⟩) : CtA H (.slice (some ⟨b, 0, none⟩) c.length c.length) c := by
 refine ⟨rfl, rfl, ?_, fun i hi => ⟨.pointer (some ⟨b, i, none⟩), .bool (c.getD i false), rfl, ?_, rfl, rfl, fun G hg => ?_⟩⟩
 ·simp [xlen]
 ·simp [xindexAddr]
  omega
 ·have h2 := (hg.1 _ (hget_lt h)).trans h
  have h3 := bv_get hi
  simp [xload, h2, h3]
theorem look2_ac {γ : Nat → Option Nat} {nro : Nat} {H : AH} {nv : Value} {l : List NodeD} (hN : NdA H nv l) (h3 : rightG l = true) (hnro : nro ≤ H.length) : AC Try.prog nro γ 62 #[nv] H (fun v' H' => Low H.length H H' ∧ v' = .agg #[nv, .slice (some ⟨H.length + 1, 0, none⟩) l.length l.length] ∧ hget H' (H.length + 1) = some ⟨bv (cntsB l), 4, some 1⟩) := by
 have hN' := hN
 obtain ⟨hnt, hvc, hxl, hwf, hat⟩ := hN
 have hl96 := rightG_len h3
 refine ac_of_aw Try.func62 rfl Try.ntmps62 Try.results62 (by simp) ?_
 refine aw_seq ?_
 (refine aw_ops (by kernel_rfl) (fun K hK => ?_); simp (disch := first | omega | (simp only [lnS]; try omega)) [-getElem?_pos, -getElem?_neg]; refine hK _ _ ?_; clear hK K)
 refine aw_seq ?_
 have hml : l.length ≤ maxLen := by simp only [maxLen]; omega
 obtain ⟨N, hNl⟩ : ∃ N, N = l.length := ⟨_, rfl⟩
 have hz : List.map (fun j => [Value.bool false][j % 1]?.getD undef) (List.range l.length) = bv (List.replicate N false) := by
  rw [hNl]
  unfold bv
  apply List.ext_getElem
  ·simp
  ·intro i h1 h2
   simp [Nat.mod_one]
 have hp0 : plain1 (.slice none 0 0) = true := rfl
 (refine aw_ops (by kernel_rfl) (fun K hK => ?_); simp (disch := first | omega | (simp only [lnS]; try omega)) [-getElem?_pos, -getElem?_neg, -notTuple, hnt, hvc, nt_intG, nt_slG, nt_aggG, -xlen, hxl, hml, hz, hp0]; refine hK _ _ ?_; clear hK K)
 obtain ⟨n, hn⟩ : ∃ n, n = H.length := ⟨_, rfl⟩
 obtain ⟨G, hG⟩ : ∃ G : AH, G = H ++ [some ⟨[.slice none 0 0, .slice none 0 0], 95, none⟩, some ⟨bv (List.replicate N false), 4, some 1⟩, some ⟨[nv, .slice (some ⟨H.length + 1, 0, none⟩) l.length l.length], 95, none⟩] := ⟨_, rfl⟩
 have b2 : hget G n = some ⟨[.slice none 0 0, .slice none 0 0], 95, none⟩ := by rw [hG, hn, hget_app0]; rfl
 have b9 : hget G (n + 1) = some ⟨bv (List.replicate N false), 4, some 1⟩ := by rw [hG, hn, hget_app]; rfl
 have b3 : hget G (n + 2) = some ⟨[nv, .slice (some ⟨n + 1, 0, none⟩) N N], 95, none⟩ := by rw [hG, hn, hget_app, hNl]; rfl
 have lw : Low n H G := by rw [hG, hn]; exact Low.push (Nat.le_refl _) _
 rw [← hG, ← hn]
 clear hG
 rw [← hn] at hnro
 refine aw_seq ?_
 refine aw_seq ?_
 (refine aw_ops (by kernel_rfl) (fun K hK => ?_); simp (disch := first | omega | (simp only [lnS]; try omega)) [-getElem?_pos, -getElem?_neg, -notTuple, hnt, hvc, nt_intG, -xlen, hxl]; refine hK _ _ ?_; clear hK K)
 refine aw_block ?_
 refine aw_loop (fun c α G' => ∃ i : Nat, i + c = N ∧ Low n H G' ∧ hget G' n = some ⟨[.slice none 0 0, .slice none 0 0], 95, none⟩ ∧ hget G' (n + 1) = some ⟨bv (cntP l i ++ List.replicate (N - i) false), 4, some 1⟩ ∧ hget G' (n + 2) = some ⟨[nv, .slice (some ⟨n + 1, 0, none⟩) N N], 95, none⟩ ∧ α 2 = .pointer (some ⟨n, 0, none⟩) ∧ α 3 = .pointer (some ⟨n + 2, 0, none⟩) ∧ α 11 = nv ∧ α 12 = .int .i64 (N : Nat) ∧ α 13 = .int .i64 (i : Nat)) N ?_ ?_
 ·exact ⟨0, by omega, lw, b2, b9, b3, by (first | (simp [put_at, put_none, fr0_at]; done) | rfl), by (first | (simp [put_at, put_none, fr0_at]; done) | rfl), by (first | (simp [put_at, put_none, fr0_at]; done) | rfl), by rw [hNl]; (first | (simp [put_at, put_none, fr0_at]; done) | rfl), by (first | (simp [put_at, put_none, fr0_at]; done) | rfl)⟩
 clear lw b2 b9 b3
 rintro c α G' ⟨i, hic, lw, b2, b9, b3, q2, q3, q11, q12, q13⟩
 have g3 := hget_lt b3
 refine aw_seq ?_
 by_cases hi : i < N
 case neg =>
  obtain rfl : i = N := by omega
  (refine aw_ops (by kernel_rfl) (fun K hK => ?_); simp (disch := first | omega | (simp only [lnS]; try omega)) [-getElem?_pos, -getElem?_neg, q12, q13]; refine hK _ _ ?_; clear hK K)
  refine aw_seq ?_
  refine aw_f (by (first | (simp [eval_tmp, put_at]; done) | (simp [eval_tmp, put_at]; omega))) (by kernel_rfl) ?_
  refine aw_exit ?_
  refine aw_seq ?_
  (refine aw_ops (by kernel_rfl) (fun K hK => ?_); simp (disch := first | omega | (simp only [lnS]; try omega)) [-getElem?_pos, -getElem?_neg, q2, q3, b2, b3, -notTuple, hnt, hvc, nt_slG, nt_aggG]; refine hK _ _ ?_; clear hK K)
  (refine aw_ret ?_; simp (disch := first | omega | (simp only [lnS]; try omega)) [-getElem?_pos, -getElem?_neg, thenQ_ret, scopeQ_ret, inBlockQ_ret, RQ, resL, resV, q2, b2])
  have lw2 : Low n H (G'.set n (some ⟨[nv, .slice (some ⟨n + 1, 0, none⟩) i i], 95, none⟩)) := ⟨fun j hj => (hget_set_ne (by omega)).trans (lw.1 j hj), by rw [List.length_set]; exact lw.2⟩
  have e1 : cntP l i ++ List.replicate (i - i) false = cntsB l := by rw [Nat.sub_self]; simp [cntsB, ← hNl]
  rw [e1] at b9
  exact ⟨lw2, b9⟩
 obtain ⟨j, q, bb, us, pv, wv', bvv, qv, hx, hbb, hq, hcell, hus, hC⟩ := hat i _ (nd_get (by omega))
 have hbG : hget G' j = some bb := (lw.1 j (hn ▸ hget_lt hbb)).trans hbb
 have hul := hC.len
 have hle0 := lw.2
 have c0 : us[32]? = some (.int .i64 (nd l i).op.author) := by
  have := hC.op.c0
  rwa [List.getElem?_take_of_lt (by omega), List.getElem?_drop] at this
 have c3 : us[35]? = some (.int .i64 (nd l i).op.kind) := by
  have := hC.op.c3
  rwa [List.getElem?_take_of_lt (by omega), List.getElem?_drop] at this
 have cq := hC.c103
 have hset2 : ∀ Z : List Value, Z.length = 104 → setR Z 0 us = us := fun Z hZ => setR_all _ _ (by omega)
 have hus' := hus.symm
 clear hus
 (refine aw_ops (by kernel_rfl) (fun K hK => ?_); simp (disch := first | omega | (simp only [lnS]; try omega)) [-getElem?_pos, -getElem?_neg, q12, q13, hi]; refine hK _ _ ?_; clear hK K)
 refine aw_seq ?_
 refine aw_t (by (first | (simp [eval_tmp, put_at, hi]; done) | (simp [eval_tmp, put_at, hi]; omega))) (by kernel_rfl) ?_
 refine aw_skip ?_
 refine aw_seq ?_
 refine aw_block ?_
 refine aw_seq ?_
 (refine aw_ops (by kernel_rfl) (fun K hK => ?_); simp (disch := first | omega | (simp only [lnS]; try omega)) [-getElem?_pos, -getElem?_neg, q11, q13, -notTuple, hnt, hvc, nt_intG, nt_aggG, -xindexAddr, hx, hbG, hus', hul, hq, hle0, hp0, all_zl, hset2]; refine hK _ _ ?_; clear hK K)
 obtain ⟨hlow2, b5⟩ := boxed (H := G') us 50
 obtain ⟨g, hg⟩ : ∃ g, g = G'.length := ⟨_, rfl⟩
 rw [← hg] at b5 hlow2 g3 ⊢
 generalize G' ++ [some ⟨us, 50, none⟩] = G2 at *
 have lw2 : Low n H G2 := ⟨fun j hj => (hlow2.1 j (by omega)).trans (lw.1 j hj), by have := hlow2.2; omega⟩
 have b2 := (hlow2.1 n (by omega)).trans b2
 have b9 := (hlow2.1 (n + 1) (by omega)).trans b9
 have b3 := (hlow2.1 (n + 2) (by omega)).trans b3
 clear lw hlow2 hle0
 obtain ⟨C, hCe⟩ : ∃ C, C = cntP l i ++ List.replicate (N - i) false := ⟨_, rfl⟩
 have hCl : C.length = N := by rw [hCe, List.length_append, cntP_len, List.length_replicate]; omega
 have hCd : ∀ r, C.getD r false = (cntP l i).getD r false := fun r => by rw [hCe]; exact getD_rep _ _ _
 have hbl : (bv C).length = N := by simp [bv, hCl]
 have hCs : ∀ b, C.set i b = cntP l i ++ [b] ++ List.replicate (N - (i + 1)) false := fun b => by
  rw [hCe, List.set_append_right _ _ (by rw [cntP_len]; exact Nat.le_refl _), cntP_len, Nat.sub_self, show N - i = (N - (i + 1)) + 1 by omega, List.replicate_succ, List.set_cons_zero]
  simp
 have hsu : cntP l (i + 1) = cntP l i ++ [decide ((nd l i).op.kind = 1) || rosB l (cntP l i) (nd l i).past (nd l i).op.author] := rfl
 obtain ⟨Z, hZ⟩ : ∃ Z : Bool → List Value, ∀ b, Z b = bv (cntP l i ++ [b] ++ List.replicate (N - (i + 1)) false) := ⟨fun b => _, fun b => rfl⟩
 have hbs : ∀ b, (bv C).set i (.bool b) = Z b := fun b => by rw [bv_set, hCs, hZ]
 rw [← hCe] at b9
 have hfin : ∀ G3 : AH, Low n H G3 → n + 2 < G3.length → hget G3 n = hget G2 n → hget G3 (n + 2) = hget G2 (n + 2) → ∀ b, b = (decide ((nd l i).op.kind = 1) || rosB l (cntP l i) (nd l i).past (nd l i).op.author) → Low n H (G3.set (n + 1) (some ⟨Z b, 4, some 1⟩)) ∧ hget (G3.set (n + 1) (some ⟨Z b, 4, some 1⟩)) n = some ⟨[.slice none 0 0, .slice none 0 0], 95, none⟩ ∧ hget (G3.set (n + 1) (some ⟨Z b, 4, some 1⟩)) (n + 1) = some ⟨bv (cntP l (i + 1) ++ List.replicate (N - (i + 1)) false), 4, some 1⟩ ∧ hget (G3.set (n + 1) (some ⟨Z b, 4, some 1⟩)) (n + 2) = some ⟨[nv, .slice (some ⟨n + 1, 0, none⟩) N N], 95, none⟩ := fun G3 h1 h2 h3 h4 b hb => ⟨⟨fun j hj => (hget_set_ne (by omega)).trans (h1.1 j hj), by rw [List.length_set]; exact h1.2⟩, by rw [hget_set_ne (by omega), h3]; exact b2, by rw [hget_set_eq (by omega), hsu, hZ, hb], by rw [hget_set_ne (by omega), h4]; exact b3⟩
 have g5 := hget_lt b5
 by_cases hk : (nd l i).op.kind = 1
 ·have hkb : ((nd l i).op.kind == 1) = true := by simp [hk]
  (refine aw_plan [] [] [0, 1, 2, 3, 4, 5, 6, 7, 8, 9, 10, 11, 12, 13, 14, 15, 16, 17, 18] 19 1 (by kernel_rfl) (by kernel_rfl) (by kernel_rfl) (fun K hK => ?_)); simp only [sel, List.getElem?_cons_succ, List.getElem?_cons_zero, List.drop_succ_cons, List.drop_zero]; simp (disch := first | omega | (simp only [lnS]; try omega)) [-getElem?_pos, -getElem?_neg, q3, b3, b5, b9, hul, c3, hk, hkb, hbl, hbs, hi, nt_intG, nt_slG, nt_ptrG, PL_nil, plainB_lit, PL_cons, PLc_val, PLc_new, stepP_t, stepP_f, stepPC_n, stepPC_s, stepPX_s, stepPX_n, stepPV_n, stepPV_s, stepPA_t, stepPA_c, stepPA_l, stepPN_s, allocOp, reloc_sl, reloc_ptr, List.map_cons, List.map_nil, List.nil_append, List.append_assoc, List.cons_append, Nat.add_assoc]
  refine hK _ _ ?_; clear hK K
  (refine aw_ops (by kernel_rfl) (fun K hK => ?_); simp (disch := first | omega | (simp only [lnS]; try omega)) [-getElem?_pos, -getElem?_neg, q13]; refine hK _ _ ?_; clear hK K)
  obtain ⟨f1, f2, f3, f4⟩ := hfin G2 lw2 (by omega) rfl rfl true (by rw [decide_eq_true hk]; rfl)
  exact ⟨c - 1, by omega, i + 1, by omega, f1, f2, f3, f4, by (first | (simp [put_at, put_none, fr0_at, q2]; done) | rfl), by (first | (simp [put_at, put_none, fr0_at, q3]; done) | rfl), by (first | (simp [put_at, put_none, fr0_at, q11]; done) | rfl), by (first | (simp [put_at, put_none, fr0_at, q12]; done) | rfl), by (first | (simp [put_at, put_none, fr0_at]; done) | rfl)⟩
 have hkb : ((nd l i).op.kind == 1) = false := by simp [hk]
 have hVw : VwA G2 nv (.slice (some ⟨n + 1, 0, none⟩) N N) l C := ⟨hN'.lowG (hn ▸ lw2), by have := bv_acc b9; rwa [hCl] at this, by omega, h3⟩
 have hQ := hC.past.lowG (hn ▸ lw2)
 have hpl := past_len h3 (i := i) (by omega)
 have hPl : Plc l (nd l i).past := fun z hz => by
  obtain ⟨k, e, hk⟩ := past_bd h3 (i := i) (by omega) hz
  exact ⟨k, e, by omega⟩
 have hvr := vroster_ac (γ := γ) (nro := nro) hVw hQ (by simp only [maxLen]; omega) hPl (by omega)
 rw [ros_congr hCd] at hvr
 have n1 := hVw.counts.nt
 have z1 := hQ.acc.nt
 have z2 := hQ.acc.cs
 obtain ⟨R, hR⟩ : ∃ R, R = rosB l (cntP l i) (nd l i).past := ⟨_, rfl⟩
 rw [← hR] at hvr hfin
 rw [decide_eq_false hk] at hfin
 obtain ⟨au, hau⟩ : ∃ au, au = (nd l i).op.author := ⟨_, rfl⟩
 rw [← hau] at hfin c0
 obtain ⟨Φ, e0, e1, e2, e3, eS⟩ : ∃ Φ : Nat → AH → Prop, (∀ A, Φ 0 A ↔ A = G2) ∧ (∀ A, Φ 1 A ↔ (Low G2.length G2 A ∧ Grp γ A (rosV G2.length) R)) ∧ (∀ A, Φ 2 A ↔ (Low G2.length G2 A ∧ Grp γ A (rosV G2.length) R)) ∧
   (∀ A, Φ 3 A ↔ ∃ B, Low G2.length G2 B ∧ A = B.set (n + 1) (some ⟨Z (R au), 4, some 1⟩)) ∧ (∀ s A, Φ s A → hget A g = hget G2 g ∧ hget A (n + 2) = hget G2 (n + 2)) := by
  refine ⟨fun s A => match s with
   | 0 => A = G2
   | 1 => Low G2.length G2 A ∧ Grp γ A (rosV G2.length) R
   | 2 => Low G2.length G2 A ∧ Grp γ A (rosV G2.length) R
   | _ => ∃ B, Low G2.length G2 B ∧ A = B.set (n + 1) (some ⟨Z (R au), 4, some 1⟩), fun _ => Iff.rfl, fun _ => Iff.rfl, fun _ => Iff.rfl, fun _ => Iff.rfl, fun s A h =>
  match s, h with
  | 0, h => by cases h; exact ⟨rfl, rfl⟩
  | 1, h => ⟨h.1.1 g g5, h.1.1 (n + 2) (by omega)⟩
  | 2, h => ⟨h.1.1 g g5, h.1.1 (n + 2) (by omega)⟩
  | s + 3, ⟨B, h, hA⟩ => by rw [hA, hget_set_ne (by omega), hget_set_ne (by omega)]; exact ⟨h.1 g g5, h.1 (n + 2) (by omega)⟩⟩
 refine aw_chain (fun j => j == g || j == n + 2) Φ (by kernel_rfl) (by kernel_rfl) (by kernel_rfl) (fun s A h j hj => by
  have e : j = g ∨ j = n + 2 := by simpa using hj
  rcases e with rfl | rfl
  ·exact (eS s A h).1
  ·exact (eS s A h).2) ((e0 _).2 rfl) (fun K hK => ?_)
 simp (disch := first | omega | (simp only [lnS]; try omega)) [-getElem?_pos, -getElem?_neg, q3, b3, b5, hul, c0, c3, cq, hk, hkb, -notTuple, z1, z2, nt_intG, nt_slG, nt_ptrG, nt_aggG, CL_nil, CL_cons, CLc_val, CLc_skip, memS, inS, inSp, isCallH, isCallU, isCallF, calleeH_f, calleeH_t, effF]
 refine CLc_call (v := rosV G2.length) (by kernel_rfl) (fun A hA => ?_) ?_
 ·obtain rfl := (e0 _).1 hA
  exact hvr.mono fun v' A' h => ⟨h.1, (e1 _).2 (h.1 ▸ h.2)⟩
 have hrv : rosV G2.length = .agg #[.func (.func 105) #[] #[.pointer (some ⟨G2.length + 1, 0, none⟩), .pointer (some ⟨G2.length, 0, none⟩)]] := rfl
 try simp (disch := first | omega | (simp only [lnS]; try omega)) [-getElem?_pos, -getElem?_neg, q3, b3, b5, hul, c0, c3, cq, hk, hkb, hrv, -notTuple, z1, z2, nt_fn, cs_fn, nt_intG, nt_slG, nt_ptrG, nt_aggG, CL_nil, CL_cons, CLc_val, CLc_skip, memS, inS, inSp, isCallH, isCallU, isCallF, calleeH_f, calleeH_t, effF]
 refine CLc_call (v := .bool (R au)) (by kernel_rfl) (fun A hA => ?_) ?_
 ·have hA2 := (e1 _).1 hA
  obtain ⟨f, cs, e, hf⟩ := hA2.2
  rw [hrv] at e
  cases e
  exact ac_of_rc (hf.2 A au (Low.refl (Nat.le_refl _))) (by simp [pv_iv, pv_int, pv_bool, pv_string, pv_tup2, pv_tup3, iv_plain, p2_int, p2_bool, p2_string]) ⟨rfl, (e2 _).2 hA2⟩
 try simp (disch := first | omega | (simp only [lnS]; try omega)) [-getElem?_pos, -getElem?_neg, q3, b3, b5, hul, c0, c3, cq, hk, hkb, -notTuple, z1, z2, nt_fn, cs_fn, nt_intG, nt_slG, nt_ptrG, nt_aggG, CL_nil, CL_cons, CLc_val, CLc_skip, memS, inS, inSp, isCallH, isCallU, isCallF, calleeH_f, calleeH_t, effF]
 refine CLc_eff (v := undef) (fun A hA => ?_) ?_
 ·have hA2 := (e2 _).1 hA
  have c9 : hget A (n + 1) = some ⟨bv C, 4, some 1⟩ := (hA2.1.1 _ (by omega)).trans b9
  refine ⟨_, ?_, (e3 _).2 ⟨A, hA2.1, rfl⟩⟩
  simp (disch := first | omega | (simp only [lnS]; try omega)) [-getElem?_pos, -getElem?_neg, c9, hbl, hbs, hi]
 try simp (disch := first | omega | (simp only [lnS]; try omega)) [-getElem?_pos, -getElem?_neg, CL_nil, CL_cons, CLc_val, CLc_skip, memS, inS, inSp, isCallH, isCallU, isCallF, calleeH_f, calleeH_t, effF]
 intro A hA
 obtain ⟨B, hB, rfl⟩ := (e3 _).1 hA
 refine hK _ _ ?_; clear hK K
 have hBl := hB.2
 (refine aw_ops (by kernel_rfl) (fun K hK => ?_); simp (disch := first | omega | (simp only [lnS]; try omega)) [-getElem?_pos, -getElem?_neg, q13]; refine hK _ _ ?_; clear hK K)
 obtain ⟨f1, f2, f3, f4⟩ := hfin B ⟨fun j hj => (hB.1 j (by omega)).trans (lw2.1 j hj), by omega⟩ (by omega) (hB.1 n (by omega)) (hB.1 (n + 2) (by omega)) (R au) rfl
 exact ⟨c - 1, by omega, i + 1, by omega, f1, f2, f3, f4, by (first | (simp [put_at, put_none, fr0_at, q2]; done) | rfl), by (first | (simp [put_at, put_none, fr0_at, q3]; done) | rfl), by (first | (simp [put_at, put_none, fr0_at, q11]; done) | rfl), by (first | (simp [put_at, put_none, fr0_at, q12]; done) | rfl), by (first | (simp [put_at, put_none, fr0_at]; done) | rfl)⟩
theorem vw_at {H : AH} {nv : Value} {l : List NodeD} {b : Nat} (hN : NdA H nv l) (h3 : rightG l = true) (hb : hget H b = some ⟨bv (cntsB l), 4, some 1⟩) : VwA H nv (.slice (some ⟨b, 0, none⟩) l.length l.length) l (cntsB l) := by
 have e2 : (cntsB l).length = l.length := by unfold cntsB; rw [cntP_len]
 have := bv_acc hb
 rw [e2] at this
 exact ⟨hN, this, e2, h3⟩
theorem look_ac {γ : Nat → Option Nat} {nro : Nat} {H : AH} {nv : Value} {l : List NodeD} (hN : NdA H nv l) (h3 : rightG l = true) (hnro : nro ≤ H.length) : AC Try.prog nro γ 62 #[nv] H (fun v' H' => Low H.length H H' ∧ ∃ cv, v' = .agg #[nv, cv] ∧ VwA H' nv cv l (cntsB l)) :=
 (look2_ac hN h3 hnro).mono fun v' H' h => ⟨h.1, _, h.2.1, vw_at (hN.lowG h.1) h3 h.2.2⟩
end
section
def InR (l : List NodeD) (S : List Int) : Prop := ∀ z ∈ S, 0 ≤ z ∧ z < l.length
def ClS (l : List NodeD) (S : List Int) : Prop := ∀ a ∈ S, ∀ z ∈ (nd l a.toNat).past, z ∈ S
instance (l : List NodeD) (S : List Int) : Decidable (InR l S) := by unfold InR; infer_instance
instance (S : List Int) : Decidable (Inc S) := by unfold Inc; infer_instance
instance (l : List NodeD) (S : List Int) : Decidable (ClS l S) := by unfold ClS; infer_instance
def setB (l : List NodeD) (S : List Int) : Bool := decide (InR l S ∧ Inc S ∧ ClS l S)
theorem setB_iff {l : List NodeD} {S : List Int} : setB l S = true ↔ InR l S ∧ Inc S ∧ ClS l S := by unfold setB; rw [decide_eq_true_eq]
theorem setB_not {l : List NodeD} {S : List Int} (h : ¬ (InR l S ∧ Inc S ∧ ClS l S)) : setB l S = false := by unfold setB; rw [decide_eq_false_iff_not]; exact h
theorem InR.plc {l : List NodeD} {S : List Int} (h : InR l S) : Plc l S := fun z hz => by
  obtain ⟨h1, h2⟩ := h z hz
  exact ⟨z.toNat, by omega, by omega⟩
theorem Inc.take {S : List Int} (h : Inc S) (i : Nat) : Inc (S.take i) := List.Pairwise.sublist (List.take_sublist i S) h
theorem inc_len {l : List NodeD} {S : List Int} (h1 : InR l S) (h2 : Inc S) : S.length ≤ l.length := by
  have hnd : (S.map Int.toNat).Nodup := by
    rw [List.Nodup, List.pairwise_map]
    refine List.Pairwise.imp_of_mem ?_ h2
    intro a b ha hb hab
    have := h1 a ha
    have := h1 b hb
    omega
  have := List.Nodup.length_le_of_subset (l₂ := List.range l.length) hnd (fun x hx => by
    obtain ⟨z, hz, rfl⟩ := List.mem_map.1 hx
    have := h1 z hz
    exact List.mem_range.2 (by omega))
  simpa using this
theorem inc_snoc {S : List Int} {x : Int} (h : Inc S) (hx : ∀ y ∈ S, y < x) : Inc (S ++ [x]) := by
  unfold Inc
  rw [List.pairwise_append]
  exact ⟨h, List.pairwise_singleton _ _, fun a ha b hb => by rw [List.mem_singleton] at hb; subst hb; exact hx a ha⟩
theorem inc_mem_take {S : List Int} (h : Inc S) {i : Nat} {z : Int} (hi : i < S.length) (hz : z ∈ S) (hlt : z < S.getD i 0) : z ∈ S.take i := by
  obtain ⟨k, hk, e⟩ := List.mem_iff_getElem.1 hz
  have e2 : S.getD k 0 = z := by rw [List.getD_eq_getElem?_getD, List.getElem?_eq_getElem hk]; exact e
  rcases Nat.lt_or_ge k i with h1 | h1
  · rw [List.mem_iff_getElem?]
    exact ⟨k, by rw [List.getElem?_take_of_lt h1, List.getElem?_eq_getElem hk, e]⟩
  · have := h.le h1 hk
    omega
theorem val_take {H : AH} {rows : List (List CD)} {v : Value} (h : CD.Val H (.sl rows) v) (h0 : 0 < rows.length) {i : Nat} (hi : i ≤ rows.length) : ∃ v', CD.Val H (.sl (rows.take i)) v' ∧ ∀ (P : Program) (t e : TypeId) (G : AH), und P t = .slice e → 0 < szt P e → xslice P t v none (some (.int .i64 (i : Nat))) G = some v' := by
  cases h with
  | nil => simp at h0
  | @sl sz j k _ h1 h2 h3 h4 =>
    have hlt : (rows.take i).length = i := by rw [List.length_take]; omega
    refine ⟨.slice (some ⟨j, 0, none⟩) i i, ?_, fun P t e G ht h0 => ?_⟩
    · have := CD.Val.sl (H := H) (sz := sz) (j := j) (rows := rows.take i) h1 (by rw [hlt]; exact Nat.le_trans (Nat.mul_le_mul_right _ hi) h2) (fun row hr => h3 row (List.mem_of_mem_take hr)) (fun k' row c d x hr hc hx => h4 k' row c d x (by
        have hki : k' < i := by have := (List.getElem?_eq_some_iff.1 hr).1; omega
        rwa [List.getElem?_take_of_lt hki] at hr) hc hx)
      rwa [hlt] at this
    · unfold xslice
      simp only [ht, bnd, asInt?]
      rw [if_pos ⟨by omega, by omega, by omega, h0⟩]
      simp
attribute [local simp] wb_bool wb_undef with_lit XL_nil XL_cons XLc_val XLc_call step1_eq stepW_t stepW_f stepC_n stepC_s stepX_s stepX_n stepN_s calleeX oneV xop_eq xopR_s xopR_n wantedA_eq wantedG_n wantedG_s plain1_int plain1_bool plain1_string bits_i64 bits_u64 bits_u32 bits_u16 bits_u8 xeqA xagg xcmp xarr allK_iv num_iv calleeOf xread xeff xbin xint xnil xun xstr xload xconv xpart xfield xfieldAddr xindexAddr xindex bnd asInt? xslice xlen xmin xmax xbuild xfill xappend xapp2 xappstr xappmk xcap xcopy xcells eval_tmp eval_const put_at put_none fr0_at cells_agg cells_int cells_bool cells_string cells_ptr cells_slice notTuple tab iv_all hget_app hget_app0 hget_cons0 hget_cons set_app set_app0 setR setR_one QL_nil QL_cons QLc_val stepQ_t stepQ_f stepQC_n stepQC_s stepQX_s SL_nil SL_cons SLc_val stepS_t stepS_f ltT ltF leT leF eqT eqF ltTn ltFn leTn leFn eqTn eqFn beqT beqF bneT bneF wi64 wu64 wu32 wu16 wu8 tmodP tdivP hgetL hgetNe hgetEq setL nums_def nums_len Nat.succ_le_of_lt List.getElem?_cons_zero List.getElem?_cons_succ Option.getD_some Int.toNat_add Int.toNat_mul agM okM agB agI agS agP agL agA okB okI okS okP okSl okA
theorem InV.take {H : AH} {v : Value} {S : List Int} (h : InV H v S) (h0 : 0 < S.length) {i : Nat} (hi : i ≤ S.length) : ∃ v', InV H v' (S.take i) ∧ ∀ G : AH, xslice Try.prog 23 v none (some (.int .i64 (i : Nat))) G = some v' := by
  obtain ⟨v', h1, h2⟩ := val_take h (by simpa using h0) (i := i) (by simpa using hi)
  exact ⟨v', by unfold InV; rw [List.map_take]; exact h1, fun G => h2 _ _ 3 G (by kernel_rfl) (by simp)⟩
theorem isSet_rc {γ : Nat → Option Nat} {H : AH} {nv sv : Value} {l : List NodeD} {S : List Int} (hN : NdA H nv l) (hS : InV H sv S) (hSl : S.length ≤ maxLen) (h3 : rightG l = true) : AC Try.prog H.length γ 61 #[nv, sv] H (fun v' _ => v' = .bool (setB l S)) := by
  have hnt := hN.nt
  have hvc := hN.cs
  have hxl := hN.len
  have hacc := hS.acc
  have s1 := hacc.nt
  have s2 := hacc.cs
  have sxl := hacc.len
  have hl96 := rightG_len h3
  refine ac_of_aw Try.func61 rfl Try.ntmps61 Try.results61 (by simp) ?_
  refine aw_seq ?_
  (refine aw_ops (by kernel_rfl) (fun K hK => ?_); simp (disch := first | omega | (simp only [lnS]; try omega)) [-getElem?_pos, -getElem?_neg]; refine hK _ _ ?_; clear hK K)
  refine aw_seq ?_
  refine aw_seq ?_
  by_cases hgt : l.length < S.length
  · (refine aw_ops (by kernel_rfl) (fun K hK => ?_); simp (disch := first | omega | (simp only [lnS]; try omega)) [-getElem?_pos, -getElem?_neg, -notTuple, hnt, hvc, s1, s2, nt_intG, -xlen, hxl, sxl, hgt]; refine hK _ _ ?_; clear hK K)
    refine aw_t (by (first | (simp [eval_tmp, put_at, hgt]; done) | (simp [eval_tmp, put_at, hgt]; omega))) (by kernel_rfl) ?_
    refine aw_seq ?_
    (refine aw_ops (by kernel_rfl) (fun K hK => ?_); simp (disch := first | omega | (simp only [lnS]; try omega)) [-getElem?_pos, -getElem?_neg]; refine hK _ _ ?_; clear hK K)
    (refine aw_ret ?_; simp (disch := first | omega | (simp only [lnS]; try omega)) [-getElem?_pos, -getElem?_neg, thenQ_ret, scopeQ_ret, inBlockQ_ret, RQ, resL, resV])
    refine setB_not fun h => ?_
    have := inc_len h.1 h.2.1
    omega
  (refine aw_ops (by kernel_rfl) (fun K hK => ?_); simp (disch := first | omega | (simp only [lnS]; try omega)) [-getElem?_pos, -getElem?_neg, -notTuple, hnt, hvc, s1, s2, nt_intG, -xlen, hxl, sxl, hgt]; refine hK _ _ ?_; clear hK K)
  refine aw_f (by (first | (simp [eval_tmp, put_at, hgt]; done) | (simp [eval_tmp, put_at, hgt]; omega))) (by kernel_rfl) ?_
  refine aw_skip ?_
  refine aw_seq ?_
  refine aw_seq ?_
  (refine aw_ops (by kernel_rfl) (fun K hK => ?_); simp (disch := first | omega | (simp only [lnS]; try omega)) [-getElem?_pos, -getElem?_neg, -notTuple, s1, s2, nt_intG, -xlen, sxl]; refine hK _ _ ?_; clear hK K)
  refine aw_block ?_
  refine aw_loop (fun c α G => ∃ i : Nat, i + c = S.length ∧ H = G ∧ α 0 = nv ∧ α 1 = sv ∧ α 16 = sv ∧ α 17 = .int .i64 (S.length : Nat) ∧ α 18 = .int .i64 (i : Nat) ∧ InR l (S.take i) ∧ Inc (S.take i) ∧ ClS l (S.take i)) S.length ?_ ?_
  · exact ⟨0, by omega, rfl, by (first | (simp [put_at, put_none, fr0_at]; done) | rfl), by (first | (simp [put_at, put_none, fr0_at]; done) | rfl), by (first | (simp [put_at, put_none, fr0_at]; done) | rfl), by (first | (simp [put_at, put_none, fr0_at]; done) | rfl), by (first | (simp [put_at, put_none, fr0_at]; done) | rfl), fun z hz => by simp at hz, by simp [Inc], fun z hz => by simp at hz⟩
  rintro c α _ ⟨i, hic, rfl, q0, q1, q16, q17, q18, p1, p2, p3⟩
  refine aw_seq ?_
  by_cases hi : i < S.length
  case neg =>
    obtain rfl : i = S.length := by omega
    rw [List.take_length] at p1 p2 p3
    (refine aw_ops (by kernel_rfl) (fun K hK => ?_); simp (disch := first | omega | (simp only [lnS]; try omega)) [-getElem?_pos, -getElem?_neg, q17, q18, hi]; refine hK _ _ ?_; clear hK K)
    refine aw_seq ?_
    refine aw_f (by (first | (simp [eval_tmp, put_at, hi]; done) | (simp [eval_tmp, put_at, hi]; omega))) (by kernel_rfl) ?_
    refine aw_exit ?_
    refine aw_seq ?_
    (refine aw_ops (by kernel_rfl) (fun K hK => ?_); simp (disch := first | omega | (simp only [lnS]; try omega)) [-getElem?_pos, -getElem?_neg]; refine hK _ _ ?_; clear hK K)
    (refine aw_ret ?_; simp (disch := first | omega | (simp only [lnS]; try omega)) [-getElem?_pos, -getElem?_neg, thenQ_ret, scopeQ_ret, inBlockQ_ret, RQ, resL, resV])
    exact setB_iff.2 ⟨p1, p2, p3⟩
  obtain ⟨ad, x, r1, r2, r3, r4, r5⟩ := hacc.at_ i hi
  have r5 := r5 H (Low.refl (Nat.le_refl _))
  subst r4
  have htk : S.take (i + 1) = S.take i ++ [S.getD i 0] := by
    rw [List.take_add_one, List.getD_eq_getElem?_getD, List.getElem?_eq_getElem hi]; rfl
  have hmem : S.getD i 0 ∈ S := by rw [List.getD_eq_getElem?_getD, List.getElem?_eq_getElem hi]; exact List.getElem_mem hi
  have hpr : ∀ y ∈ S.take i, i ≠ 0 → y ≤ S.getD (i - 1) 0 := fun y hy hne => by
    obtain ⟨k, hk, e⟩ := List.mem_iff_getElem.1 hy
    have hk' : k < i := by rw [List.length_take] at hk; omega
    have h4 := p2.le (i := k) (j := i - 1) (by omega) (by rw [List.length_take]; omega)
    rw [List.getD_eq_getElem?_getD, List.getD_eq_getElem?_getD, List.getElem?_take_of_lt hk', List.getElem?_take_of_lt (by omega), ← List.getD_eq_getElem?_getD, ← List.getD_eq_getElem?_getD] at h4
    have e2 : S.getD k 0 = y := by rw [← e, List.getElem_take, List.getD_eq_getElem?_getD, List.getElem?_eq_getElem (by omega)]; rfl
    omega
  have hinc : Inc S → ∀ j, j + 1 < S.length → S.getD j 0 < S.getD (j + 1) 0 := fun h j hj => h.at_ (by omega) hj
  have hmt : Inc S → ∀ z, z ∈ S → z < S.getD i 0 → z ∈ S.take i := fun h z hz hlt => inc_mem_take h hi hz hlt
  obtain ⟨z, hz⟩ : ∃ z, z = S.getD i 0 := ⟨_, rfl⟩
  rw [← hz] at r5 r3 htk hmem hmt
  (refine aw_ops (by kernel_rfl) (fun K hK => ?_); simp (disch := first | omega | (simp only [lnS]; try omega)) [-getElem?_pos, -getElem?_neg, q17, q18, hi]; refine hK _ _ ?_; clear hK K)
  refine aw_seq ?_
  refine aw_t (by (first | (simp [eval_tmp, put_at, hi]; done) | (simp [eval_tmp, put_at, hi]; omega))) (by kernel_rfl) ?_
  refine aw_skip ?_
  refine aw_seq ?_
  refine aw_block ?_
  refine aw_seq ?_
  (refine aw_ops (by kernel_rfl) (fun K hK => ?_); simp (disch := first | omega | (simp only [lnS]; try omega)) [-getElem?_pos, -getElem?_neg, q16, q18, -notTuple, s1, s2, r3, r1, nt_intG, -xindexAddr, r2, -xload, r5]; refine hK _ _ ?_; clear hK K)
  refine aw_seq ?_
  refine aw_seq ?_
  refine aw_cut (fun α G => α 43 = .bool (!(decide (0 ≤ z) && (decide (z < l.length) && (decide (i = 0) || decide (S.getD (i - 1) 0 < z))))) ∧ α 0 = nv ∧ α 1 = sv ∧ α 5 = .int .i64 (i : Nat) ∧ α 6 = .int .i64 z ∧ α 16 = sv ∧ α 17 = .int .i64 (S.length : Nat) ∧ α 18 = .int .i64 (i : Nat) ∧ H = G) ?_ ?_
  · by_cases z0 : z < 0
    · (refine aw_ops (by kernel_rfl) (fun K hK => ?_); simp (disch := first | omega | (simp only [lnS]; try omega)) [-getElem?_pos, -getElem?_neg, z0]; refine hK _ _ ?_; clear hK K)
      exact ⟨by have : ¬ 0 ≤ z := by omega
                (first | (simp [put_at, put_none, fr0_at, this]; done) | rfl), by (first | (simp [put_at, put_none, fr0_at, q0]; done) | rfl), by (first | (simp [put_at, put_none, fr0_at, q1]; done) | rfl), by (first | (simp [put_at, put_none, fr0_at]; done) | rfl), by (first | (simp [put_at, put_none, fr0_at]; done) | rfl), by (first | (simp [put_at, put_none, fr0_at, q16]; done) | rfl), by (first | (simp [put_at, put_none, fr0_at, q17]; done) | rfl), by (first | (simp [put_at, put_none, fr0_at, q18]; done) | rfl), rfl⟩
    have z0' : 0 ≤ z := by omega
    by_cases z1 : (l.length : Int) ≤ z
    · (refine aw_ops (by kernel_rfl) (fun K hK => ?_); simp (disch := first | omega | (simp only [lnS]; try omega)) [-getElem?_pos, -getElem?_neg, q0, -notTuple, hnt, hvc, nt_intG, -xlen, hxl, z0, z1]; refine hK _ _ ?_; clear hK K)
      exact ⟨by have : ¬ z < l.length := by omega
                (first | (simp [put_at, put_none, fr0_at, this]; done) | rfl), by (first | (simp [put_at, put_none, fr0_at, q0]; done) | rfl), by (first | (simp [put_at, put_none, fr0_at, q1]; done) | rfl), by (first | (simp [put_at, put_none, fr0_at]; done) | rfl), by (first | (simp [put_at, put_none, fr0_at]; done) | rfl), by (first | (simp [put_at, put_none, fr0_at, q16]; done) | rfl), by (first | (simp [put_at, put_none, fr0_at, q17]; done) | rfl), by (first | (simp [put_at, put_none, fr0_at, q18]; done) | rfl), rfl⟩
    have z1' : z < l.length := by omega
    rcases Nat.eq_zero_or_pos i with i0 | i0
    · (refine aw_ops (by kernel_rfl) (fun K hK => ?_); simp (disch := first | omega | (simp only [lnS]; try omega)) [-getElem?_pos, -getElem?_neg, q0, -notTuple, hnt, hvc, nt_intG, -xlen, hxl, z0, z1, i0]; refine hK _ _ ?_; clear hK K)
      exact ⟨by (first | (simp [put_at, put_none, fr0_at, z0', z1', i0]; done) | rfl), by (first | (simp [put_at, put_none, fr0_at, q0]; done) | rfl), by (first | (simp [put_at, put_none, fr0_at, q1]; done) | rfl), by (first | (simp [put_at, put_none, fr0_at, i0]; done) | rfl), by (first | (simp [put_at, put_none, fr0_at]; done) | rfl), by (first | (simp [put_at, put_none, fr0_at, q16]; done) | rfl), by (first | (simp [put_at, put_none, fr0_at, q17]; done) | rfl), by (first | (simp [put_at, put_none, fr0_at, q18, i0]; done) | rfl), rfl⟩
    obtain ⟨k0, hk0⟩ : ∃ k0, i = k0 + 1 := ⟨i - 1, by omega⟩
    have hc : ((i : Int) - 1) = (k0 : Int) := by omega
    have hk1 : i - 1 = k0 := by omega
    have hi0 : ¬ i = 0 := by omega
    obtain ⟨ad', x', u1, u2, u3, u4, u5⟩ := hacc.at_ k0 (by omega)
    have u5 := u5 H (Low.refl (Nat.le_refl _))
    subst u4
    rw [hk1]
    obtain ⟨y, hy⟩ : ∃ y, y = S.getD k0 0 := ⟨_, rfl⟩
    rw [← hy] at u5 ⊢
    by_cases hzy : z ≤ y
    · have hzy' : ¬ y < z := by omega
      (refine aw_ops (by kernel_rfl) (fun K hK => ?_); simp (disch := first | omega | (simp only [lnS]; try omega)) [-getElem?_pos, -getElem?_neg, q0, q1, -notTuple, hnt, hvc, s1, s2, nt_intG, -xlen, hxl, z0, z1, i0, hc, -xindexAddr, u2, -xload, u5, u1, hzy]; refine hK _ _ ?_; clear hK K)
      exact ⟨by (first | (simp [put_at, put_none, fr0_at, z0', z1', hi0, hzy']; done) | rfl), by (first | (simp [put_at, put_none, fr0_at, q0]; done) | rfl), by (first | (simp [put_at, put_none, fr0_at, q1]; done) | rfl), by (first | (simp [put_at, put_none, fr0_at]; done) | rfl), by (first | (simp [put_at, put_none, fr0_at]; done) | rfl), by (first | (simp [put_at, put_none, fr0_at, q16]; done) | rfl), by (first | (simp [put_at, put_none, fr0_at, q17]; done) | rfl), by (first | (simp [put_at, put_none, fr0_at, q18]; done) | rfl), rfl⟩
    · have hzy' : y < z := by omega
      (refine aw_ops (by kernel_rfl) (fun K hK => ?_); simp (disch := first | omega | (simp only [lnS]; try omega)) [-getElem?_pos, -getElem?_neg, q0, q1, -notTuple, hnt, hvc, s1, s2, nt_intG, -xlen, hxl, z0, z1, i0, hc, -xindexAddr, u2, -xload, u5, u1, hzy]; refine hK _ _ ?_; clear hK K)
      exact ⟨by (first | (simp [put_at, put_none, fr0_at, z0', z1', hi0, hzy']; done) | rfl), by (first | (simp [put_at, put_none, fr0_at, q0]; done) | rfl), by (first | (simp [put_at, put_none, fr0_at, q1]; done) | rfl), by (first | (simp [put_at, put_none, fr0_at]; done) | rfl), by (first | (simp [put_at, put_none, fr0_at]; done) | rfl), by (first | (simp [put_at, put_none, fr0_at, q16]; done) | rfl), by (first | (simp [put_at, put_none, fr0_at, q17]; done) | rfl), by (first | (simp [put_at, put_none, fr0_at, q18]; done) | rfl), rfl⟩
  clear q0 q1 q16 q17 q18
  rintro α _ ⟨q43, q0, q1, q5, q6, q16, q17, q18, rfl⟩
  cases hb : (decide (0 ≤ z) && (decide (z < l.length) && (decide (i = 0) || decide (S.getD (i - 1) 0 < z)))) with
  | false =>
    rw [hb] at q43
    refine aw_t (by (first | (simp [eval_tmp, put_at, q43]; done) | (simp [eval_tmp, put_at, q43]; omega))) (by kernel_rfl) ?_
    refine aw_seq ?_
    (refine aw_ops (by kernel_rfl) (fun K hK => ?_); simp (disch := first | omega | (simp only [lnS]; try omega)) [-getElem?_pos, -getElem?_neg]; refine hK _ _ ?_; clear hK K)
    (refine aw_ret ?_; simp (disch := first | omega | (simp only [lnS]; try omega)) [-getElem?_pos, -getElem?_neg, thenQ_ret, scopeQ_ret, inBlockQ_ret, RQ, resL, resV])
    refine setB_not fun h => ?_
    have g1 := h.1 z hmem
    have g2 : i = 0 ∨ S.getD (i - 1) 0 < z := by
      rcases Nat.eq_zero_or_pos i with i0 | i0
      · exact .inl i0
      · have := hinc h.2.1 (i - 1) (by omega)
        rw [show i - 1 + 1 = i by omega, ← hz] at this
        exact .inr this
    have : (decide (0 ≤ z) && (decide (z < l.length) && (decide (i = 0) || decide (S.getD (i - 1) 0 < z)))) = true := by
      simp only [Bool.and_eq_true, Bool.or_eq_true, decide_eq_true_eq]
      exact ⟨g1.1, g1.2, g2⟩
    rw [hb] at this
    cases this
  | true =>
  rw [hb] at q43
  refine aw_f (by (first | (simp [eval_tmp, put_at, q43]; done) | (simp [eval_tmp, put_at, q43]; omega))) (by kernel_rfl) ?_
  refine aw_skip ?_
  simp only [Bool.and_eq_true, Bool.or_eq_true, decide_eq_true_eq] at hb
  obtain ⟨z0, z1, z2⟩ := hb
  obtain ⟨a, rfl⟩ : ∃ a : Nat, z = a := ⟨z.toNat, by omega⟩
  have ha : a < l.length := by omega
  obtain ⟨j', q', bb', pq, px, pb, pc, pI, pml, k1, k2⟩ := hN.past_at (Low.refl (Nat.le_refl _)) ha
  have hpl := past_len h3 ha
  have pacc := pI.acc
  have pxl := pacc.len
  obtain ⟨tv, tI, hts⟩ := hS.take (by omega) (i := i) (by omega)
  have t1 := tI.acc.nt
  have t2 := tI.acc.cs
  have htl : (S.take i).length ≤ 1000000 := by have := inc_len p1 p2; omega
  refine aw_seq ?_
  (refine aw_ops (by kernel_rfl) (fun K hK => ?_); simp (disch := first | omega | (simp only [lnS]; try omega)) [-getElem?_pos, -getElem?_neg, q0, q6, -notTuple, hnt, hvc, nt_intG, -xindexAddr, px, pb, pc, k1, k2, -xlen, pxl]; refine hK _ _ ?_; clear hK K)
  refine aw_block ?_
  refine aw_loop (fun c α G => ∃ t : Nat, t + c = (nd l a).past.length ∧ H = G ∧ α 0 = nv ∧ α 1 = sv ∧ α 5 = .int .i64 (i : Nat) ∧ α 16 = sv ∧ α 17 = .int .i64 (S.length : Nat) ∧ α 18 = .int .i64 (i : Nat) ∧ α 48 = pq ∧ α 49 = .int .i64 ((nd l a).past.length : Nat) ∧ α 50 = .int .i64 (t : Nat) ∧ ∀ k, k < t → (nd l a).past.getD k 0 ∈ S.take i) (nd l a).past.length ?_ ?_
  · exact ⟨0, by omega, rfl, by (first | (simp [put_at, put_none, fr0_at, q0]; done) | rfl), by (first | (simp [put_at, put_none, fr0_at, q1]; done) | rfl), by (first | (simp [put_at, put_none, fr0_at, q5]; done) | rfl), by (first | (simp [put_at, put_none, fr0_at, q16]; done) | rfl), by (first | (simp [put_at, put_none, fr0_at, q17]; done) | rfl), by (first | (simp [put_at, put_none, fr0_at, q18]; done) | rfl), by (first | (simp [put_at, put_none, fr0_at]; done) | rfl), by (first | (simp [put_at, put_none, fr0_at]; done) | rfl), by (first | (simp [put_at, put_none, fr0_at]; done) | rfl), fun k hk => by omega⟩
  clear q0 q1 q5 q6 q16 q17 q18 q43
  rintro c2 α _ ⟨t, htc, rfl, q0, q1, q5, q16, q17, q18, q48, q49, q50, hpre⟩
  refine aw_seq ?_
  by_cases ht : t < (nd l a).past.length
  case neg =>
    (refine aw_ops (by kernel_rfl) (fun K hK => ?_); simp (disch := first | omega | (simp only [lnS]; try omega)) [-getElem?_pos, -getElem?_neg, q49, q50, ht]; refine hK _ _ ?_; clear hK K)
    refine aw_seq ?_
    refine aw_f (by (first | (simp [eval_tmp, put_at, ht]; done) | (simp [eval_tmp, put_at, ht]; omega))) (by kernel_rfl) ?_
    refine aw_exit ?_
    (refine aw_ops (by kernel_rfl) (fun K hK => ?_); simp (disch := first | omega | (simp only [lnS]; try omega)) [-getElem?_pos, -getElem?_neg, q18]; refine hK _ _ ?_; clear hK K)
    refine ⟨c - 1, by omega, i + 1, by omega, rfl, by (first | (simp [put_at, put_none, fr0_at, q0]; done) | rfl), by (first | (simp [put_at, put_none, fr0_at, q1]; done) | rfl), by (first | (simp [put_at, put_none, fr0_at, q16]; done) | rfl), by (first | (simp [put_at, put_none, fr0_at, q17]; done) | rfl), by (first | (simp [put_at, put_none, fr0_at]; done) | rfl), ?_, ?_, ?_⟩
    · rw [htk]
      intro y hy
      rcases List.mem_append.1 hy with hy | hy
      · exact p1 y hy
      · rw [List.mem_singleton] at hy; subst hy; omega
    · rw [htk]
      refine inc_snoc p2 fun y hy => ?_
      rcases z2 with z2 | z2
      · subst z2; simp at hy
      · have := hpr y hy (by rintro rfl; simp at hy)
        omega
    · rw [htk]
      intro y hy w hw
      rcases List.mem_append.1 hy with hy | hy
      · exact List.mem_append_left _ (p3 y hy w hw)
      · rw [List.mem_singleton] at hy; subst hy
        rw [Int.toNat_natCast] at hw
        obtain ⟨k, hk, e⟩ := List.mem_iff_getElem.1 hw
        have := hpre k (by omega)
        rw [List.getD_eq_getElem?_getD, List.getElem?_eq_getElem hk] at this
        exact List.mem_append_left _ (by rw [← e]; exact this)
  obtain ⟨ad2, x2, w1, w2, w3, w4, w5⟩ := pacc.at_ t ht
  have w5 := w5 H (Low.refl (Nat.le_refl _))
  subst w4
  have hymem : (nd l a).past.getD t 0 ∈ (nd l a).past := by rw [List.getD_eq_getElem?_getD, List.getElem?_eq_getElem ht]; exact List.getElem_mem ht
  obtain ⟨y, hy⟩ : ∃ y, y = (nd l a).past.getD t 0 := ⟨_, rfl⟩
  rw [← hy] at w5 w3 hymem
  have bs := bsearch_rc (γ := γ) tI htl p2 y
  (refine aw_ops (by kernel_rfl) (fun K hK => ?_); simp (disch := first | omega | (simp only [lnS]; try omega)) [-getElem?_pos, -getElem?_neg, q49, q50, ht]; refine hK _ _ ?_; clear hK K)
  refine aw_seq ?_
  refine aw_t (by (first | (simp [eval_tmp, put_at, ht]; done) | (simp [eval_tmp, put_at, ht]; omega))) (by kernel_rfl) ?_
  refine aw_skip ?_
  refine aw_seq ?_
  refine aw_block ?_
  refine aw_seq ?_
  (refine aw_ops (by kernel_rfl) (fun K hK => ?_); simp (disch := first | omega | (simp only [lnS]; try omega)) [-getElem?_pos, -getElem?_neg, q48, q50, -notTuple, k1, k2, w1, w3, nt_intG, -xindexAddr, w2, -xload, w5]; refine hK _ _ ?_; clear hK K)
  refine aw_seq ?_
  refine aw_ops (by kernel_rfl) (fun K hK => ?_)
  simp (disch := first | omega | (simp only [lnS]; try omega)) [-getElem?_pos, -getElem?_neg, q1, q5, -notTuple, s1, s2, t1, t2, nt_intG, -xslice, hts]
  refine ⟨by kernel_rfl, ac_of_rc bs (by simp [pv_iv, pv_int, pv_bool, pv_string, pv_tup2, pv_tup3, iv_plain, p2_int, p2_bool, p2_string]) ?_⟩
  try simp (disch := first | omega | (simp only [lnS]; try omega)) [-getElem?_pos, -getElem?_neg]
  refine hK _ _ ?_; clear hK K
  refine aw_seq ?_
  by_cases hin : y ∈ S.take i
  · (refine aw_ops (by kernel_rfl) (fun K hK => ?_); simp (disch := first | omega | (simp only [lnS]; try omega)) [-getElem?_pos, -getElem?_neg, hin]; refine hK _ _ ?_; clear hK K)
    refine aw_f (by (first | (simp [eval_tmp, put_at]; done) | (simp [eval_tmp, put_at]; omega))) (by kernel_rfl) ?_
    refine aw_skip ?_
    (refine aw_ops (by kernel_rfl) (fun K hK => ?_); simp (disch := first | omega | (simp only [lnS]; try omega)) [-getElem?_pos, -getElem?_neg, q50]; refine hK _ _ ?_; clear hK K)
    refine ⟨c2 - 1, by omega, t + 1, by omega, rfl, by (first | (simp [put_at, put_none, fr0_at, q0]; done) | rfl), by (first | (simp [put_at, put_none, fr0_at, q1]; done) | rfl), by (first | (simp [put_at, put_none, fr0_at, q5]; done) | rfl), by (first | (simp [put_at, put_none, fr0_at, q16]; done) | rfl), by (first | (simp [put_at, put_none, fr0_at, q17]; done) | rfl), by (first | (simp [put_at, put_none, fr0_at, q18]; done) | rfl), by (first | (simp [put_at, put_none, fr0_at, q48]; done) | rfl), by (first | (simp [put_at, put_none, fr0_at, q49]; done) | rfl), by (first | (simp [put_at, put_none, fr0_at]; done) | rfl), fun k hk => ?_⟩
    rcases Nat.lt_or_ge k t with h1 | h1
    · exact hpre k h1
    · have : k = t := by omega
      subst this
      rw [← hy]; exact hin
  · (refine aw_ops (by kernel_rfl) (fun K hK => ?_); simp (disch := first | omega | (simp only [lnS]; try omega)) [-getElem?_pos, -getElem?_neg, hin]; refine hK _ _ ?_; clear hK K)
    refine aw_t (by (first | (simp [eval_tmp, put_at]; done) | (simp [eval_tmp, put_at]; omega))) (by kernel_rfl) ?_
    refine aw_seq ?_
    (refine aw_ops (by kernel_rfl) (fun K hK => ?_); simp (disch := first | omega | (simp only [lnS]; try omega)) [-getElem?_pos, -getElem?_neg]; refine hK _ _ ?_; clear hK K)
    (refine aw_ret ?_; simp (disch := first | omega | (simp only [lnS]; try omega)) [-getElem?_pos, -getElem?_neg, thenQ_ret, scopeQ_ret, inBlockQ_ret, RQ, resL, resV])
    refine setB_not fun h => hin ?_
    have g1 := h.2.2 a hmem y (by rw [Int.toNat_natCast]; exact hymem)
    obtain ⟨k, e, hk⟩ := past_bd h3 ha hymem
    exact hmt h.2.1 y g1 (by omega)
def OfQ (l : List NodeD) (S : List Int) (H : AH) (v' : Value) (H' : AH) : Prop := Low H.length H H' ∧ ∃ sv F, OwnF H' sv 3 1 (iv .i64 (if rightG l && setB l S then membL (rosB l (cntsB l) S) 8 else [])) F ∧ (∀ j ∈ F, H.length ≤ j) ∧ v' = .tuple #[sv, .int .i64 (if rightG l && setB l S then 0 else 1)]
theorem rosOf_ac {γ : Nat → Option Nat} {nro : Nat} {H : AH} {nv sv : Value} {l : List NodeD} {S : List Int} (hN : NdA H nv l) (hS : InV H sv S) (hSl : S.length ≤ maxLen) (hnro : nro ≤ H.length) : AC Try.prog nro γ 18 #[nv, sv] H (OfQ l S H) := by
  have hnt := hN.nt
  have hvc := hN.cs
  have s1 := hS.acc.nt
  have s2 := hS.acc.cs
  have rg := graph_right_rc (γ := γ) hN
  refine ac_of_aw Try.func18 rfl Try.ntmps18 Try.results18 (by simp) ?_
  refine aw_seq ?_
  (refine aw_ops (by kernel_rfl) (fun K hK => ?_); simp (disch := first | omega | (simp only [lnS]; try omega)) [-getElem?_pos, -getElem?_neg]; refine hK _ _ ?_; clear hK K)
  refine aw_seq ?_
  refine aw_seq ?_
  refine aw_cut (fun α G => α 14 = .bool (!(rightG l && setB l S)) ∧ α 0 = nv ∧ α 1 = sv ∧ H = G) ?_ ?_
  · refine aw_ops (by kernel_rfl) (fun K hK => ?_)
    simp (disch := first | omega | (simp only [lnS]; try omega)) [-getElem?_pos, -getElem?_neg, -notTuple, hnt, hvc, nt_intG]
    refine ⟨by kernel_rfl, ac_of_rc rg (by simp [pv_iv, pv_int, pv_bool, pv_string, pv_tup2, pv_tup3, iv_plain, p2_int, p2_bool, p2_string]) ?_⟩
    cases h3 : rightG l with
    | false =>
      try simp (disch := first | omega | (simp only [lnS]; try omega)) [-getElem?_pos, -getElem?_neg]
      refine hK _ _ ?_; clear hK K
      exact ⟨by (first | (simp [put_at, put_none, fr0_at, h3]; done) | rfl), by (first | (simp [put_at, put_none, fr0_at]; done) | rfl), by (first | (simp [put_at, put_none, fr0_at]; done) | rfl), rfl⟩
    | true =>
      have is := isSet_rc (γ := γ) hN hS hSl h3
      simp (disch := first | omega | (simp only [lnS]; try omega)) [-getElem?_pos, -getElem?_neg, -notTuple, hnt, hvc, s1, s2, nt_intG]
      refine ⟨by kernel_rfl, ac_of_rc is (by simp [pv_iv, pv_int, pv_bool, pv_string, pv_tup2, pv_tup3, iv_plain, p2_int, p2_bool, p2_string]) ?_⟩
      try simp (disch := first | omega | (simp only [lnS]; try omega)) [-getElem?_pos, -getElem?_neg]
      refine hK _ _ ?_; clear hK K
      exact ⟨by (first | (simp [put_at, put_none, fr0_at, h3]; done) | rfl), by (first | (simp [put_at, put_none, fr0_at]; done) | rfl), by (first | (simp [put_at, put_none, fr0_at]; done) | rfl), rfl⟩
  rintro α _ ⟨q14, q0, q1, rfl⟩
  unfold OfQ
  cases hb : (rightG l && setB l S) with
  | false =>
    rw [hb] at q14
    refine aw_t (by (first | (simp [eval_tmp, put_at, q14]; done) | (simp [eval_tmp, put_at, q14]; omega))) (by kernel_rfl) ?_
    refine aw_seq ?_
    (refine aw_ops (by kernel_rfl) (fun K hK => ?_); simp (disch := first | omega | (simp only [lnS]; try omega)) [-getElem?_pos, -getElem?_neg]; refine hK _ _ ?_; clear hK K)
    (refine aw_ret ?_; simp (disch := first | omega | (simp only [lnS]; try omega)) [-getElem?_pos, -getElem?_neg, thenQ_ret, scopeQ_ret, inBlockQ_ret, RQ, resL, resV])
    exact ⟨Low.refl (Nat.le_refl _), _, [], .inl ⟨rfl, by simp [iv], rfl⟩, (fun j hj => by cases hj), rfl⟩
  | true =>
  rw [hb] at q14
  refine aw_f (by (first | (simp [eval_tmp, put_at, q14]; done) | (simp [eval_tmp, put_at, q14]; omega))) (by kernel_rfl) ?_
  refine aw_skip ?_
  simp only [Bool.and_eq_true] at hb
  obtain ⟨h3, h4⟩ := hb
  have hset := setB_iff.1 h4
  refine aw_seq ?_
  refine aw_ops (by kernel_rfl) (fun K hK => ?_)
  simp (disch := first | omega | (simp only [lnS]; try omega)) [-getElem?_pos, -getElem?_neg, q0, -notTuple, hnt, hvc, nt_intG]
  refine ⟨by kernel_rfl, (look_ac (γ := γ) (nro := nro) hN h3 hnro).mono ?_⟩
  rintro v1 G ⟨lw, cv, rfl, hVw⟩
  have hle := lw.2
  simp (disch := first | omega | (simp only [lnS]; try omega)) [-getElem?_pos, -getElem?_neg, q1, -notTuple, s1, s2, nt_intG, nt_aggG]
  refine ⟨by kernel_rfl, (vroster_ac (γ := γ) (nro := nro) hVw (hS.lowG lw) hSl hset.1.plc (by omega)).mono ?_⟩
  rintro v2 G2 ⟨_, lw2, hgr⟩
  have hle2 := lw2.2
  obtain ⟨f, cs, rfl, hf⟩ := hgr
  try simp (disch := first | omega | (simp only [lnS]; try omega)) [-getElem?_pos, -getElem?_neg, -notTuple, nt_intG, nt_aggG]
  refine ⟨by kernel_rfl, (members_ac (γ := γ) (nro := nro) ⟨f, cs, rfl, hf⟩ (by omega)).mono ?_⟩
  rintro v3 G3 ⟨lw3, F, hF, hFl⟩
  obtain ⟨w1, w2⟩ := own_nt hF
  try simp (disch := first | omega | (simp only [lnS]; try omega)) [-getElem?_pos, -getElem?_neg, -notTuple, w1, w2]
  refine hK _ _ ?_; clear hK K
  (refine aw_ret ?_; simp (disch := first | omega | (simp only [lnS]; try omega)) [-getElem?_pos, -getElem?_neg, thenQ_ret, scopeQ_ret, inBlockQ_ret, RQ, resL, resV])
  refine ⟨_, ⟨w1, rfl⟩, ?_⟩
  exact ⟨(lw.both lw2).both lw3, _, F, hF, (fun j hj => by have := hFl j hj; omega), rfl⟩
end
section
def rgZ (n : Nat) : List Int := (List.range n).map fun k : Nat => (k : Int)
theorem rgZ_succ (n : Nat) : rgZ (n + 1) = rgZ n ++ [(n : Int)] := by unfold rgZ; rw [List.range_succ, List.map_append]; rfl
theorem rgZ_len (n : Nat) : (rgZ n).length = n := by simp [rgZ]
theorem mem_rgZ {n : Nat} {z : Int} : z ∈ rgZ n ↔ 0 ≤ z ∧ z < n := by
 unfold rgZ
 rw [List.mem_map]
 constructor
 ·rintro ⟨k, hk, rfl⟩
  rw [List.mem_range] at hk
  omega
 ·rintro ⟨h1, h2⟩
  exact ⟨z.toNat, List.mem_range.2 (by omega), by omega⟩
theorem setB_all {l : List NodeD} (h : rightG l = true) : setB l (rgZ l.length) = true := by
 refine setB_iff.2 ⟨fun z hz => by rw [mem_rgZ] at hz; exact hz, inc_cast List.pairwise_lt_range, fun a ha z hz => ?_⟩
 rw [mem_rgZ] at ha ⊢
 obtain ⟨k, e, hk⟩ := past_bd h (i := a.toNat) (by omega) hz
 omega
def allR (l : List NodeD) : List Int := if rightG l then membL (rosB l (cntsB l) (rgZ l.length)) 8 else []
attribute [local simp] wb_bool wb_undef with_lit XL_nil XL_cons XLc_val XLc_call step1_eq stepW_t stepW_f stepC_n stepC_s stepX_s stepX_n stepN_s calleeX oneV xop_eq xopR_s xopR_n wantedA_eq wantedG_n wantedG_s plain1_int plain1_bool plain1_string bits_i64 bits_u64 bits_u32 bits_u16 bits_u8 xeqA xagg xcmp xarr allK_iv num_iv calleeOf xread xeff xbin xint xnil xun xstr xload xconv xpart xfield xfieldAddr xindexAddr xindex bnd asInt? xslice xlen xmin xmax xbuild xfill xappend xapp2 xappstr xappmk xcap xcopy xcells eval_tmp eval_const put_at put_none fr0_at cells_agg cells_int cells_bool cells_string cells_ptr cells_slice notTuple tab iv_all hget_app hget_app0 hget_cons0 hget_cons set_app set_app0 setR setR_one QL_nil QL_cons QLc_val stepQ_t stepQ_f stepQC_n stepQC_s stepQX_s SL_nil SL_cons SLc_val stepS_t stepS_f ltT ltF leT leF eqT eqF ltTn ltFn leTn leFn eqTn eqFn beqT beqF bneT bneF wi64 wu64 wu32 wu16 wu8 tmodP tdivP hgetL hgetNe hgetEq setL nums_def nums_len Nat.succ_le_of_lt List.getElem?_cons_zero List.getElem?_cons_succ Option.getD_some Int.toNat_add Int.toNat_mul agM okM agB agI agS agP agL agA okB okI okS okP okSl okA
theorem rosAll_ac {γ : Nat → Option Nat} {nro : Nat} {H : AH} {nv : Value} {l : List NodeD} (hN : NdA H nv l) (hm : l.length ≤ 1000) (hnro : nro ≤ H.length) : AC Try.prog nro γ 19 #[nv] H (fun v' H' => Low H.length H H' ∧ ∃ F, OwnF H' v' 3 1 (iv .i64 (allR l)) F ∧ ∀ j ∈ F, H.length ≤ j) := by
 have hnt := hN.nt
 have hvc := hN.cs
 have hxl := hN.len
 refine ac_of_aw Try.func19 rfl Try.ntmps19 Try.results19 (by simp) ?_
 refine aw_seq ?_
 (refine aw_ops (by kernel_rfl) (fun K hK => ?_); simp (disch := first | omega | (simp only [lnS]; try omega)) [-getElem?_pos, -getElem?_neg]; refine hK _ _ ?_; clear hK K)
 refine aw_seq ?_
 (refine aw_ops (by kernel_rfl) (fun K hK => ?_); simp (disch := first | omega | (simp only [lnS]; try omega)) [-getElem?_pos, -getElem?_neg]; refine hK _ _ ?_; clear hK K)
 refine aw_seq ?_
 refine aw_seq ?_
 (refine aw_ops (by kernel_rfl) (fun K hK => ?_); simp (disch := first | omega | (simp only [lnS]; try omega)) [-getElem?_pos, -getElem?_neg, -notTuple, hnt, hvc, nt_intG, -xlen, hxl]; refine hK _ _ ?_; clear hK K)
 refine aw_block ?_
 refine aw_loop (fun c α G' => ∃ (k : Nat) (x : Value) (F : List Nat), k + c = l.length ∧ Low H.length H G' ∧ α 0 = nv ∧ α 3 = x ∧ α 8 = .int .i64 (l.length : Nat) ∧ α 9 = .int .i64 (k : Nat) ∧ OwnF G' x 3 1 (iv .i64 (rgZ k)) F ∧ ∀ j ∈ F, H.length ≤ j) l.length ?_ ?_
 ·exact ⟨0, .slice none 0 0, [], by omega, Low.refl (Nat.le_refl _), by (first | (simp [put_at, put_none, fr0_at]; done) | rfl), by (first | (simp [put_at, put_none, fr0_at]; done) | rfl), by (first | (simp [put_at, put_none, fr0_at]; done) | rfl), by (first | (simp [put_at, put_none, fr0_at]; done) | rfl), .inl ⟨rfl, rfl, rfl⟩, fun j hj => by cases hj⟩
 rintro c α G' ⟨k, x, F, hkc, lw, q0, q3, q8, q9, hF, hFl⟩
 obtain ⟨v1, v2⟩ := own_nt hF
 have hlw := lw.2
 refine aw_seq ?_
 by_cases hk : k < l.length
 case neg =>
  obtain rfl : k = l.length := by omega
  (refine aw_ops (by kernel_rfl) (fun K hK => ?_); simp (disch := first | omega | (simp only [lnS]; try omega)) [-getElem?_pos, -getElem?_neg, q8, q9, hk]; refine hK _ _ ?_; clear hK K)
  refine aw_seq ?_
  refine aw_f (by (first | (simp [eval_tmp, put_at, hk]; done) | (simp [eval_tmp, put_at, hk]; omega))) (by kernel_rfl) ?_
  refine aw_exit ?_
  have hof := rosOf_ac (γ := γ) (nro := nro) (hN.lowG lw) (own_inv hF) (by rw [rgZ_len]; simp only [maxLen]; omega) (by omega)
  refine aw_seq ?_
  refine aw_ops (by kernel_rfl) (fun K hK => ?_)
  simp (disch := first | omega | (simp only [lnS]; try omega)) [-getElem?_pos, -getElem?_neg, q0, q3, -notTuple, hnt, hvc, v1, v2, nt_intG]
  refine ⟨by kernel_rfl, hof.mono ?_⟩
  rintro v' G2 ⟨lw2, sv, F2, hF2, hFl2, rfl⟩
  obtain ⟨w1, w2⟩ := own_nt hF2
  try simp (disch := first | omega | (simp only [lnS]; try omega)) [-getElem?_pos, -getElem?_neg, -notTuple, w1, w2, nt_intG]
  refine hK _ _ ?_; clear hK K
  refine aw_seq ?_
  (refine aw_ops (by kernel_rfl) (fun K hK => ?_); simp (disch := first | omega | (simp only [lnS]; try omega)) [-getElem?_pos, -getElem?_neg, -notTuple, w1, w2]; refine hK _ _ ?_; clear hK K)
  (refine aw_ret ?_; simp (disch := first | omega | (simp only [lnS]; try omega)) [-getElem?_pos, -getElem?_neg, thenQ_ret, scopeQ_ret, inBlockQ_ret, RQ, resL, resV])
  have ea : (if rightG l && setB l (rgZ l.length) then membL (rosB l (cntsB l) (rgZ l.length)) 8 else []) = allR l := by
   unfold allR
   cases h3 : rightG l with
   | false => rfl
   | true => rw [setB_all h3]; rfl
  rw [ea] at hF2
  exact ⟨lw.both lw2, F2, hF2, fun j hj => by have := hFl2 j hj; omega⟩
 have hsu := rgZ_succ k
 have hle := rgZ_len k
 (refine aw_ops (by kernel_rfl) (fun K hK => ?_); simp (disch := first | omega | (simp only [lnS]; try omega)) [-getElem?_pos, -getElem?_neg, q8, q9, hk]; refine hK _ _ ?_; clear hK K)
 refine aw_seq ?_
 refine aw_t (by (first | (simp [eval_tmp, put_at, hk]; done) | (simp [eval_tmp, put_at, hk]; omega))) (by kernel_rfl) ?_
 refine aw_skip ?_
 refine aw_seq ?_
 refine aw_block ?_
 refine aw_seq ?_
 (refine aw_ops (by kernel_rfl) (fun K hK => ?_); simp (disch := first | omega | (simp only [lnS]; try omega)) [-getElem?_pos, -getElem?_neg, q9]; refine hK _ _ ?_; clear hK K)
 generalize rgZ k = out at *
 have hxc : xcells 1 (.slice (some ⟨G'.length, 0, none⟩) 1 1) (G' ++ [some ⟨[.int .i64 (k : Nat)], 3, some 1⟩]) = some (iv .i64 [(k : Int)]) := by simp [xcells, iv, hget_app0]
 obtain ⟨v', G3, hap, ho3, hl3, hk3⟩ := ownF_append (P := Try.prog) (nro := nro) (t := 23) (e := 3) (H := G' ++ [some ⟨[.int .i64 (k : Nat)], 3, some 1⟩]) (v := x) (x := .slice (some ⟨G'.length, 0, none⟩) 1 1) (sz := 1) (cells := iv .i64 out) (news := iv .i64 [(k : Int)]) (F := F) (by simp) (by simp) (by omega) (by simp) (hF.low (fun j hj => hget_left (hF.lt j hj)))
  (fun j hj => by have := hFl j hj; omega) (fun s e => by cases e) hxc (by simp [iv]) (Nat.mod_one _) (by rw [iv_length, iv_length]; simp; omega) (by rw [iv_length, iv_length]; simp [maxLen]; omega)
 (refine aw_ops (by kernel_rfl) (fun K hK => ?_); simp (disch := first | omega | (simp only [lnS]; try omega)) [-getElem?_pos, -getElem?_neg, q3, -notTuple, v1, v2, nt_intG, nt_slG, -xappend, hap]; refine hK _ _ ?_; clear hK K)
 (refine aw_ops (by kernel_rfl) (fun K hK => ?_); simp (disch := first | omega | (simp only [lnS]; try omega)) [-getElem?_pos, -getElem?_neg, q9]; refine hK _ _ ?_; clear hK K)
 refine ⟨c - 1, by omega, k + 1, v', _, by omega, ⟨fun j hj => (hk3 j (by simp; omega) (fun h => by have := hFl _ h; omega)).trans ((hget_left (by omega)).trans (lw.1 j hj)), by rw [hl3]; simp; omega⟩, by (first | (simp [put_at, put_none, fr0_at, q0]; done) | rfl), by (first | (simp [put_at, put_none, fr0_at]; done) | rfl), by (first | (simp [put_at, put_none, fr0_at, q8]; done) | rfl), by (first | (simp [put_at, put_none, fr0_at]; done) | rfl), by rw [hsu, iv_append]; exact ho3, fun j hj => ?_⟩
 rw [List.mem_singleton] at hj
 rw [hj]
 simp; omega
end
section
theorem build_opw (x s k : Int) (d : Addr) (n : Nat) : xbuild Try.prog 41 [(0, .int .i64 x), (1, .int .u32 s), (3, .int .i64 k), (2, .slice (some d) n n), (6, .agg (iv .u8 (key1 1)).toArray)] = some (.agg (opRow (opC1 x s k [] []) (.slice (some d) n n) (.slice none 0 0) (.slice none 0 0)).toArray) := by kernel_rfl
theorem build_opc (w : Addr) (n : Nat) : xbuild Try.prog 41 [(1, .int .u32 1), (3, .int .i64 1), (4, .slice (some w) n n), (6, .agg (iv .u8 (key1 1)).toArray)] = some (.agg (opRow (opC1 0 1 1 [] []) (.slice none 0 0) (.slice (some w) n n) (.slice none 0 0)).toArray) := by kernel_rfl
def whoL (w : Int) : List Int := if 0 ≤ w then [w] else []
attribute [local simp] wb_bool wb_undef with_lit XL_nil XL_cons XLc_val XLc_call step1_eq stepW_t stepW_f stepC_n stepC_s stepX_s stepX_n stepN_s calleeX oneV xop_eq xopR_s xopR_n wantedA_eq wantedG_n wantedG_s plain1_int plain1_bool plain1_string bits_i64 bits_u64 bits_u32 bits_u16 bits_u8 xeqA xagg xcmp xarr allK_iv num_iv calleeOf xread xeff xbin xint xnil xun xstr xload xconv xpart xfield xfieldAddr xindexAddr xindex bnd asInt? xslice xlen xmin xmax xbuild xfill xappend xapp2 xappstr xappmk xcap xcopy xcells eval_tmp eval_const put_at put_none fr0_at cells_agg cells_int cells_bool cells_string cells_ptr cells_slice notTuple tab iv_all hget_app hget_app0 hget_cons0 hget_cons set_app set_app0 setR setR_one QL_nil QL_cons QLc_val stepQ_t stepQ_f stepQC_n stepQC_s stepQX_s SL_nil SL_cons SLc_val stepS_t stepS_f ltT ltF leT leF eqT eqF ltTn ltFn leTn leFn eqTn eqFn beqT beqF bneT bneF wi64 wu64 wu32 wu16 wu8 tmodP tdivP hgetL hgetNe hgetEq setL nums_def nums_len Nat.succ_le_of_lt List.getElem?_cons_zero List.getElem?_cons_succ Option.getD_some Int.toNat_add Int.toNat_mul agM okM agB agI agS agP agL agA okB okI okS okP okSl okA
theorem opw_ac {nro : Nat} {γ : Nat → Option Nat} {H : AH} {d : Addr} {ps : List (List Int)} {k a s w : Int} (hnro : nro ≤ H.length) : AC Try.prog nro γ 34 #[.int .i64 k, .int .i64 a, .int .u32 s, .int .i64 w, .slice (some d) ps.length ps.length] H (fun v' H' => Low H.length H H' ∧ ∃ wv, v' = .agg (opRow (opC1 a s k ps (whoL w)) (.slice (some d) ps.length ps.length) wv (.slice none 0 0)).toArray ∧ InV H' wv (whoL w)) := by
 have hb := build_opw a s k d ps.length
 have hk := build_key 1
 rw [opRow_c1 a s k ps (whoL w)] at hb
 have hrl : (opRow (opC1 a s k ps (whoL w)) (.slice (some d) ps.length ps.length) (.slice none 0 0) (.slice none 0 0)).length = 71 := rfl
 have hr4 : ∀ x, (opRow (opC1 a s k ps (whoL w)) (.slice (some d) ps.length ps.length) (.slice none 0 0) (.slice none 0 0)).set 4 x = opRow (opC1 a s k ps (whoL w)) (.slice (some d) ps.length ps.length) x (.slice none 0 0) := fun x => rfl
 have hrl2 : ∀ x, (opRow (opC1 a s k ps (whoL w)) (.slice (some d) ps.length ps.length) x (.slice none 0 0)).length = 71 := fun x => rfl
 generalize iv .u8 (key1 1) = kk at *
 obtain ⟨RR, hRR⟩ : ∃ RR : Value → List Value, ∀ x, RR x = opRow (opC1 a s k ps (whoL w)) (.slice (some d) ps.length ps.length) x (.slice none 0 0) := ⟨fun x => _, fun x => rfl⟩
 simp only [← hRR] at hb hrl hr4 hrl2 ⊢
 have hset : ∀ (x : Value) (Z : List Value), Z.length = 71 → setR Z 0 (RR x) = RR x := fun x Z hZ => setR_all _ _ (by rw [hrl2]; omega)
 have htk : ∀ x, (RR x).take 71 = RR x := fun x => List.take_of_length_le (by rw [hrl2]; omega)
 have hp0 : plain1 (.slice none 0 0) = true := rfl
 refine ac_of_aw Try.func34 rfl Try.ntmps34 Try.results34 (by simp) ?_
 refine aw_seq ?_
 (refine aw_ops (by kernel_rfl) (fun K hK => ?_); simp (disch := first | omega | (simp only [lnS]; try omega)) [-getElem?_pos, -getElem?_neg, all_zl]; refine hK _ _ ?_; clear hK K)
 obtain ⟨ZZ, hZZ, hZl⟩ : ∃ ZZ : List Value, (Value.int .i64 0 :: .int .u32 0 :: .slice none 0 0 :: .int .i64 0 :: .slice none 0 0 :: (iv .u8 (zl 64) ++ [.string ByteArray.empty, .slice none 0 0])) = ZZ ∧ ZZ.length = 71 := ⟨_, rfl, by simp⟩
 rw [hZZ]
 refine aw_seq ?_
 (refine aw_ops (by kernel_rfl) (fun K hK => ?_); simp (disch := first | omega | (simp only [lnS]; try omega)) [-getElem?_pos, -getElem?_neg, -xbuild, hk, hb, nt_aggG, hrl, hset, hnro, hp0, all_zl]; refine hK _ _ ?_; clear hK K)
 refine aw_seq ?_
 refine aw_seq ?_
 by_cases hw : 0 ≤ w
 ·have hwl : whoL w = [w] := by unfold whoL; rw [if_pos hw]
  (refine aw_ops (by kernel_rfl) (fun K hK => ?_); simp (disch := first | omega | (simp only [lnS]; try omega)) [-getElem?_pos, -getElem?_neg, hw]; refine hK _ _ ?_; clear hK K)
  refine aw_t (by (first | (simp [eval_tmp, put_at, hw]; done) | (simp [eval_tmp, put_at, hw]; omega))) (by kernel_rfl) ?_
  (refine aw_ops (by kernel_rfl) (fun K hK => ?_); simp (disch := first | omega | (simp only [lnS]; try omega)) [-getElem?_pos, -getElem?_neg, hrl, hr4, hw]; refine hK _ _ ?_; clear hK K)
  refine aw_seq ?_
  (refine aw_ops (by kernel_rfl) (fun K hK => ?_); simp (disch := first | omega | (simp only [lnS]; try omega)) [-getElem?_pos, -getElem?_neg, hrl2, htk, hset, hZl, nt_aggG]; refine hK _ _ ?_; clear hK K)
  obtain ⟨G, hG⟩ : ∃ G : AH, G = H ++ [some ⟨RR (.slice (some ⟨H.length + 2, 0, none⟩) 1 1), 41, none⟩, some ⟨RR (.slice (some ⟨H.length + 2, 0, none⟩) 1 1), 41, none⟩, some ⟨[.int .i64 w], 3, some 1⟩] := ⟨_, rfl⟩
  have lw : Low H.length H G := by rw [hG]; exact Low.push (Nat.le_refl _) _
  have b0 : hget G H.length = some ⟨RR (.slice (some ⟨H.length + 2, 0, none⟩) 1 1), 41, none⟩ := by rw [hG, hget_app0]; rfl
  have b2 : hget G (H.length + 2) = some ⟨iv .i64 [w], 3, some 1⟩ := by rw [hG, hget_app]; rfl
  rw [← hG]
  (refine aw_ret ?_; simp (disch := first | omega | (simp only [lnS]; try omega)) [-getElem?_pos, -getElem?_neg, thenQ_ret, scopeQ_ret, inBlockQ_ret, RQ, resL, resV, b0, hrl2, htk])
  refine ⟨lw, _, rfl, ?_⟩
  rw [hwl]
  exact own_inv (e := 3) (F := [H.length + 2]) (.inr ⟨_, 1, rfl, b2, rfl, rfl⟩)
 ·have hwl : whoL w = [] := by unfold whoL; rw [if_neg hw]
  (refine aw_ops (by kernel_rfl) (fun K hK => ?_); simp (disch := first | omega | (simp only [lnS]; try omega)) [-getElem?_pos, -getElem?_neg, hw]; refine hK _ _ ?_; clear hK K)
  refine aw_f (by (first | (simp [eval_tmp, put_at, hw]; done) | (simp [eval_tmp, put_at, hw]; omega))) (by kernel_rfl) ?_
  refine aw_skip ?_
  refine aw_seq ?_
  (refine aw_ops (by kernel_rfl) (fun K hK => ?_); simp (disch := first | omega | (simp only [lnS]; try omega)) [-getElem?_pos, -getElem?_neg, hrl, hrl2, htk, hset, hZl, nt_aggG]; refine hK _ _ ?_; clear hK K)
  obtain ⟨G, hG⟩ : ∃ G : AH, G = H ++ [some ⟨RR (.slice none 0 0), 41, none⟩, some ⟨RR (.slice none 0 0), 41, none⟩] := ⟨_, rfl⟩
  have lw : Low H.length H G := by rw [hG]; exact Low.push (Nat.le_refl _) _
  have b0 : hget G H.length = some ⟨RR (.slice none 0 0), 41, none⟩ := by rw [hG, hget_app0]; rfl
  rw [← hG]
  (refine aw_ret ?_; simp (disch := first | omega | (simp only [lnS]; try omega)) [-getElem?_pos, -getElem?_neg, thenQ_ret, scopeQ_ret, inBlockQ_ret, RQ, resL, resV, b0, hrl, hrl2, htk])
  refine ⟨lw, _, rfl, ?_⟩
  rw [hwl]
  exact .nil (fun x e => by cases e)
theorem boxed2 {H : AH} (us : List Value) (t : TypeId) (z : Nat) : Low H.length H (H ++ [some ⟨us, t, some z⟩]) ∧ hget (H ++ [some ⟨us, t, some z⟩]) H.length = some ⟨us, t, some z⟩ := ⟨Low.push (Nat.le_refl _) _, by rw [hget_app0]; rfl⟩
def bO1 : OpD := opC1 0 1 1 [] [0, 1, 2]
def bO2 : OpD := opC1 0 2 3 [key1 1] [1]
def bO3 : OpD := opC1 1 1 2 [key1 1] [3]
def bL1 : List NodeD := [⟨key1 1, bO1, []⟩]
def bL2 : List NodeD := bL1 ++ [⟨key1 2, bO2, [0]⟩]
def bL3 : List NodeD := bL2 ++ [⟨key1 3, bO3, [0]⟩]
theorem bO1_wf : bO1.Wf := opC1_wf (by unfold I64; omega) (by unfold U32; omega) (by unfold I64; omega) (by simp) (by simp) (by unfold I64; simp) (by simp)
theorem bO2_wf : bO2.Wf := opC1_wf (by unfold I64; omega) (by unfold U32; omega) (by unfold I64; omega) (fun p hp => by simp at hp; subst hp; exact key1_ok (by omega)) (by simp) (by unfold I64; simp) (by simp)
theorem bO3_wf : bO3.Wf := opC1_wf (by unfold I64; omega) (by unfold U32; omega) (by unfold I64; omega) (fun p hp => by simp at hp; subst hp; exact key1_ok (by omega)) (by simp) (by unfold I64; simp) (by simp)
theorem bL1_wf : ∀ x ∈ bL1, x.Wf := fun x hx => by
 rw [bL1, List.mem_singleton] at hx
 subst hx
 exact ⟨key1_ok (by omega), bO1_wf, fun z hz => (by cases hz), by simp⟩
theorem bL2_wf : ∀ x ∈ bL2, x.Wf := fun x hx => by
 rcases List.mem_append.1 hx with hx | hx
 ·exact bL1_wf x hx
 ·rw [List.mem_singleton] at hx
  subst hx
  exact ⟨key1_ok (by omega), bO2_wf, fun z hz => by unfold I64; simp at hz; subst hz; omega, by simp [maxLen]⟩
theorem bL3_wf : ∀ x ∈ bL3, x.Wf := fun x hx => by
 rcases List.mem_append.1 hx with hx | hx
 ·exact bL2_wf x hx
 ·rw [List.mem_singleton] at hx
  subst hx
  exact ⟨key1_ok (by omega), bO3_wf, fun z hz => by unfold I64; simp at hz; subst hz; omega, by simp [maxLen]⟩
theorem badd1 : addE [] (key1 1) bO1 = 0 ∧ [] ++ [addD [] (key1 1) bO1] = bL1 := ⟨by decide +kernel, by unfold addD bL1; rfl⟩
theorem bpast2 : pastL bL1 bL1.length bO2.parents = [0] := by decide +kernel
theorem bpast3 : pastL bL2 bL2.length bO3.parents = [0] := by decide +kernel
theorem badd2 : addE bL1 (key1 2) bO2 = 0 ∧ bL1 ++ [addD bL1 (key1 2) bO2] = bL2 := ⟨by decide +kernel, by unfold addD; rw [bpast2]; rfl⟩
theorem badd3 : addE bL2 (key1 3) bO3 = 0 ∧ bL2 ++ [addD bL2 (key1 3) bO3] = bL3 := ⟨by decide +kernel, by unfold addD; rw [bpast3]; rfl⟩
theorem bal_of : (rightG bL3 && setB bL3 [0, 2]) = true ∧ membL (rosB bL3 (cntsB bL3) [0, 2]) 8 = [0, 1, 2, 3] := by decide +kernel
theorem bal_all : allR bL3 = [0, 2] := by decide +kernel
theorem bal_all1 : allR bL1 = [0, 1, 2] := by decide +kernel
theorem ints_inv {G : AH} {b n : Nat} {L : List Int} (h : hget G b = some ⟨iv .i64 L, 3, some 1⟩) (hn : L.length = n) : InV G (.slice (some ⟨b, 0, none⟩) n n) L := own_inv (e := 3) (F := [b]) (.inr ⟨_, n, rfl, h, by rw [iv_length]; omega, rfl⟩)
theorem key1_ksv {G : AH} {b : Nat} {x : Int} (h : hget G b = some ⟨iv .u8 (key1 x), 38, some 32⟩) : KsV G (.slice (some ⟨b, 0, none⟩) 1 1) [key1 x] := kr_ksv (F := [b]) (.inr ⟨b, 1, rfl, by rw [kr_one]; exact h, by rw [kr_one, iv_length, key1_32], rfl⟩) (fun k hk => by simp at hk; subst hk; exact key1_32 x)
theorem nil3 (G : AH) : KsV G (.slice none 0 0) [] ∧ InV G (.slice none 0 0) [] ∧ BxV G (.slice none 0 0) [] := ⟨.nil (fun x e => by cases e), .nil (fun x e => by cases e), .nil (fun x e => by cases e)⟩
theorem addQ_thaw {G : AH} {l : List NodeD} {id : List Int} {o : OpD} (v : Value) (G' : AH) (h : AddQ l id o G v G') : G.length ≤ G'.length ∧ ∀ j, j < G.length → hget G' j = hget G j := ⟨h.1.2, h.1.1⟩
theorem ralive_rc {γ : Nat → Option Nat} {H : AH} : AC Try.prog H.length γ 16 #[] H (fun v' _ => v' = .bool true) := by
 have k1 := build_key 1
 have k2 := build_key 2
 have k3 := build_key 3
 obtain ⟨n, hn⟩ : ∃ n, n = H.length := ⟨_, rfl⟩
 rw [← hn]
 have x0 : notTuple (.slice none 0 0) = true := rfl
 have x1 : (Value.slice none 0 0).cells = #[.slice none 0 0] := rfl
 have q1 : (iv .u8 (key1 1)).length = 32 := by rw [iv_length, key1_32]
 have fk := fill_keyG (k := .u8) (x := key1 1) (n := 32) (zl 32) q1
 have r3 : List.range 3 = [0, 1, 2] := rfl
 have r2 : List.range 2 = [0, 1] := rfl
 have r4 : List.range 4 = [0, 1, 2, 3] := rfl
 have bc := build_opc ⟨n, 0, none⟩ 3
 rw [opRow_c1 0 1 1 [] [0, 1, 2]] at bc
 have hrl : notTuple (.agg (opRow (opC1 0 1 1 [] [0, 1, 2]) (.slice none 0 0) (.slice (some ⟨n, 0, none⟩) 3 3) (.slice none 0 0)).toArray) = true := rfl
 refine ac_of_aw Try.func16 rfl Try.ntmps16 Try.results16 (by simp) ?_
 refine aw_seq ?_
 (refine aw_ops (by kernel_rfl) (fun K hK => ?_); simp (disch := first | omega | (simp only [lnS]; try omega)) [-getElem?_pos, -getElem?_neg]; refine hK _ _ ?_; clear hK K)
 refine aw_seq ?_
 refine aw_ops (by kernel_rfl) (fun K hK => ?_)
 simp (disch := first | omega | (simp only [lnS]; try omega)) [-getElem?_pos, -getElem?_neg, -xbuild, k1, r3, ← hn, bc]
 obtain ⟨G1, hG1⟩ : ∃ G : AH, G = H ++ [some ⟨iv .i64 [0, 1, 2], 3, some 1⟩] := ⟨_, rfl⟩
 have lw1 : Low n H G1 := by rw [hG1, hn]; exact Low.push (Nat.le_refl _) _
 have i1 : InV G1 (.slice (some ⟨n, 0, none⟩) 3 3) [0, 1, 2] := ints_inv (by rw [hG1, hn, hget_app0]; rfl) rfl
 have hG1' : H ++ [some ⟨[.int .i64 0, .int .i64 1, .int .i64 2], 3, some 1⟩] = G1 := hG1.symm
 rw [hG1']
 clear hG1 hG1'
 have o1 : OpC G1 _ bO1 _ _ _ := opC_row bO1_wf (nil3 G1).1 i1 (nil3 G1).2.2
 refine ⟨by kernel_rfl, ((add_rc (γ := γ) (nil_nda G1) (key1_ok (x := 1) (by omega)) o1 bO1_wf).thaw addQ_thaw).mono ?_⟩
 rintro v G3 hq
 obtain ⟨lw3, sv, rfl, hnew⟩ := hq.zero badd1
 obtain ⟨v1, v2⟩ := hnew.sh
 have N1 := hnew.nda bL1_wf (fun _ _ _ => rfl)
 have low3 : Low n H G3 := ⟨fun j hj => (lw3.1 j (by have := lw1.2; omega)).trans (lw1.1 j hj), by have := lw3.2; have := lw1.2; omega⟩
 clear hnew hq lw1 lw3 i1 o1
 simp (disch := first | omega | (simp only [lnS]; try omega)) [-getElem?_pos, -getElem?_neg, -notTuple, v1, v2, nt_intG]
 refine hK _ _ ?_; clear hK K
 refine aw_seq ?_
 refine aw_ops (by kernel_rfl) (fun K hK => ?_)
 simp (disch := first | omega | (simp only [lnS]; try omega)) [-getElem?_pos, -getElem?_neg, -xbuild, k1, k2, -notTuple, v1, v2, nt_intG, nt_aggG, all_zl, q1, -xfill, fk]
 obtain ⟨lw1, b1⟩ := boxed2 (H := G3) (iv .u8 (key1 1)) 38 32
 have gl1 := hget_lt b1
 generalize G3 ++ [some ⟨iv .u8 (key1 1), 38, some 32⟩] = G4 at *
 have hle0 := low3.2
 have hle1 := lw1.2
 refine ⟨by kernel_rfl, (opw_ac (nro := n) (γ := γ) (H := G4) (ps := [key1 1]) (k := 3) (a := 0) (s := 2) (w := 1) (by omega)).mono ?_⟩
 rintro v G5 ⟨lw2, wv, rfl, iw⟩
 have hle2 := lw2.2
 have lw12 : Low G3.length G3 G5 := lw1.both lw2
 have o1 : OpC G5 _ bO2 _ _ _ := opC_row bO2_wf (key1_ksv ((lw2.1 _ gl1).trans b1)) iw (nil3 G5).2.2
 refine ⟨by kernel_rfl, ((add_rc (γ := γ) (N1.lowG lw12) (key1_ok (x := 2) (by omega)) o1 bO2_wf).thaw addQ_thaw).mono ?_⟩
 rintro v G6 hq
 obtain ⟨lw3, su, rfl, hnew⟩ := hq.zero badd2
 obtain ⟨u1, u2⟩ := hnew.sh
 have N2 := hnew.nda bL2_wf (fun _ _ _ => rfl)
 have hle3 := lw3.2
 have low36 : Low G3.length G3 G6 := lw12.both lw3
 have N1 := N1.lowG low36
 have low6 : Low n H G6 := ⟨fun j hj => (low36.1 j (by omega)).trans (low3.1 j hj), by omega⟩
 clear hnew hq lw1 lw2 lw12 lw3 o1 hle1 hle2 hle3 low36 low3 iw b1 gl1
 simp (disch := first | omega | (simp only [lnS]; try omega)) [-getElem?_pos, -getElem?_neg, -notTuple, u1, u2, nt_intG]
 refine hK _ _ ?_; clear hK K
 refine aw_seq ?_
 refine aw_ops (by kernel_rfl) (fun K hK => ?_)
 simp (disch := first | omega | (simp only [lnS]; try omega)) [-getElem?_pos, -getElem?_neg, -xbuild, k1, k3, -notTuple, u1, u2, nt_intG, nt_aggG, all_zl, q1, -xfill, fk]
 obtain ⟨lw1, b1⟩ := boxed2 (H := G6) (iv .u8 (key1 1)) 38 32
 have gl1 := hget_lt b1
 generalize G6 ++ [some ⟨iv .u8 (key1 1), 38, some 32⟩] = G7 at *
 have hle0 := low6.2
 have hle1 := lw1.2
 refine ⟨by kernel_rfl, (opw_ac (nro := n) (γ := γ) (H := G7) (ps := [key1 1]) (k := 2) (a := 1) (s := 1) (w := 3) (by omega)).mono ?_⟩
 rintro v G8 ⟨lw2, wv, rfl, iw⟩
 have hle2 := lw2.2
 have lw12 : Low G6.length G6 G8 := lw1.both lw2
 have o1 : OpC G8 _ bO3 _ _ _ := opC_row bO3_wf (key1_ksv ((lw2.1 _ gl1).trans b1)) iw (nil3 G8).2.2
 refine ⟨by kernel_rfl, ((add_rc (γ := γ) (N2.lowG lw12) (key1_ok (x := 3) (by omega)) o1 bO3_wf).thaw addQ_thaw).mono ?_⟩
 rintro v G9 hq
 obtain ⟨lw3, st, rfl, hnew⟩ := hq.zero badd3
 obtain ⟨t1, t2⟩ := hnew.sh
 have N3 := hnew.nda bL3_wf (fun _ _ _ => rfl)
 have hle3 := lw3.2
 have low69 : Low G6.length G6 G9 := lw12.both lw3
 have N1 := N1.lowG low69
 have low9 : Low n H G9 := ⟨fun j hj => (low69.1 j (by omega)).trans (low6.1 j hj), by omega⟩
 clear hnew hq lw1 lw2 lw12 lw3 o1 hle1 hle2 hle3 low69 low6 iw b1 gl1 N2
 simp (disch := first | omega | (simp only [lnS]; try omega)) [-getElem?_pos, -getElem?_neg, -notTuple, t1, t2, nt_intG]
 refine hK _ _ ?_; clear hK K
 refine aw_seq ?_
 refine aw_ops (by kernel_rfl) (fun K hK => ?_)
 simp (disch := first | omega | (simp only [lnS]; try omega)) [-getElem?_pos, -getElem?_neg, -notTuple, t1, t2, nt_intG, nt_slG, r2]
 obtain ⟨lw1, b1⟩ := boxed2 (H := G9) (iv .i64 [0, 2]) 3 1
 have gl1 := hget_lt b1
 have hGe : G9 ++ [some ⟨[.int .i64 0, .int .i64 2], 3, some 1⟩] = G9 ++ [some ⟨iv .i64 [0, 2], 3, some 1⟩] := rfl
 rw [hGe]
 generalize G9 ++ [some ⟨iv .i64 [0, 2], 3, some 1⟩] = G10 at *
 have hle0 := low9.2
 have hle1 := lw1.2
 refine ⟨by kernel_rfl, (rosOf_ac (γ := γ) (nro := n) (N3.lowG lw1) (ints_inv (n := 2) b1 rfl) (by simp [maxLen]) (by omega)).mono ?_⟩
 rintro v G11 ⟨lw2, ov, F, hF, hFl, rfl⟩
 rw [bal_of.1] at hF ⊢
 simp only [if_true] at hF ⊢
 rw [bal_of.2] at hF
 obtain ⟨p1, p2⟩ := own_nt hF
 have low911 := lw1.both lw2
 have N1 := N1.lowG low911
 have N3 := N3.lowG low911
 have iO := own_inv hF
 clear hF hFl
 have low11 : Low n H G11 := ⟨fun j hj => (low911.1 j (by omega)).trans (low9.1 j hj), by have := low911.2; omega⟩
 clear lw1 lw2 low911 low9 b1 gl1
 try simp (disch := first | omega | (simp only [lnS]; try omega)) [-getElem?_pos, -getElem?_neg, -notTuple, p1, p2, nt_intG]
 refine hK _ _ ?_; clear hK K
 refine aw_seq ?_
 refine aw_ops (by kernel_rfl) (fun K hK => ?_)
 simp (disch := first | omega | (simp only [lnS]; try omega)) [-getElem?_pos, -getElem?_neg, -notTuple, t1, t2, nt_intG]
 have hle0 := low11.2
 refine ⟨by kernel_rfl, (rosAll_ac (γ := γ) (nro := n) N3 (by simp [bL3, bL2, bL1]) (by omega)).mono ?_⟩
 rintro av G12 ⟨lw1, F1, hF1, hFl1⟩
 rw [bal_all] at hF1
 obtain ⟨a1, a2⟩ := own_nt hF1
 have iA := own_inv hF1
 have hle1 := lw1.2
 simp (disch := first | omega | (simp only [lnS]; try omega)) [-getElem?_pos, -getElem?_neg, -notTuple, a1, a2, nt_intG, nt_slG, r2]
 obtain ⟨lw2, b1⟩ := boxed2 (H := G12) (iv .i64 [0, 2]) 3 1
 have hGe : G12 ++ [some ⟨[.int .i64 0, .int .i64 2], 3, some 1⟩] = G12 ++ [some ⟨iv .i64 [0, 2], 3, some 1⟩] := rfl
 rw [hGe]
 generalize G12 ++ [some ⟨iv .i64 [0, 2], 3, some 1⟩] = G13 at *
 have si := sameInts_rc (γ := γ) (iA.lowG lw2) (ints_inv (n := 2) b1 rfl) (by simp [maxLen])
 rw [decide_eq_true rfl] at si
 have hle2 := lw2.2
 have low13 : Low G11.length G11 G13 := lw1.both lw2
 refine ⟨by kernel_rfl, ac_of_rc si (by simp [pv_iv, pv_int, pv_bool, pv_string, pv_tup2, pv_tup3, iv_plain, p2_int, p2_bool, p2_string]) ?_⟩
 simp (disch := first | omega | (simp only [lnS]; try omega)) [-getElem?_pos, -getElem?_neg, -notTuple, p1, p2, nt_intG, nt_slG, r4]
 obtain ⟨lw3, b2⟩ := boxed2 (H := G13) (iv .i64 [0, 1, 2, 3]) 3 1
 have hGe : G13 ++ [some ⟨[.int .i64 0, .int .i64 1, .int .i64 2, .int .i64 3], 3, some 1⟩] = G13 ++ [some ⟨iv .i64 [0, 1, 2, 3], 3, some 1⟩] := rfl
 rw [hGe]
 generalize G13 ++ [some ⟨iv .i64 [0, 1, 2, 3], 3, some 1⟩] = G14 at *
 have low14 := low13.both lw3
 have hle14 := low14.2
 have si2 := sameInts_rc (γ := γ) (iO.lowG low14) (ints_inv (n := 4) b2 rfl) (by simp [maxLen])
 rw [decide_eq_true rfl] at si2
 refine ⟨by kernel_rfl, ac_of_rc si2 (by simp [pv_iv, pv_int, pv_bool, pv_string, pv_tup2, pv_tup3, iv_plain, p2_int, p2_bool, p2_string]) ?_⟩
 simp (disch := first | omega | (simp only [lnS]; try omega)) [-getElem?_pos, -getElem?_neg, -notTuple, v1, v2, nt_intG, nt_slG]
 refine ⟨by kernel_rfl, (rosAll_ac (γ := γ) (nro := n) (N1.lowG low14) (by simp [bL1]) (by omega)).mono ?_⟩
 rintro bv2 G15 ⟨lw4, F2, hF2, hFl2⟩
 rw [bal_all1] at hF2
 obtain ⟨a1, a2⟩ := own_nt hF2
 have iB := own_inv hF2
 have hle15 := lw4.2
 simp (disch := first | omega | (simp only [lnS]; try omega)) [-getElem?_pos, -getElem?_neg, -notTuple, a1, a2, nt_intG, nt_slG, r3]
 obtain ⟨lw5, b3⟩ := boxed2 (H := G15) (iv .i64 [0, 1, 2]) 3 1
 have hGe : G15 ++ [some ⟨[.int .i64 0, .int .i64 1, .int .i64 2], 3, some 1⟩] = G15 ++ [some ⟨iv .i64 [0, 1, 2], 3, some 1⟩] := rfl
 rw [hGe]
 generalize G15 ++ [some ⟨iv .i64 [0, 1, 2], 3, some 1⟩] = G16 at *
 have si3 := sameInts_rc (γ := γ) (iB.lowG lw5) (ints_inv (n := 3) b3 rfl) (by simp [maxLen])
 rw [decide_eq_true rfl] at si3
 refine ⟨by kernel_rfl, ac_of_rc si3 (by simp [pv_iv, pv_int, pv_bool, pv_string, pv_tup2, pv_tup3, iv_plain, p2_int, p2_bool, p2_string]) ?_⟩
 try simp (disch := first | omega | (simp only [lnS]; try omega)) [-getElem?_pos, -getElem?_neg]
 refine hK _ _ ?_; clear hK K
 (refine aw_ret ?_; simp (disch := first | omega | (simp only [lnS]; try omega)) [-getElem?_pos, -getElem?_neg, thenQ_ret, scopeQ_ret, inBlockQ_ret, RQ, resL, resV])
end
section
theorem rightO_who1 {o : OpD} (h : rightO o = true) (hk : o.kind = 2 ∨ o.kind = 3) : ∃ x, o.who = [x] := by
 unfold rightO at h
 simp only [Bool.and_eq_true] at h
 have hw := h.2.2.2.2.1
 unfold whoB at hw
 rw [if_neg (by omega), if_pos hk] at hw
 simp only [Bool.and_eq_true, decide_eq_true_eq] at hw
 match ho : o.who, hw.1 with
 | [x], _ => exact ⟨x, rfl⟩
end
section
section
variable {l : List NodeD}
theorem cntP_pre (i : Nat) : ∀ n, i ≤ n → ∀ r, r < i → (cntP l n).getD r false = (cntP l i).getD r false := by
 intro n
 induction n with
 | zero =>
  intro h r hr
  omega
 | succ n ih =>
  intro h r hr
  rcases Nat.eq_or_lt_of_le h with rfl | hlt
  ·rfl
  ·rw [← ih (by omega) r hr]
   have e : cntP l (n + 1) = cntP l n ++ [decide ((nd l n).op.kind = 1) || rosB l (cntP l n) (nd l n).past (nd l n).op.author] := rfl
   rw [e, List.getD_eq_getElem?_getD, List.getElem?_append_left (by rw [cntP_len]; omega), ← List.getD_eq_getElem?_getD]
theorem ros_cong {c d : List Bool} {S : List Int} (h : ∀ z ∈ S, c.getD z.toNat false = d.getD z.toNat false) (w : Int) : rosB l c S w = rosB l d S w := by
 have h1 : ∀ z ∈ S, ∀ v, remB l c z.toNat v = remB l d z.toNat v := fun z hz v => by unfold remB; rw [h z hz]
 have h2 : ∀ a, besB l c S a = besB l d S a := fun a => by
  unfold besB
  rw [Bool.eq_iff_iff, List.any_eq_true, List.any_eq_true]
  exact exists_congr fun r => and_congr_right fun hr => by rw [h1 r hr]
 unfold rosB
 rw [Bool.eq_iff_iff, List.any_eq_true, List.any_eq_true]
 refine exists_congr fun a => and_congr_right fun ha => ?_
 have h3 : (S.any fun r => remB l c r.toNat w && !ahB l r.toNat a.toNat) = S.any fun r => remB l d r.toNat w && !ahB l r.toNat a.toNat := by
  rw [Bool.eq_iff_iff, List.any_eq_true, List.any_eq_true]
  exact exists_congr fun r => and_congr_right fun hr => by rw [h1 r hr]
 unfold admB
 rw [h3, h a ha, h2]
theorem cnts_at (h3 : rightG l = true) {i : Nat} (hi : i < l.length) : (cntsB l).getD i false = (decide ((nd l i).op.kind = 1) || rosB l (cntsB l) (nd l i).past (nd l i).op.author) := by
 unfold cntsB
 rw [cntP_pre (i + 1) l.length (by omega) i (by omega)]
 have e : cntP l (i + 1) = cntP l i ++ [decide ((nd l i).op.kind = 1) || rosB l (cntP l i) (nd l i).past (nd l i).op.author] := rfl
 rw [e, List.getD_eq_getElem?_getD, List.getElem?_append_right (by rw [cntP_len]; exact Nat.le_refl _), cntP_len, Nat.sub_self]
 refine congrArg (fun b => decide ((nd l i).op.kind = 1) || b) ?_
 refine ros_cong (fun z hz => ?_) _
 obtain ⟨k, rfl, hk⟩ := past_bd h3 hi hz
 rw [Int.toNat_natCast]
 exact (cntP_pre i l.length (by omega) k hk).symm
theorem mem_membL {P : Int → Bool} {k : Nat} {z : Int} : z ∈ membL P k ↔ (0 ≤ z ∧ z < k) ∧ P z = true := by
 unfold membL
 rw [List.mem_filter]
 have := mem_rgZ (n := k) (z := z)
 unfold rgZ at this
 rw [this]
end
end
end Go.Proofs.Ytdeccbjdhcifiaa
