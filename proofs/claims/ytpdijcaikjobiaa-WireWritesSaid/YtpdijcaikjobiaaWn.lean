/-
  Items that come in; great; WireWrites.
-/
import Derived.Test.YtpdijcaikjobiaaWm
namespace Go.Proofs.Ytpdijcaikjobiaa
open Go Go.RowKit
set_option linter.unusedVariables false
set_option linter.unusedSimpArgs false
set_option maxRecDepth 100000
set_option maxHeartbeats 4000000
structure ItD where
  kind : Int
  most : Int
  ns : List Int
  tx : ByteArray
  ks : List (List Int)
def itK : List CK := [.int .i64, .int .i64, .sl [.int .u32], .str, .sl (List.replicate 32 (.int .u8))]
def ItD.row (x : ItD) : List CD := [.int .i64 x.kind, .int .i64 x.most, .sl (x.ns.map fun z => [.int .u32 z]), .str x.tx, .sl (x.ks.map fun key => key.map (.int .u8))]
structure ItD.Wf (x : ItD) : Prop where
  kind : -9223372036854775808 ≤ x.kind ∧ x.kind ≤ 9223372036854775807
  most : -9223372036854775808 ≤ x.most ∧ x.most ≤ 9223372036854775807
  ns : ∀ n ∈ x.ns, 0 ≤ n ∧ n ≤ 4294967295
  ks : ∀ k ∈ x.ks, k.length = 32
  kb : ∀ k ∈ x.ks, By k
  nl : x.ns.length ≤ maxLen
  tl : x.tx.size ≤ maxLen
  kl : x.ks.length ≤ maxLen
theorem wf_i64 {z : Int} (h : (Lit.int .i64 z).wf = true) : -9223372036854775808 ≤ z ∧ z ≤ 9223372036854775807 := by
  simpa [Lit.wf, IntKind.min, IntKind.max, IntKind.bits, IntKind.signed] using h
theorem wf_u32 {z : Int} (h : (Lit.int .u32 z).wf = true) : 0 ≤ z ∧ z ≤ 4294967295 := by
  simpa [Lit.wf, IntKind.min, IntKind.max, IntKind.bits, IntKind.signed] using h
theorem wf_u8 {z : Int} (h : (Lit.int .u8 z).wf = true) : 0 ≤ z ∧ z ≤ 255 := by
  simpa [Lit.wf, IntKind.min, IntKind.max, IntKind.bits, IntKind.signed] using h
theorem item_of {row : List CD} (h : OkL itK row) : ∃ x : ItD, row = x.row ∧ x.Wf := by
  obtain ⟨d0, r0, rfl, o0, h0⟩ := OkL.cons h
  obtain ⟨d1, r1, rfl, o1, h1⟩ := OkL.cons h0
  obtain ⟨d2, r2, rfl, o2, h2⟩ := OkL.cons h1
  obtain ⟨d3, r3, rfl, o3, h3⟩ := OkL.cons h2
  obtain ⟨d4, r4, rfl, o4, h4⟩ := OkL.cons h3
  obtain rfl := h4.nil
  obtain ⟨k, rfl, wk⟩ := ok_int o0
  obtain ⟨m, rfl, wm⟩ := ok_int o1
  obtain ⟨ns, rfl, wn, ln⟩ := ok_ints o2
  obtain ⟨tx, rfl, wt⟩ := ok_str o3
  obtain ⟨ks, rfl, wks, lk⟩ := ok_keys o4
  exact ⟨⟨k, m, ns, tx, ks⟩, rfl, wf_i64 wk, wf_i64 wm, fun n hn => wf_u32 (wn n hn), fun k hk => (wks k hk).1, fun k hk z hz => wf_u8 ((wks k hk).2 z hz), ln, wt, lk⟩
theorem items_of {ds : List CD} (h : OkL [CK.sl itK] ds) : ∃ xs : List ItD, ds = [.sl (xs.map ItD.row)] ∧ (∀ x ∈ xs, x.Wf) ∧ xs.length ≤ maxLen := by
  obtain ⟨d, r, rfl, o, h1⟩ := OkL.cons h
  obtain rfl := h1.nil
  obtain ⟨rows, rfl, hm, hr⟩ := ok_sl o
  obtain ⟨xs, rfl, hx⟩ := rows_of (f := ItD.row) (R := ItD.Wf) rows (fun row hrow => item_of (hr row hrow))
  exact ⟨xs, rfl, hx, by simpa using hm⟩
/-- An item's cells, told. -/
theorem item_val {H : AH} {x : ItD} {us : List Value} (h : ValL H x.row us) : ∃ nv kv, us = It.cells ⟨x.kind, x.most, nv, x.ns, x.tx, kv, x.ks⟩ ∧ SlV H nv (iv .u32 x.ns) ∧ CD.Val H (.sl (x.ks.map fun key => key.map (.int .u8))) kv := by
  obtain ⟨u0, r0, rfl, v0, h0⟩ := ValL.cons h
  obtain ⟨u1, r1, rfl, v1, h1⟩ := ValL.cons h0
  obtain ⟨u2, r2, rfl, v2, h2⟩ := ValL.cons h1
  obtain ⟨u3, r3, rfl, v3, h3⟩ := ValL.cons h2
  obtain ⟨u4, r4, rfl, v4, h4⟩ := ValL.cons h3
  obtain rfl := h4.nil
  rw [val_int v0, val_int v1, val_str v3]
  exact ⟨u2, u4, rfl, val_ints v2, v4⟩
def ItD.great (x : ItD) : Bool := decide (300 < x.tx.size) || decide (60 < x.ns.length) || decide (20 < x.ks.length)
def greatB (xs : List ItD) : Bool := decide (20 < xs.length) || xs.any ItD.great
theorem not_great {xs : List ItD} (h : greatB xs = false) : xs.length ≤ 20 ∧ ∀ x ∈ xs, x.tx.size ≤ 300 ∧ x.ns.length ≤ 60 ∧ x.ks.length ≤ 20 := by
  simp only [greatB, Bool.or_eq_false_iff, decide_eq_false_iff_not, List.any_eq_false, ItD.great, Bool.or_eq_true, decide_eq_true_eq, not_or] at h
  exact ⟨by omega, fun x hx => by have := h.2 x hx; omega⟩
attribute [local simp] wb_bool wb_undef XL_nil XL_cons XLc_val XLc_call step1_eq stepW_t stepW_f stepC_n stepC_s stepX_s stepX_n stepN_s calleeX oneV xop_eq xopR_s xopR_n wantedA_eq wantedG_n wantedG_s plain1_int plain1_bool plain1_string bits_i64 bits_u64 bits_u32 bits_u16 bits_u8 xeqA xarr allK_iv num_iv calleeOf xread xeff xbin xint xnil xun xstr xload xconv xpart xfield xfieldAddr xindexAddr xindex bnd asInt? xslice xlen xmin xmax xbuild xfill xappend xapp2 xappstr xappmk xcap xcopy xcells eval_tmp eval_const put_at put_none fr0_at cells_agg cells_int cells_bool cells_string cells_ptr cells_slice notTuple tab iv_all hget_app hget_app0 hget_cons0 hget_cons set_app set_app0 setR setR_one QL_nil QL_cons QLc_val stepQ_t stepQ_f stepQC_n stepQC_s stepQX_s SL_nil SL_cons SLc_val stepS_t stepS_f ltT ltF leT leF eqT eqF ltTn ltFn leTn leFn eqTn eqFn beqT beqF bneT bneF wi64 wu64 wu32 wu16 wu8 tmodP tdivP hgetL hgetNe hgetEq setL nums_def nums_len Nat.succ_le_of_lt List.getElem?_cons_zero List.getElem?_cons_succ Option.getD_some Int.toNat_add Int.toNat_mul agB agI agS agP agL agA okB okI okS okP okSl okA
theorem great_ac {H : AH} {γ : Nat → Option Nat} {nro : Nat} {xs : List ItD} {v : Value} (hv : CD.Val H (.sl (xs.map ItD.row)) v) (hm : xs.length ≤ maxLen) (hw : ∀ x ∈ xs, x.Wf) :
    AC Try.prog nro γ 8 #[v] H (fun v' H' => v' = .bool (greatB xs) ∧ H' = H) := by
  obtain ⟨hnt, hvc⟩ := val_nt hv
  have hxl := val_len (P := Try.prog) (t := 22) (e := 33) hv (by simp)
  rw [List.length_map] at hxl
  simp only [maxLen] at hm
  refine ac_of_aw Try.func8 rfl Try.ntmps8 Try.results8 (by simp) ?_
  refine aw_seq ?_
  (refine aw_ops (by kernel_rfl) (fun K hK => ?_); simp (disch := first | omega | (simp only [List.length_set, List.length_append, List.length_cons, List.length_nil, iv_length, zl_length]; try omega; done)) [-getElem?_pos, -getElem?_neg]; refine hK _ _ ?_; clear hK K)
  refine aw_seq ?_
  refine aw_seq ?_
  (refine aw_ops (by kernel_rfl) (fun K hK => ?_); simp (disch := first | omega | (simp only [List.length_set, List.length_append, List.length_cons, List.length_nil, iv_length, zl_length]; try omega; done)) [-getElem?_pos, -getElem?_neg, -xlen, hxl]; refine hK _ _ ?_; clear hK K)
  by_cases hc : 20 < xs.length
  · refine aw_t (by (first | (simp [eval_tmp, put_at, hc]; done) | (simp [eval_tmp, put_at, hc]; omega))) (by kernel_rfl) ?_
    refine aw_seq ?_
    (refine aw_ops (by kernel_rfl) (fun K hK => ?_); simp (disch := first | omega | (simp only [List.length_set, List.length_append, List.length_cons, List.length_nil, iv_length, zl_length]; try omega; done)) [-getElem?_pos, -getElem?_neg]; refine hK _ _ ?_; clear hK K)
    (refine aw_ret ?_; simp (disch := first | omega | (simp only [List.length_set, List.length_append, List.length_cons, List.length_nil, iv_length, zl_length]; try omega; done)) [-getElem?_pos, -getElem?_neg, thenQ_ret, scopeQ_ret, inBlockQ_ret, RQ, resL, resV, greatB, hc])
  refine aw_f (by (first | (simp [eval_tmp, put_at, hc]; done) | (simp [eval_tmp, put_at, hc]; omega))) (by kernel_rfl) ?_
  refine aw_skip ?_
  refine aw_seq ?_
  refine aw_seq ?_
  (refine aw_ops (by kernel_rfl) (fun K hK => ?_); simp (disch := first | omega | (simp only [List.length_set, List.length_append, List.length_cons, List.length_nil, iv_length, zl_length]; try omega; done)) [-getElem?_pos, -getElem?_neg]; refine hK _ _ ?_; clear hK K)
  refine aw_cut (fun α G => G = H ∧ xs.any ItD.great = false) ?_ ?_
  case refine_2 =>
    rintro α G ⟨rfl, hg⟩
    refine aw_seq ?_
    (refine aw_ops (by kernel_rfl) (fun K hK => ?_); simp (disch := first | omega | (simp only [List.length_set, List.length_append, List.length_cons, List.length_nil, iv_length, zl_length]; try omega; done)) [-getElem?_pos, -getElem?_neg]; refine hK _ _ ?_; clear hK K)
    (refine aw_ret ?_; simp (disch := first | omega | (simp only [List.length_set, List.length_append, List.length_cons, List.length_nil, iv_length, zl_length]; try omega; done)) [-getElem?_pos, -getElem?_neg, thenQ_ret, scopeQ_ret, inBlockQ_ret, RQ, resL, resV, greatB, hc, hg])
  refine aw_block ?_
  refine aw_loop (fun c α G => G = H ∧ ∃ i : Nat, i + c = xs.length ∧ α 3 = .int .i64 (i : Nat) ∧ α 0 = v ∧ (xs.take i).any ItD.great = false) xs.length ?_ ?_
  · exact ⟨rfl, 0, by omega, by (first | (simp [put_at, put_none, fr0_at]; done) | rfl), by (first | (simp [put_at, put_none, fr0_at]; done) | rfl), by simp⟩
  rintro c α G ⟨rfl, i, hic, h3, h0, hg⟩
  refine aw_seq ?_
  refine aw_seq ?_
  (refine aw_ops (by kernel_rfl) (fun K hK => ?_); simp (disch := first | omega | (simp only [List.length_set, List.length_append, List.length_cons, List.length_nil, iv_length, zl_length]; try omega; done)) [-getElem?_pos, -getElem?_neg, h3, h0, -xlen, hxl]; refine hK _ _ ?_; clear hK K)
  by_cases hi : i < xs.length
  case neg =>
    refine aw_f (by (first | (simp [eval_tmp, put_at, hi]; done) | (simp [eval_tmp, put_at, hi]; omega))) (by kernel_rfl) ?_
    refine aw_exit ?_
    obtain rfl : i = xs.length := by omega
    rw [List.take_length] at hg
    exact ⟨rfl, hg⟩
  refine aw_t (by (first | (simp [eval_tmp, put_at, hi]; done) | (simp [eval_tmp, put_at, hi]; omega))) (by kernel_rfl) ?_
  refine aw_skip ?_
  refine aw_seq ?_
  refine aw_block ?_
  obtain ⟨x, hx⟩ : ∃ x, xs[i]? = some x := ⟨_, List.getElem?_eq_getElem hi⟩
  have hmx := List.mem_of_getElem? hx
  have hwx := hw x hmx
  obtain ⟨h5, h6, h7⟩ : x.tx.size ≤ 9223372036854775807 ∧ x.ns.length ≤ 9223372036854775807 ∧ x.ks.length ≤ 9223372036854775807 := by
    have h1 := hwx.tl; have h2 := hwx.nl; have h3 := hwx.kl; simp only [maxLen] at h1 h2 h3; omega
  have hany : (xs.take (i + 1)).any ItD.great = x.great := by
    rw [List.take_add_one, hx, List.any_append, hg]; simp
  obtain ⟨j, b, us, hvj, hb, hbl, hxa, hus, hul, hle, hcell, hval⟩ := val_at (P := Try.prog) (t := 22) (e := 33) (sz := 5) hv (by simp) (by simp) (by omega) (fun row hr => by
    obtain ⟨y, _, rfl⟩ := List.mem_map.1 hr; rfl) (i := i) (row := x.row) (by rw [List.getElem?_map, hx]; rfl)
  obtain ⟨nv, kv, rfl, hsn, hsk⟩ := item_val hval
  have hnl := hsn.len (P := Try.prog) (t := 30) (e := 37) (by simp)
  rw [iv_length] at hnl
  have hkl := val_len (P := Try.prog) (t := 31) (e := 41) hsk (by simp)
  rw [List.length_map] at hkl
  have hsl : xlen Try.prog 9 (.string x.tx) = some (.int .i64 x.tx.size) := by simp [xlen]
  have k2 : xload Try.prog 30 (.pointer (some ⟨j, i * 5 + 2, none⟩)) G = some nv := by
    have := hcell 2 (by omega); simp [xload, hb, this, It.cells]
  have k3 : xload Try.prog 9 (.pointer (some ⟨j, i * 5 + 3, none⟩)) G = some (.string x.tx) := by
    have := hcell 3 (by omega); simp [xload, hb, this, It.cells]
  have k4 : xload Try.prog 31 (.pointer (some ⟨j, i * 5 + 4, none⟩)) G = some kv := by
    have := hcell 4 (by omega); simp [xload, hb, this, It.cells]
  refine aw_seq ?_
  refine aw_cut (fun α2 G2 => G2 = G ∧ α2 37 = .bool x.great ∧ α2 3 = .int .i64 (i : Nat) ∧ α2 0 = v) ?_ ?_
  · by_cases g1 : 300 < x.tx.size
    · (refine aw_ops (by kernel_rfl) (fun K hK => ?_); simp (disch := first | omega | (simp only [List.length_set, List.length_append, List.length_cons, List.length_nil, iv_length, zl_length]; try omega; done)) [-getElem?_pos, -getElem?_neg, h0, h3, -xindexAddr, hxa, -xload, k2, k3, k4, -xlen, hsl, hnl, hkl, g1]; refine hK _ _ ?_; clear hK K)
      exact ⟨rfl, by simp [put_at, ItD.great, g1], by (first | (simp [put_at, put_none, fr0_at, h3]; done) | rfl), by (first | (simp [put_at, put_none, fr0_at, h0]; done) | rfl)⟩
    by_cases g2 : 60 < x.ns.length
    · (refine aw_ops (by kernel_rfl) (fun K hK => ?_); simp (disch := first | omega | (simp only [List.length_set, List.length_append, List.length_cons, List.length_nil, iv_length, zl_length]; try omega; done)) [-getElem?_pos, -getElem?_neg, h0, h3, -xindexAddr, hxa, -xload, k2, k3, k4, -xlen, hsl, hnl, hkl, g1, g2]; refine hK _ _ ?_; clear hK K)
      exact ⟨rfl, by simp [put_at, ItD.great, g1, g2], by (first | (simp [put_at, put_none, fr0_at, h3]; done) | rfl), by (first | (simp [put_at, put_none, fr0_at, h0]; done) | rfl)⟩
    by_cases g3 : 20 < x.ks.length
    · (refine aw_ops (by kernel_rfl) (fun K hK => ?_); simp (disch := first | omega | (simp only [List.length_set, List.length_append, List.length_cons, List.length_nil, iv_length, zl_length]; try omega; done)) [-getElem?_pos, -getElem?_neg, h0, h3, -xindexAddr, hxa, -xload, k2, k3, k4, -xlen, hsl, hnl, hkl, g1, g2, g3]; refine hK _ _ ?_; clear hK K)
      exact ⟨rfl, by simp [put_at, ItD.great, g1, g2, g3], by (first | (simp [put_at, put_none, fr0_at, h3]; done) | rfl), by (first | (simp [put_at, put_none, fr0_at, h0]; done) | rfl)⟩
    · (refine aw_ops (by kernel_rfl) (fun K hK => ?_); simp (disch := first | omega | (simp only [List.length_set, List.length_append, List.length_cons, List.length_nil, iv_length, zl_length]; try omega; done)) [-getElem?_pos, -getElem?_neg, h0, h3, -xindexAddr, hxa, -xload, k2, k3, k4, -xlen, hsl, hnl, hkl, g1, g2, g3]; refine hK _ _ ?_; clear hK K)
      exact ⟨rfl, by simp [put_at, ItD.great, g1, g2, g3], by (first | (simp [put_at, put_none, fr0_at, h3]; done) | rfl), by (first | (simp [put_at, put_none, fr0_at, h0]; done) | rfl)⟩
  clear h3 h0
  rintro α2 G2 ⟨rfl, h37, h3, h0⟩
  cases hgx : x.great with
  | true =>
    rw [hgx] at h37
    have : xs.any ItD.great = true := List.any_eq_true.2 ⟨x, hmx, hgx⟩
    refine aw_t (by (first | (simp [eval_tmp, put_at, h37]; done) | (simp [eval_tmp, put_at, h37]; omega))) (by kernel_rfl) ?_
    refine aw_seq ?_
    (refine aw_ops (by kernel_rfl) (fun K hK => ?_); simp (disch := first | omega | (simp only [List.length_set, List.length_append, List.length_cons, List.length_nil, iv_length, zl_length]; try omega; done)) [-getElem?_pos, -getElem?_neg]; refine hK _ _ ?_; clear hK K)
    (refine aw_ret ?_; simp (disch := first | omega | (simp only [List.length_set, List.length_append, List.length_cons, List.length_nil, iv_length, zl_length]; try omega; done)) [-getElem?_pos, -getElem?_neg, thenQ_ret, scopeQ_ret, inBlockQ_ret, RQ, resL, resV, greatB, hc, this])
  | false =>
    rw [hgx] at h37
    refine aw_f (by (first | (simp [eval_tmp, put_at, h37]; done) | (simp [eval_tmp, put_at, h37]; omega))) (by kernel_rfl) ?_
    refine aw_skip ?_
    (refine aw_ops (by kernel_rfl) (fun K hK => ?_); simp (disch := first | omega | (simp only [List.length_set, List.length_append, List.length_cons, List.length_nil, iv_length, zl_length]; try omega; done)) [-getElem?_pos, -getElem?_neg, h3]; refine hK _ _ ?_; clear hK K)
    exact ⟨c - 1, by omega, rfl, i + 1, by omega, by (first | (simp [put_at, put_none, fr0_at]; done) | rfl), by (first | (simp [put_at, put_none, fr0_at, h0]; done) | rfl), by rw [hany, hgx]⟩
end Go.Proofs.Ytpdijcaikjobiaa
