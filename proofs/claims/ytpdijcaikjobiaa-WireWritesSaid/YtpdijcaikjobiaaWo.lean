/-
  WireWrites, walked.
-/
import Derived.Test.YtpdijcaikjobiaaWn
namespace Go.Proofs.Ytpdijcaikjobiaa
open Go Go.RowKit
set_option linter.unusedVariables false
set_option linter.unusedSimpArgs false
set_option maxRecDepth 100000
set_option maxHeartbeats 4000000
def ItD.it (x : ItD) (nv kv : Value) : It := ⟨x.kind, x.most, nv, x.ns, x.tx, kv, x.ks⟩
def ItD.bytes (x : ItD) : List Int := wrB (x.it .nilFunc .nilFunc)
theorem ItD.bytes_eq (x : ItD) (nv kv : Value) : wrB (x.it nv kv) = x.bytes := rfl
def allB (xs : List ItD) : List Int := xs.flatMap ItD.bytes
theorem allB_next {xs : List ItD} {i : Nat} {x : ItD} (h : xs[i]? = some x) : allB (xs.take (i + 1)) = allB (xs.take i) ++ x.bytes := by
  unfold allB
  rw [List.take_add_one, h, List.flatMap_append]
  simp
theorem ok_it {x : ItD} (h : x.Wf) (hg : x.tx.size ≤ 300 ∧ x.ns.length ≤ 60 ∧ x.ks.length ≤ 20) (nv kv : Value) : (x.it nv kv).Ok := ⟨h.ns, h.ks, hg.2.1, hg.1, hg.2.2⟩
theorem allB_len {xs : List ItD} (h : ∀ x ∈ xs, (x.it .nilFunc .nilFunc).Ok) : (allB xs).length ≤ 1300 * xs.length := by
  induction xs with
  | nil => simp [allB]
  | cons x l ih =>
    have h1 := wrB_len (h x (by simp))
    have h2 := ih (fun y hy => h y (by simp [hy]))
    simp only [allB, List.flatMap_cons, List.length_append, List.length_cons, ItD.bytes] at h1 h2 ⊢
    omega
theorem SlK.kys {H G : AH} {F : List Nat} {v : Value} {ks : List (List Int)} (h : SlK 32 .u8 H v ks) (hg : ∀ j, j < H.length → hget G j = hget H j) (hl : H.length ≤ G.length) (hF : ∀ j ∈ F, H.length ≤ j) : KyS G F v ks := fun G' hg' =>
  h.low fun j hj => (hg' j (by omega) (fun hm => by have := hF j hm; omega)).trans (hg j hj)
attribute [local simp] wb_bool wb_undef XL_nil XL_cons XLc_val XLc_call step1_eq stepW_t stepW_f stepC_n stepC_s stepX_s stepX_n stepN_s calleeX oneV xop_eq xopR_s xopR_n wantedA_eq wantedG_n wantedG_s plain1_int plain1_bool plain1_string bits_i64 bits_u64 bits_u32 bits_u16 bits_u8 xeqA xarr allK_iv num_iv calleeOf xread xeff xbin xint xnil xun xstr xload xconv xpart xfield xfieldAddr xindexAddr xindex bnd asInt? xslice xlen xmin xmax xbuild xfill xappend xapp2 xappstr xappmk xcap xcopy xcells eval_tmp eval_const put_at put_none fr0_at cells_agg cells_int cells_bool cells_string cells_ptr cells_slice notTuple tab iv_all hget_app hget_app0 hget_cons0 hget_cons set_app set_app0 setR setR_one QL_nil QL_cons QLc_val stepQ_t stepQ_f stepQC_n stepQC_s stepQX_s SL_nil SL_cons SLc_val stepS_t stepS_f ltT ltF leT leF eqT eqF ltTn ltFn leTn leFn eqTn eqFn beqT beqF bneT bneF wi64 wu64 wu32 wu16 wu8 tmodP tdivP hgetL hgetNe hgetEq setL nums_def nums_len Nat.succ_le_of_lt List.getElem?_cons_zero List.getElem?_cons_succ Option.getD_some Int.toNat_add Int.toNat_mul agB agI agS agP agL agA okB okI okS okP okSl okA
/-- One item of those that came in: its place, its value, and that it stays. -/
theorem item_at {H : AH} {xs : List ItD} {v : Value} (hv : CD.Val H (.sl (xs.map ItD.row)) v) {i : Nat} {x : ItD} (hx : xs[i]? = some x) (hwx : x.Wf) :
    ∃ nv kv pp, xindexAddr Try.prog 22 v (.int .i64 (i : Nat)) = some pp ∧ notTuple pp = true ∧ ∀ {G : AH} {F : List Nat}, Same0 H G → (∀ j ∈ F, H.length ≤ j) → xload Try.prog 33 pp G = some (x.it nv kv).val ∧ ItS G F (x.it nv kv) := by
  obtain ⟨j, b, us, hvj, hb, hbl, hxa, hus, hul, hle, hcell, hval⟩ := val_at (P := Try.prog) (t := 22) (e := 33) (sz := 5) hv (by simp) (by simp) (by omega) (fun row hr => by
    obtain ⟨y, _, rfl⟩ := List.mem_map.1 hr; rfl) (i := i) (row := x.row) (by rw [List.getElem?_map, hx]; rfl)
  obtain ⟨nv, kv, e, hsn, hsk⟩ := item_val hval
  refine ⟨nv, kv, _, hxa, rfl, fun {G F} hs hF => ⟨?_, hsn.sls hs.2 hs.1 hF, (val_keys hwx.ks hsk).kys hs.2 hs.1 hF⟩⟩
  have := load_at (P := Try.prog) (e := 33) (i := i) ((hs.2 j (hget_lt hb)).trans hb) (by simp) (by omega) (by simp) hus hle
  rw [this, e]
  rfl
theorem writes_law {H : AH} {γ : Nat → Option Nat} {ds : List CD} {v : Value} (hok : OkL [CK.sl itK] ds) (hvl : ValL H ds [v]) :
    AC Try.prog H.length γ 3 #[v] H (fun v' H' => v' = .bool true) := by
  obtain ⟨xs, rfl, hw, hm⟩ := items_of hok
  have hv : CD.Val H (.sl (xs.map ItD.row)) v := hvl.2 0 _ _ rfl rfl
  obtain ⟨hnt, hvc⟩ := val_nt hv
  have hxl := val_len (P := Try.prog) (t := 22) (e := 33) hv (by simp)
  rw [List.length_map] at hxl
  simp only [maxLen] at hm
  refine ac_of_aw Try.func3 rfl Try.ntmps3 Try.results3 (by simp) ?_
  refine aw_seq ?_
  (refine aw_ops (by kernel_rfl) (fun K hK => ?_); simp (disch := first | omega | (simp only [List.length_set, List.length_append, List.length_cons, List.length_nil, iv_length, zl_length]; try omega; done)) [-getElem?_pos, -getElem?_neg]; refine hK _ _ ?_; clear hK K)
  refine aw_seq ?_
  refine aw_seq ?_
  refine aw_ops (by kernel_rfl) (fun K hK => ?_)
  simp (disch := first | omega | (simp only [List.length_set, List.length_append, List.length_cons, List.length_nil, iv_length, zl_length]; try omega; done)) [-getElem?_pos, -getElem?_neg]
  refine ⟨by kernel_rfl, (alive_ac (Nat.le_refl _)).mono ?_⟩
  rintro v1 G1 ⟨rfl, s1⟩
  try simp (disch := first | omega | (simp only [List.length_set, List.length_append, List.length_cons, List.length_nil, iv_length, zl_length]; try omega; done)) [-getElem?_pos, -getElem?_neg]
  refine hK _ _ ?_; clear hK K
  refine aw_f (by (first | (simp [eval_tmp, put_at]; done) | (simp [eval_tmp, put_at]; omega))) (by kernel_rfl) ?_
  refine aw_skip ?_
  refine aw_seq ?_
  refine aw_seq ?_
  refine aw_ops (by kernel_rfl) (fun K hK => ?_)
  simp (disch := first | omega | (simp only [List.length_set, List.length_append, List.length_cons, List.length_nil, iv_length, zl_length]; try omega; done)) [-getElem?_pos, -getElem?_neg]
  refine ⟨by kernel_rfl, (great_ac (hv.low s1.2) hm hw).mono ?_⟩
  rintro v2 G2 ⟨rfl, rfl⟩
  try simp (disch := first | omega | (simp only [List.length_set, List.length_append, List.length_cons, List.length_nil, iv_length, zl_length]; try omega; done)) [-getElem?_pos, -getElem?_neg]
  refine hK _ _ ?_; clear hK K
  cases hg : greatB xs with
  | true =>
    refine aw_t (by (first | (simp [eval_tmp, put_at]; done) | (simp [eval_tmp, put_at]; omega))) (by kernel_rfl) ?_
    refine aw_seq ?_
    refine aw_ops (by kernel_rfl) (fun K hK => ?_)
    simp (disch := first | omega | (simp only [List.length_set, List.length_append, List.length_cons, List.length_nil, iv_length, zl_length]; try omega; done)) [-getElem?_pos, -getElem?_neg]
    refine ⟨by kernel_rfl, (alive_ac s1.1).mono ?_⟩
    rintro v3 G3 ⟨rfl, s3⟩
    try simp (disch := first | omega | (simp only [List.length_set, List.length_append, List.length_cons, List.length_nil, iv_length, zl_length]; try omega; done)) [-getElem?_pos, -getElem?_neg]
    refine hK _ _ ?_; clear hK K
    (refine aw_ret ?_; simp (disch := first | omega | (simp only [List.length_set, List.length_append, List.length_cons, List.length_nil, iv_length, zl_length]; try omega; done)) [-getElem?_pos, -getElem?_neg, thenQ_ret, scopeQ_ret, inBlockQ_ret, RQ, resL, resV])
  | false =>
    obtain ⟨hl20, hgx⟩ := not_great hg
    refine aw_f (by (first | (simp [eval_tmp, put_at]; done) | (simp [eval_tmp, put_at]; omega))) (by kernel_rfl) ?_
    refine aw_skip ?_
    refine aw_seq ?_
    (refine aw_ops (by kernel_rfl) (fun K hK => ?_); simp (disch := first | omega | (simp only [List.length_set, List.length_append, List.length_cons, List.length_nil, iv_length, zl_length]; try omega; done)) [-getElem?_pos, -getElem?_neg]; refine hK _ _ ?_; clear hK K)
    have hw0 := wr_new (H := G2) rfl
    obtain ⟨G0, hG0⟩ : ∃ G0, G0 = G2 ++ [some ⟨[.slice none 0 0], 27, none⟩] := ⟨_, rfl⟩
    rw [← hG0] at hw0 ⊢
    have s0 : Same0 H G0 := by rw [hG0]; exact s1.trans (.app _ _)
    obtain ⟨w, hww⟩ : ∃ w, w = G2.length := ⟨_, rfl⟩
    rw [← hww] at hw0 ⊢
    have hwl : H.length ≤ w := by rw [hww]; exact s1.1
    refine aw_seq ?_
    (refine aw_ops (by kernel_rfl) (fun K hK => ?_); simp (disch := first | omega | (simp only [List.length_set, List.length_append, List.length_cons, List.length_nil, iv_length, zl_length]; try omega; done)) [-getElem?_pos, -getElem?_neg]; refine hK _ _ ?_; clear hK K)
    refine aw_seq ?_
    refine aw_seq ?_
    (refine aw_ops (by kernel_rfl) (fun K hK => ?_); simp (disch := first | omega | (simp only [List.length_set, List.length_append, List.length_cons, List.length_nil, iv_length, zl_length]; try omega; done)) [-getElem?_pos, -getElem?_neg]; refine hK _ _ ?_; clear hK K)
    refine aw_cut (fun α G => Same0 H G ∧ α 3 = .pointer (some ⟨w, 0, none⟩) ∧ α 4 = .string (strOfNums (allB xs)) ∧ ∃ F, Wr G w F (allB xs)) ?_ ?_
    case refine_2 =>
      rintro α G ⟨sG, h3, h4, F, hwr⟩
      refine aw_seq ?_
      refine aw_ops (by kernel_rfl) (fun K hK => ?_)
      simp (disch := first | omega | (simp only [List.length_set, List.length_append, List.length_cons, List.length_nil, iv_length, zl_length]; try omega; done)) [-getElem?_pos, -getElem?_neg]
      refine ⟨by kernel_rfl, (alive_ac sG.1).mono ?_⟩
      rintro v3 G3 ⟨rfl, s3⟩
      try simp (disch := first | omega | (simp only [List.length_set, List.length_append, List.length_cons, List.length_nil, iv_length, zl_length]; try omega; done)) [-getElem?_pos, -getElem?_neg, h3]
      have hwr3 := hwr.low (fun j hj => s3.2 j (hwr.lt j hj))
      refine ⟨by kernel_rfl, (wstring_ac hwr3).mono ?_⟩
      rintro v4 G4 ⟨rfl, rfl⟩
      try simp (disch := first | omega | (simp only [List.length_set, List.length_append, List.length_cons, List.length_nil, iv_length, zl_length]; try omega; done)) [-getElem?_pos, -getElem?_neg, h4]
      refine hK _ _ ?_; clear hK K
      (refine aw_ret ?_; simp (disch := first | omega | (simp only [List.length_set, List.length_append, List.length_cons, List.length_nil, iv_length, zl_length]; try omega; done)) [-getElem?_pos, -getElem?_neg, thenQ_ret, scopeQ_ret, inBlockQ_ret, RQ, resL, resV])
    refine aw_block ?_
    refine aw_loop (fun c α G => ∃ i : Nat, i + c = xs.length ∧ α 5 = .int .i64 (i : Nat) ∧ α 0 = v ∧ α 3 = .pointer (some ⟨w, 0, none⟩) ∧ α 4 = .string (strOfNums (allB (xs.take i))) ∧ Same0 H G ∧ ∃ F, Wr G w F (allB (xs.take i)) ∧ ∀ j ∈ F, H.length ≤ j) xs.length ?_ ?_
    · exact ⟨0, by omega, by (first | (simp [put_at, put_none, fr0_at]; done) | rfl), by (first | (simp [put_at, put_none, fr0_at]; done) | rfl), by (first | (simp [put_at, put_none, fr0_at]; done) | rfl), by simp [put_at, allB, sn_nil], s0, [w], by simpa [allB] using hw0, by simp; omega⟩
    rintro c α G ⟨i, hic, h5, h0, h3, h4, sG, F, hwr, hF⟩
    refine aw_seq ?_
    refine aw_seq ?_
    (refine aw_ops (by kernel_rfl) (fun K hK => ?_); simp (disch := first | omega | (simp only [List.length_set, List.length_append, List.length_cons, List.length_nil, iv_length, zl_length]; try omega; done)) [-getElem?_pos, -getElem?_neg, h5, h0, -xlen, hxl]; refine hK _ _ ?_; clear hK K)
    by_cases hi : i < xs.length
    case neg =>
      refine aw_f (by (first | (simp [eval_tmp, put_at, hi]; done) | (simp [eval_tmp, put_at, hi]; omega))) (by kernel_rfl) ?_
      refine aw_exit ?_
      obtain rfl : i = xs.length := by omega
      rw [List.take_length] at h4 hwr
      exact ⟨sG, by (first | (simp [put_at, put_none, fr0_at, h3]; done) | rfl), by (first | (simp [put_at, put_none, fr0_at, h4]; done) | rfl), F, hwr⟩
    refine aw_t (by (first | (simp [eval_tmp, put_at, hi]; done) | (simp [eval_tmp, put_at, hi]; omega))) (by kernel_rfl) ?_
    refine aw_skip ?_
    refine aw_seq ?_
    refine aw_block ?_
    obtain ⟨x, hx⟩ : ∃ x, xs[i]? = some x := ⟨_, List.getElem?_eq_getElem hi⟩
    have hmx := List.mem_of_getElem? hx
    obtain ⟨nv, kv, pp, hpa, hpn, hat⟩ := item_at hv hx (hw x hmx)
    obtain ⟨hpl, hits⟩ := hat sG hF
    have hvn : notTuple (x.it nv kv).val = true := rfl
    have hok1 := ok_it (hw x hmx) (hgx x hmx) nv kv
    have hlen := allB_len (xs := xs.take i) (fun y hy => ok_it (hw y (List.mem_of_mem_take hy)) (hgx y (List.mem_of_mem_take hy)) _ _)
    rw [List.length_take] at hlen
    have hlx := wrB_len hok1
    rw [x.bytes_eq] at hlx
    have hsz : (strOfNums (allB (xs.take i))).size + (strOfNums x.bytes).size ≤ 9223372036854775807 := by rw [sn_size, sn_size]; omega
    have happ : strOfNums (allB (xs.take i)) ++ strOfNums x.bytes = strOfNums (allB (xs.take (i + 1))) := by rw [sn_app, allB_next hx]
    obtain ⟨xv, hxv⟩ : ∃ xv, xv = (x.it nv kv).val := ⟨_, rfl⟩
    rw [← hxv] at hpl hvn
    refine aw_seq ?_
    refine aw_ops (by kernel_rfl) (fun K hK => ?_)
    simp (disch := first | omega | (simp only [List.length_set, List.length_append, List.length_cons, List.length_nil, iv_length, zl_length]; try omega; done)) [-getElem?_pos, -getElem?_neg, h4, h0, h5, h3, -xindexAddr, hpa, -xload, hpl, hpn]
    have hwa := write_ac (γ := γ) (nro := H.length) hwr hF sG.1 hits hok1 (by omega)
    rw [← hxv, x.bytes_eq] at hwa
    refine ⟨by kernel_rfl, hwa.mono ?_⟩
    rintro v1 H1 ⟨rfl, F1, hwr1, hf1⟩
    try simp (disch := first | omega | (simp only [List.length_set, List.length_append, List.length_cons, List.length_nil, iv_length, zl_length]; try omega; done)) [-getElem?_pos, -getElem?_neg, hsz, happ]
    refine hK _ _ ?_; clear hK K
    rw [← allB_next hx] at hwr1
    refine aw_seq ?_
    refine aw_ops (by kernel_rfl) (fun K hK => ?_)
    simp (disch := first | omega | (simp only [List.length_set, List.length_append, List.length_cons, List.length_nil, iv_length, zl_length]; try omega; done)) [-getElem?_pos, -getElem?_neg, h3]
    refine ⟨by kernel_rfl, (wstring_ac hwr1).mono ?_⟩
    rintro v4 G4 ⟨rfl, rfl⟩
    try simp (disch := first | omega | (simp only [List.length_set, List.length_append, List.length_cons, List.length_nil, iv_length, zl_length]; try omega; done)) [-getElem?_pos, -getElem?_neg]
    refine hK _ _ ?_; clear hK K
    refine aw_f (by (first | (simp [eval_tmp, put_at]; done) | (simp [eval_tmp, put_at]; omega))) (by kernel_rfl) ?_
    refine aw_skip ?_
    (refine aw_ops (by kernel_rfl) (fun K hK => ?_); simp (disch := first | omega | (simp only [List.length_set, List.length_append, List.length_cons, List.length_nil, iv_length, zl_length]; try omega; done)) [-getElem?_pos, -getElem?_neg, h5]; refine hK _ _ ?_; clear hK K)
    refine ⟨c - 1, by omega, i + 1, by omega, by (first | (simp [put_at, put_none, fr0_at]; done) | rfl), by (first | (simp [put_at, put_none, fr0_at, h0]; done) | rfl), by (first | (simp [put_at, put_none, fr0_at, h3]; done) | rfl), by (first | (simp [put_at, put_none, fr0_at]; done) | rfl), sG.fr hf1 hF, F1, hwr1, fun j hj => ?_⟩
    rcases hf1.new j hj with h | h
    · exact hF j h
    · have := sG.1; omega
end Go.Proofs.Ytpdijcaikjobiaa
