/-
  onetime.Tag, walked; the document's Join; alive and great.
-/
import Derived.Test.YthkcbhealphpmaaRt
import Derived.Test.YthkcbhealphpmaaXop
namespace Go.Proofs.Ythkcbhealphpmaa
open Go Go.RowKit
set_option linter.unusedVariables false
set_option linter.unusedSimpArgs false
set_option maxRecDepth 1000000
set_option maxHeartbeats 4000000

theorem nums_app (a b : ByteArray) : nums (a ++ b) = nums a ++ nums b := by
  unfold nums
  rw [ByteArray.data_append, Array.toList_append, List.map_append]
theorem set_midA {H A L : AH} {x y : Option Blk} {b : Nat} (hb : b = H.length + A.length) : (H ++ (A ++ x :: L)).set b y = H ++ (A ++ y :: L) := by
  subst hb
  rw [← List.append_assoc, List.set_append_right _ _ (by simp), List.length_append, Nat.sub_self, ← List.append_assoc]
  rfl
/-- Parts read from a slice, wherever it lies. -/
def SlR (H : AH) (v : Value) (ps : List ByteArray) : Prop :=
  (∃ a, v = .slice a 0 0 ∧ ps = []) ∨ ∃ j off k, v = .slice (some ⟨j, off, none⟩) ps.length ps.length ∧ hget H j = some k ∧ ∀ i p, ps[i]? = some p → k.cells[off + i]? = some (.string p)
theorem SlR.sb {H : AH} {v : Value} {ps : List ByteArray} (h : SlR H v ps) (L : AH) {b : Nat} (hb : H.length ≤ b) : SlS (H ++ L) b v ps := by
  rcases h with h | ⟨j, off, k, h1, h2, h3⟩
  · exact .inl h
  · exact .inr ⟨j, off, k, h1, by have := hget_lt h2; omega, hget_left' h2, h3⟩
theorem SlR.app {H : AH} {v : Value} {ps : List ByteArray} (h : SlR H v ps) (L : AH) : SlR (H ++ L) v ps := by
  rcases h with h | ⟨j, off, k, h1, h2, h3⟩
  · exact .inl h
  · exact .inr ⟨j, off, k, h1, hget_left' h2, h3⟩
theorem SlR.low {H H' : AH} {v : Value} {ps : List ByteArray} (h : SlR H v ps) (hl : ∀ j, j < H.length → hget H' j = hget H j) : SlR H' v ps := by
  rcases h with h | ⟨j, off, k, h1, h2, h3⟩
  · exact .inl h
  · exact .inr ⟨j, off, k, h1, by rw [hl j (hget_lt h2)]; exact h2, h3⟩
theorem SlR.len {H : AH} {v : Value} {ps : List ByteArray} (h : SlR H v ps) : xlen Try.prog 24 v = some (.int .i64 ps.length) := by
  rcases h with ⟨a, rfl, rfl⟩ | ⟨j, off, k, rfl, _⟩
  · simp [xlen, tab]
  · simp [xlen, tab]
theorem SlV.r {H : AH} {v : Value} {ps : List ByteArray} (h : SlV H v (ps.map .string)) : SlR H v ps := by
  rcases h with ⟨a, h1, h2⟩ | ⟨j, off, k, h1, h2, h3⟩
  · exact .inl ⟨a, h1, List.map_eq_nil_iff.1 h2⟩
  · exact .inr ⟨j, off, k, by simpa using h1, h2, fun i p hp => h3 i _ (by simp [hp])⟩
theorem SlR.mk1 {H : AH} {j : Nat} {k : Blk} {p : ByteArray} (hj : hget H j = some k) (h : k.cells[0]? = some (.string p)) : SlR H (.slice (some ⟨j, 0, none⟩) 1 1) [p] :=
  .inr ⟨j, 0, k, rfl, hj, fun i q hq => by
    match i, hq with
    | 0, hq => simp at hq; subst hq; exact h
    | i + 1, hq => simp at hq⟩
theorem SlR.mk2 {H : AH} {j : Nat} {k : Blk} {p q : ByteArray} (hj : hget H j = some k) (h : k.cells[0]? = some (.string p)) (h' : k.cells[1]? = some (.string q)) : SlR H (.slice (some ⟨j, 0, none⟩) 2 2) [p, q] :=
  .inr ⟨j, 0, k, rfl, hj, fun i x hq => by
    match i, hq with
    | 0, hq => simp at hq; subst hq; exact h
    | 1, hq => simp at hq; subst hq; exact h'
    | i + 2, hq => simp at hq⟩
theorem half_dv (k : List Int) (hl : k.length = 32) : dv (k.drop 16) = dv ((k.drop 16).take 8) + dv ((k.drop 24).take 8) * 18446744073709551616 := by
  have h := dv_split (l := k.drop 16) (i := 8) (by rw [List.length_drop]; omega)
  rw [List.drop_drop, show (256 : Int) ^ 8 = 18446744073709551616 by decide] at h
  rw [h, List.take_of_length_le (l := k.drop 24) (by rw [List.length_drop]; omega), Int.mul_comm]
theorem half_bd {k : List Int} (hk : By k) (i : Nat) : 0 ≤ dv ((k.drop i).take 8) ∧ dv ((k.drop i).take 8) < 18446744073709551616 := by
  have h := dv_bd ((hk.drop i).take 8)
  have h2 := pow_le' (show ((k.drop i).take 8).length ≤ 8 by rw [List.length_take]; omega)
  rw [show (256 : Int) ^ 8 = 18446744073709551616 by decide] at h2
  omega
/-- The tag of a text. -/
def tg (k : List Int) (T : List Int) : ByteArray := strOfNums (tagB (tagV (dv (clL k)) (dv (k.drop 16)) T))
theorem tg_size (k T : List Int) : (tg k T).size = 16 := by unfold tg; rw [strOfNums_size, tagB_len]
attribute [local irreducible] dv clL ac blk tagB tagV pcells
/-- A tag under way, told: of the key and the text. -/
def Poly (H : AH) (b : Nat) (k T : List Int) : Prop := ∃ r s rs o, Nm r ∧ v5 r = dv (clL k) ∧ PS r T s rs o ∧ hget H b = some ⟨pcells r s (dv ((k.drop 16).take 8)) (dv ((k.drop 24).take 8)) rs (o : Nat), 52, none⟩
theorem Poly.low {H H' : AH} {b : Nat} {k T : List Int} (h : Poly H b k T) (he : hget H' b = hget H b) : Poly H' b k T := by
  obtain ⟨r, s, rs, o, h1, h2, h3, h4⟩ := h
  exact ⟨r, s, rs, o, h1, h2, h3, by rw [he]; exact h4⟩
theorem Poly.lt {H : AH} {b : Nat} {k T : List Int} (h : Poly H b k T) : b < H.length := by
  obtain ⟨r, s, rs, o, h1, h2, h3, h4⟩ := h
  exact hget_lt h4
theorem new_p {nro : Nat} {γ : Nat → Option Nat} {H : AH} {k : List Int} (hk : By k) (hlk : k.length = 32) (hn : nro ≤ H.length) : AC Try.prog nro γ 13 #[.agg (iv .u8 k).toArray] H (fun v' H' => v' = .pointer (some ⟨H.length + 2, 0, none⟩) ∧ Poly H' (H.length + 2) k [] ∧ Low H.length H H' ∧ H'.length = H.length + 3) := by
  obtain ⟨r, h1, h2, h3⟩ := new_ac hlk hk
  refine (h3 nro γ H hn).mono ?_
  rintro v' H' ⟨rfl, rfl⟩
  refine ⟨rfl, ⟨r, _, _, 0, h1, h2, PS.start r, by rw [hget_app]; rfl⟩, Low.push (Nat.le_refl _) _, by simp⟩
theorem write_p {nro : Nat} {γ : Nat → Option Nat} {H : AH} {b : Nat} {k T : List Int} (hp : Poly H b k T) (hn : nro ≤ b) (ps : List ByteArray) (v : Value) (hv : SlS H b v ps) (hlen : ps.length ≤ 4611686018427387904) :
    AC Try.prog nro γ 15 #[.pointer (some ⟨b, 0, none⟩), v] H (fun v' H' => Poly H' b k (T ++ cat ps) ∧ (∀ j, j < H.length → j ≠ b → hget H' j = hget H j) ∧ H.length ≤ H'.length) := by
  have hbl := hp.lt
  obtain ⟨r, s, rs, o, h1, h2, h3, h4⟩ := hp
  refine (write_ac h1 h3 (by omega) b hn _ h4 ps v hv hlen).mono ?_
  rintro v' H' ⟨s', rs', o', L, hP, rfl⟩
  refine ⟨⟨r, s', rs', o', h1, h2, hP, by rw [hget_left (by simp; omega), hget_set_eq hbl]⟩, fun j hj hjb => by rw [hget_left (by simp; omega), hget_set_ne (Ne.symm hjb)], by simp⟩
theorem tag_p {nro : Nat} {γ : Nat → Option Nat} {H : AH} {b : Nat} {k T : List Int} (hk : By k) (hlk : k.length = 32) (hp : Poly H b k T) (hn : nro ≤ H.length) :
    AC Try.prog nro γ 14 #[.pointer (some ⟨b, 0, none⟩)] H (fun v' H' => v' = .string (tg k T) ∧ Low H.length H H') := by
  obtain ⟨r, s, rs, o, h1, h2, h3, h4⟩ := hp
  refine (tagm_ac h1 h3 (half_bd hk 16) (half_bd hk 24) hn b _ h4).mono ?_
  rintro v' H' ⟨rfl, L, rfl⟩
  refine ⟨by unfold tg; rw [h2, half_dv k hlk], Low.push (Nat.le_refl _) _⟩
theorem tag_rc {H : AH} {γ : Nat → Option Nat} {k : List Int} (hk : By k) (hlk : k.length = 32) (ps : List ByteArray) (v : Value) (hv : SlR H v ps) (hlen : ps.length ≤ 4611686018427387904) :
    AC Try.prog H.length γ 10 #[.agg (iv .u8 k).toArray, v] H (fun v' _ => v' = .string (tg k (cat ps))) := by
  have htk : (iv .u8 k).take 32 = iv .u8 k := List.take_of_length_le (by simp [hlk])
  refine ac_of_aw Try.func10 rfl Try.ntmps10 Try.results10 (by simp) ?_
  refine aw_seq ?_
  (refine aw_ops (by kernel_rfl) (fun K hK => ?_); simp (disch := first | omega | (simp only [List.length_set, List.length_append, List.length_cons, List.length_nil, iv_length, zl_length]; done) | (simp only [List.length_set, List.length_append, List.length_cons, List.length_nil, iv_length, zl_length]; omega)) [wb_bool, wb_undef, XL_nil, XL_cons, XLc_val, XLc_call, step1_eq, stepW_t, stepW_f, stepC_n, stepC_s, stepX_s, xop_eq, xopR_s, xopR_n, wantedA_eq, wantedG_n, wantedG_s, plain1_int, plain1_bool, plain1_string, bits_i64, bits_u64, bits_u32, bits_u16, bits_u8, xeqA, xarr, allK_iv, num_iv, calleeOf, xread, xeff, xbin, xint, xnil, xun, xstr, xload, xconv, xpart, xfield, xfieldAddr, xindexAddr, xindex, bnd, asInt?, xslice, xlen, xmin, xmax, xbuild, xfill, xappend, xcopy, xcells, eval_tmp, eval_const, put_at, put_none, fr0_at, cells_agg, cells_int, cells_bool, cells_string, cells_ptr, cells_slice, notTuple, tab, iv_all, hget_app, hget_app0, hget_cons0, hget_cons, set_app, set_app0, setR, setR_one, QL_nil, QL_cons, QLc_val, stepQ_t, stepQ_f, stepQC_n, stepQC_s, stepQX_s, SL_nil, SL_cons, SLc_val, stepS_t, stepS_f, ltT, ltF, leT, leF, eqT, eqF, ltTn, ltFn, leTn, leFn, eqTn, eqFn, beqT, beqF, bneT, bneF, wi64, wu64, wu32, wu16, wu8, tmodP, tdivP, hgetL, hgetNe, hgetEq, setL, nums_def, nums_len, Nat.succ_le_of_lt, List.getElem?_cons_zero, List.getElem?_cons_succ, Option.getD_some, -getElem?_pos, -getElem?_neg, Int.toNat_add, Int.toNat_mul, agB, agI, agS, agP, agL, agA, okB, okI, okS, okP, okSl, okA]; refine hK _ _ ?_; clear hK K)
  refine aw_seq ?_
  refine aw_ops (by kernel_rfl) (fun K hK => ?_)
  simp (disch := first | omega | (simp only [List.length_set, List.length_append, List.length_cons, List.length_nil, iv_length, zl_length]; done) | (simp only [List.length_set, List.length_append, List.length_cons, List.length_nil, iv_length, zl_length]; omega)) [wb_bool, wb_undef, XL_nil, XL_cons, XLc_val, XLc_call, step1_eq, stepW_t, stepW_f, stepC_n, stepC_s, stepX_s, xop_eq, xopR_s, xopR_n, wantedA_eq, wantedG_n, wantedG_s, plain1_int, plain1_bool, plain1_string, bits_i64, bits_u64, bits_u32, bits_u16, bits_u8, xeqA, xarr, allK_iv, num_iv, calleeOf, xread, xeff, xbin, xint, xnil, xun, xstr, xload, xconv, xpart, xfield, xfieldAddr, xindexAddr, xindex, bnd, asInt?, xslice, xlen, xmin, xmax, xbuild, xfill, xappend, xcopy, xcells, eval_tmp, eval_const, put_at, put_none, fr0_at, cells_agg, cells_int, cells_bool, cells_string, cells_ptr, cells_slice, notTuple, tab, iv_all, hget_app, hget_app0, hget_cons0, hget_cons, set_app, set_app0, setR, setR_one, QL_nil, QL_cons, QLc_val, stepQ_t, stepQ_f, stepQC_n, stepQC_s, stepQX_s, SL_nil, SL_cons, SLc_val, stepS_t, stepS_f, hlk, htk, ltT, ltF, leT, leF, eqT, eqF, ltTn, ltFn, leTn, leFn, eqTn, eqFn, beqT, beqF, bneT, bneF, wi64, wu64, wu32, wu16, wu8, tmodP, tdivP, hgetL, hgetNe, hgetEq, setL, nums_def, nums_len, Nat.succ_le_of_lt, List.getElem?_cons_zero, List.getElem?_cons_succ, Option.getD_some, -getElem?_pos, -getElem?_neg, Int.toNat_add, Int.toNat_mul, agB, agI, agS, agP, agL, agA, okB, okI, okS, okP, okSl, okA]
  refine ⟨by kernel_rfl, AC.mono (new_p hk hlk (by simp)) ?_⟩
  rintro v1 H1 ⟨rfl, hp, hl, hH1⟩
  try simp (disch := first | omega | (simp only [List.length_set, List.length_append, List.length_cons, List.length_nil, iv_length, zl_length]; done) | (simp only [List.length_set, List.length_append, List.length_cons, List.length_nil, iv_length, zl_length]; omega)) [wb_bool, wb_undef, XL_nil, XL_cons, XLc_val, XLc_call, step1_eq, stepW_t, stepW_f, stepC_n, stepC_s, stepX_s, xop_eq, xopR_s, xopR_n, wantedA_eq, wantedG_n, wantedG_s, plain1_int, plain1_bool, plain1_string, bits_i64, bits_u64, bits_u32, bits_u16, bits_u8, xeqA, xarr, allK_iv, num_iv, calleeOf, xread, xeff, xbin, xint, xnil, xun, xstr, xload, xconv, xpart, xfield, xfieldAddr, xindexAddr, xindex, bnd, asInt?, xslice, xlen, xmin, xmax, xbuild, xfill, xappend, xcopy, xcells, eval_tmp, eval_const, put_at, put_none, fr0_at, cells_agg, cells_int, cells_bool, cells_string, cells_ptr, cells_slice, notTuple, tab, iv_all, hget_app, hget_app0, hget_cons0, hget_cons, set_app, set_app0, setR, setR_one, QL_nil, QL_cons, QLc_val, stepQ_t, stepQ_f, stepQC_n, stepQC_s, stepQX_s, SL_nil, SL_cons, SLc_val, stepS_t, stepS_f, ltT, ltF, leT, leF, eqT, eqF, ltTn, ltFn, leTn, leFn, eqTn, eqFn, beqT, beqF, bneT, bneF, wi64, wu64, wu32, wu16, wu8, tmodP, tdivP, hgetL, hgetNe, hgetEq, setL, nums_def, nums_len, Nat.succ_le_of_lt, List.getElem?_cons_zero, List.getElem?_cons_succ, Option.getD_some, -getElem?_pos, -getElem?_neg, Int.toNat_add, Int.toNat_mul, agB, agI, agS, agP, agL, agA, okB, okI, okS, okP, okSl, okA]
  refine hK _ _ ?_; clear hK K
  simp only [List.length_append, List.length_cons, List.length_nil] at hl hp hH1 ⊢
  have hvL := hv.low (H' := H1) fun j hj => by rw [hl.1 j (by omega), hget_left hj]
  have hvS : SlS H1 (H.length + 3) v ps := by
    rcases hvL with h | ⟨j, off, kk, e1, e2, e3⟩
    · exact .inl h
    · rcases hv with h | ⟨j', off', k', e1', e2', e3'⟩
      · exact .inl h
      · have := hget_lt e2'
        refine .inr ⟨j', off', k', e1', by omega, by rw [hl.1 j' (by omega), hget_left this]; exact e2', e3'⟩
  refine aw_seq ?_
  refine aw_ops (by kernel_rfl) (fun K hK => ?_)
  simp (disch := first | omega | (simp only [List.length_set, List.length_append, List.length_cons, List.length_nil, iv_length, zl_length]; done) | (simp only [List.length_set, List.length_append, List.length_cons, List.length_nil, iv_length, zl_length]; omega)) [wb_bool, wb_undef, XL_nil, XL_cons, XLc_val, XLc_call, step1_eq, stepW_t, stepW_f, stepC_n, stepC_s, stepX_s, xop_eq, xopR_s, xopR_n, wantedA_eq, wantedG_n, wantedG_s, plain1_int, plain1_bool, plain1_string, bits_i64, bits_u64, bits_u32, bits_u16, bits_u8, xeqA, xarr, allK_iv, num_iv, calleeOf, xread, xeff, xbin, xint, xnil, xun, xstr, xload, xconv, xpart, xfield, xfieldAddr, xindexAddr, xindex, bnd, asInt?, xslice, xlen, xmin, xmax, xbuild, xfill, xappend, xcopy, xcells, eval_tmp, eval_const, put_at, put_none, fr0_at, cells_agg, cells_int, cells_bool, cells_string, cells_ptr, cells_slice, notTuple, tab, iv_all, hget_app, hget_app0, hget_cons0, hget_cons, set_app, set_app0, setR, setR_one, QL_nil, QL_cons, QLc_val, stepQ_t, stepQ_f, stepQC_n, stepQC_s, stepQX_s, SL_nil, SL_cons, SLc_val, stepS_t, stepS_f, ltT, ltF, leT, leF, eqT, eqF, ltTn, ltFn, leTn, leFn, eqTn, eqFn, beqT, beqF, bneT, bneF, wi64, wu64, wu32, wu16, wu8, tmodP, tdivP, hgetL, hgetNe, hgetEq, setL, nums_def, nums_len, Nat.succ_le_of_lt, List.getElem?_cons_zero, List.getElem?_cons_succ, Option.getD_some, -getElem?_pos, -getElem?_neg, Int.toNat_add, Int.toNat_mul, agB, agI, agS, agP, agL, agA, okB, okI, okS, okP, okSl, okA]
  refine ⟨by kernel_rfl, AC.mono (write_p hp (by omega) ps v hvS hlen) ?_⟩
  rintro v2 H2 ⟨hp2, _, hl2⟩
  try simp (disch := first | omega | (simp only [List.length_set, List.length_append, List.length_cons, List.length_nil, iv_length, zl_length]; done) | (simp only [List.length_set, List.length_append, List.length_cons, List.length_nil, iv_length, zl_length]; omega)) [wb_bool, wb_undef, XL_nil, XL_cons, XLc_val, XLc_call, step1_eq, stepW_t, stepW_f, stepC_n, stepC_s, stepX_s, xop_eq, xopR_s, xopR_n, wantedA_eq, wantedG_n, wantedG_s, plain1_int, plain1_bool, plain1_string, bits_i64, bits_u64, bits_u32, bits_u16, bits_u8, xeqA, xarr, allK_iv, num_iv, calleeOf, xread, xeff, xbin, xint, xnil, xun, xstr, xload, xconv, xpart, xfield, xfieldAddr, xindexAddr, xindex, bnd, asInt?, xslice, xlen, xmin, xmax, xbuild, xfill, xappend, xcopy, xcells, eval_tmp, eval_const, put_at, put_none, fr0_at, cells_agg, cells_int, cells_bool, cells_string, cells_ptr, cells_slice, notTuple, tab, iv_all, hget_app, hget_app0, hget_cons0, hget_cons, set_app, set_app0, setR, setR_one, QL_nil, QL_cons, QLc_val, stepQ_t, stepQ_f, stepQC_n, stepQC_s, stepQX_s, SL_nil, SL_cons, SLc_val, stepS_t, stepS_f, ltT, ltF, leT, leF, eqT, eqF, ltTn, ltFn, leTn, leFn, eqTn, eqFn, beqT, beqF, bneT, bneF, wi64, wu64, wu32, wu16, wu8, tmodP, tdivP, hgetL, hgetNe, hgetEq, setL, nums_def, nums_len, Nat.succ_le_of_lt, List.getElem?_cons_zero, List.getElem?_cons_succ, Option.getD_some, -getElem?_pos, -getElem?_neg, Int.toNat_add, Int.toNat_mul, agB, agI, agS, agP, agL, agA, okB, okI, okS, okP, okSl, okA]
  refine hK _ _ ?_; clear hK K
  rw [List.nil_append] at hp2
  refine aw_seq ?_
  refine aw_ops (by kernel_rfl) (fun K hK => ?_)
  simp (disch := first | omega | (simp only [List.length_set, List.length_append, List.length_cons, List.length_nil, iv_length, zl_length]; done) | (simp only [List.length_set, List.length_append, List.length_cons, List.length_nil, iv_length, zl_length]; omega)) [wb_bool, wb_undef, XL_nil, XL_cons, XLc_val, XLc_call, step1_eq, stepW_t, stepW_f, stepC_n, stepC_s, stepX_s, xop_eq, xopR_s, xopR_n, wantedA_eq, wantedG_n, wantedG_s, plain1_int, plain1_bool, plain1_string, bits_i64, bits_u64, bits_u32, bits_u16, bits_u8, xeqA, xarr, allK_iv, num_iv, calleeOf, xread, xeff, xbin, xint, xnil, xun, xstr, xload, xconv, xpart, xfield, xfieldAddr, xindexAddr, xindex, bnd, asInt?, xslice, xlen, xmin, xmax, xbuild, xfill, xappend, xcopy, xcells, eval_tmp, eval_const, put_at, put_none, fr0_at, cells_agg, cells_int, cells_bool, cells_string, cells_ptr, cells_slice, notTuple, tab, iv_all, hget_app, hget_app0, hget_cons0, hget_cons, set_app, set_app0, setR, setR_one, QL_nil, QL_cons, QLc_val, stepQ_t, stepQ_f, stepQC_n, stepQC_s, stepQX_s, SL_nil, SL_cons, SLc_val, stepS_t, stepS_f, ltT, ltF, leT, leF, eqT, eqF, ltTn, ltFn, leTn, leFn, eqTn, eqFn, beqT, beqF, bneT, bneF, wi64, wu64, wu32, wu16, wu8, tmodP, tdivP, hgetL, hgetNe, hgetEq, setL, nums_def, nums_len, Nat.succ_le_of_lt, List.getElem?_cons_zero, List.getElem?_cons_succ, Option.getD_some, -getElem?_pos, -getElem?_neg, Int.toNat_add, Int.toNat_mul, agB, agI, agS, agP, agL, agA, okB, okI, okS, okP, okSl, okA]
  refine ⟨by kernel_rfl, AC.mono (tag_p hk hlk hp2 (by omega)) ?_⟩
  rintro v3 H3 ⟨rfl, _⟩
  try simp (disch := first | omega | (simp only [List.length_set, List.length_append, List.length_cons, List.length_nil, iv_length, zl_length]; done) | (simp only [List.length_set, List.length_append, List.length_cons, List.length_nil, iv_length, zl_length]; omega)) [wb_bool, wb_undef, XL_nil, XL_cons, XLc_val, XLc_call, step1_eq, stepW_t, stepW_f, stepC_n, stepC_s, stepX_s, xop_eq, xopR_s, xopR_n, wantedA_eq, wantedG_n, wantedG_s, plain1_int, plain1_bool, plain1_string, bits_i64, bits_u64, bits_u32, bits_u16, bits_u8, xeqA, xarr, allK_iv, num_iv, calleeOf, xread, xeff, xbin, xint, xnil, xun, xstr, xload, xconv, xpart, xfield, xfieldAddr, xindexAddr, xindex, bnd, asInt?, xslice, xlen, xmin, xmax, xbuild, xfill, xappend, xcopy, xcells, eval_tmp, eval_const, put_at, put_none, fr0_at, cells_agg, cells_int, cells_bool, cells_string, cells_ptr, cells_slice, notTuple, tab, iv_all, hget_app, hget_app0, hget_cons0, hget_cons, set_app, set_app0, setR, setR_one, QL_nil, QL_cons, QLc_val, stepQ_t, stepQ_f, stepQC_n, stepQC_s, stepQX_s, SL_nil, SL_cons, SLc_val, stepS_t, stepS_f, ltT, ltF, leT, leF, eqT, eqF, ltTn, ltFn, leTn, leFn, eqTn, eqFn, beqT, beqF, bneT, bneF, wi64, wu64, wu32, wu16, wu8, tmodP, tdivP, hgetL, hgetNe, hgetEq, setL, nums_def, nums_len, Nat.succ_le_of_lt, List.getElem?_cons_zero, List.getElem?_cons_succ, Option.getD_some, -getElem?_pos, -getElem?_neg, Int.toNat_add, Int.toNat_mul, agB, agI, agS, agP, agL, agA, okB, okI, okS, okP, okSl, okA]
  refine hK _ _ ?_; clear hK K
  (refine aw_ret ?_; simp (disch := first | omega | (simp only [List.length_set, List.length_append, List.length_cons, List.length_nil, iv_length, zl_length]; done) | (simp only [List.length_set, List.length_append, List.length_cons, List.length_nil, iv_length, zl_length]; omega)) [wb_bool, wb_undef, XL_nil, XL_cons, XLc_val, XLc_call, step1_eq, stepW_t, stepW_f, stepC_n, stepC_s, stepX_s, xop_eq, xopR_s, xopR_n, wantedA_eq, wantedG_n, wantedG_s, plain1_int, plain1_bool, plain1_string, bits_i64, bits_u64, bits_u32, bits_u16, bits_u8, xeqA, xarr, allK_iv, num_iv, calleeOf, xread, xeff, xbin, xint, xnil, xun, xstr, xload, xconv, xpart, xfield, xfieldAddr, xindexAddr, xindex, bnd, asInt?, xslice, xlen, xmin, xmax, xbuild, xfill, xappend, xcopy, xcells, eval_tmp, eval_const, put_at, put_none, fr0_at, cells_agg, cells_int, cells_bool, cells_string, cells_ptr, cells_slice, notTuple, tab, iv_all, hget_app, hget_app0, hget_cons0, hget_cons, set_app, set_app0, setR, setR_one, QL_nil, QL_cons, QLc_val, stepQ_t, stepQ_f, stepQC_n, stepQC_s, stepQX_s, SL_nil, SL_cons, SLc_val, stepS_t, stepS_f, thenQ_ret, inBlockQ_ret, RQ, resL, resV, ltT, ltF, leT, leF, eqT, eqF, ltTn, ltFn, leTn, leFn, eqTn, eqFn, beqT, beqF, bneT, bneF, wi64, wu64, wu32, wu16, wu8, tmodP, tdivP, hgetL, hgetNe, hgetEq, setL, nums_def, nums_len, Nat.succ_le_of_lt, List.getElem?_cons_zero, List.getElem?_cons_succ, Option.getD_some, -getElem?_pos, -getElem?_neg, Int.toNat_add, Int.toNat_mul, agB, agI, agS, agP, agL, agA, okB, okI, okS, okP, okSl, okA])
theorem join_rc {H : AH} {γ : Nat → Option Nat} (ps : List ByteArray) (v : Value) (hv : SlR H v ps) (hs : (cat ps).length ≤ 1000000000000) (hl : ps.length ≤ 1000000000000) : AC Try.prog H.length γ 12 #[v] H (fun v' _ => v' = .string (strOfNums (cat ps))) := by
  refine ac_of_aw Try.func12 rfl Try.ntmps12 Try.results12 (by simp) ?_
  have hxl := hv.len
  refine aw_seq ?_
  (refine aw_ops (by kernel_rfl) (fun K hK => ?_); simp (disch := first | omega | (simp only [List.length_set, List.length_append, List.length_cons, List.length_nil, iv_length, zl_length]; done) | (simp only [List.length_set, List.length_append, List.length_cons, List.length_nil, iv_length, zl_length]; omega)) [wb_bool, wb_undef, XL_nil, XL_cons, XLc_val, XLc_call, step1_eq, stepW_t, stepW_f, stepC_n, stepC_s, stepX_s, xop_eq, xopR_s, xopR_n, wantedA_eq, wantedG_n, wantedG_s, plain1_int, plain1_bool, plain1_string, bits_i64, bits_u64, bits_u32, bits_u16, bits_u8, xeqA, xarr, allK_iv, num_iv, calleeOf, xread, xeff, xbin, xint, xnil, xun, xstr, xload, xconv, xpart, xfield, xfieldAddr, xindexAddr, xindex, bnd, asInt?, xslice, xlen, xmin, xmax, xbuild, xfill, xappend, xcopy, xcells, eval_tmp, eval_const, put_at, put_none, fr0_at, cells_agg, cells_int, cells_bool, cells_string, cells_ptr, cells_slice, notTuple, tab, iv_all, hget_app, hget_app0, hget_cons0, hget_cons, set_app, set_app0, setR, setR_one, QL_nil, QL_cons, QLc_val, stepQ_t, stepQ_f, stepQC_n, stepQC_s, stepQX_s, SL_nil, SL_cons, SLc_val, stepS_t, stepS_f, ltT, ltF, leT, leF, eqT, eqF, ltTn, ltFn, leTn, leFn, eqTn, eqFn, beqT, beqF, bneT, bneF, wi64, wu64, wu32, wu16, wu8, tmodP, tdivP, hgetL, hgetNe, hgetEq, setL, nums_def, nums_len, Nat.succ_le_of_lt, List.getElem?_cons_zero, List.getElem?_cons_succ, Option.getD_some, -getElem?_pos, -getElem?_neg, Int.toNat_add, Int.toNat_mul, agB, agI, agS, agP, agL, agA, okB, okI, okS, okP, okSl, okA]; refine hK _ _ ?_; clear hK K)
  refine aw_seq ?_
  (refine aw_ops (by kernel_rfl) (fun K hK => ?_); simp (disch := first | omega | (simp only [List.length_set, List.length_append, List.length_cons, List.length_nil, iv_length, zl_length]; done) | (simp only [List.length_set, List.length_append, List.length_cons, List.length_nil, iv_length, zl_length]; omega)) [wb_bool, wb_undef, XL_nil, XL_cons, XLc_val, XLc_call, step1_eq, stepW_t, stepW_f, stepC_n, stepC_s, stepX_s, xop_eq, xopR_s, xopR_n, wantedA_eq, wantedG_n, wantedG_s, plain1_int, plain1_bool, plain1_string, bits_i64, bits_u64, bits_u32, bits_u16, bits_u8, xeqA, xarr, allK_iv, num_iv, calleeOf, xread, xeff, xbin, xint, xnil, xun, xstr, xload, xconv, xpart, xfield, xfieldAddr, xindexAddr, xindex, bnd, asInt?, xslice, xlen, xmin, xmax, xbuild, xfill, xappend, xcopy, xcells, eval_tmp, eval_const, put_at, put_none, fr0_at, cells_agg, cells_int, cells_bool, cells_string, cells_ptr, cells_slice, notTuple, tab, iv_all, hget_app, hget_app0, hget_cons0, hget_cons, set_app, set_app0, setR, setR_one, QL_nil, QL_cons, QLc_val, stepQ_t, stepQ_f, stepQC_n, stepQC_s, stepQX_s, SL_nil, SL_cons, SLc_val, stepS_t, stepS_f, ltT, ltF, leT, leF, eqT, eqF, ltTn, ltFn, leTn, leFn, eqTn, eqFn, beqT, beqF, bneT, bneF, wi64, wu64, wu32, wu16, wu8, tmodP, tdivP, hgetL, hgetNe, hgetEq, setL, nums_def, nums_len, Nat.succ_le_of_lt, List.getElem?_cons_zero, List.getElem?_cons_succ, Option.getD_some, -getElem?_pos, -getElem?_neg, Int.toNat_add, Int.toNat_mul, agB, agI, agS, agP, agL, agA, okB, okI, okS, okP, okSl, okA]; refine hK _ _ ?_; clear hK K)
  refine aw_seq ?_
  refine aw_seq ?_
  (refine aw_ops (by kernel_rfl) (fun K hK => ?_); simp (disch := first | omega | (simp only [List.length_set, List.length_append, List.length_cons, List.length_nil, iv_length, zl_length]; done) | (simp only [List.length_set, List.length_append, List.length_cons, List.length_nil, iv_length, zl_length]; omega)) [wb_bool, wb_undef, XL_nil, XL_cons, XLc_val, XLc_call, step1_eq, stepW_t, stepW_f, stepC_n, stepC_s, stepX_s, xop_eq, xopR_s, xopR_n, wantedA_eq, wantedG_n, wantedG_s, plain1_int, plain1_bool, plain1_string, bits_i64, bits_u64, bits_u32, bits_u16, bits_u8, xeqA, xarr, allK_iv, num_iv, calleeOf, xread, xeff, xbin, xint, xnil, xun, xstr, xload, xconv, xpart, xfield, xfieldAddr, xindexAddr, xindex, bnd, asInt?, xslice, xlen, xmin, xmax, xbuild, xfill, xappend, xcopy, xcells, eval_tmp, eval_const, put_at, put_none, fr0_at, cells_agg, cells_int, cells_bool, cells_string, cells_ptr, cells_slice, notTuple, tab, iv_all, hget_app, hget_app0, hget_cons0, hget_cons, set_app, set_app0, setR, setR_one, QL_nil, QL_cons, QLc_val, stepQ_t, stepQ_f, stepQC_n, stepQC_s, stepQX_s, SL_nil, SL_cons, SLc_val, stepS_t, stepS_f, ltT, ltF, leT, leF, eqT, eqF, ltTn, ltFn, leTn, leFn, eqTn, eqFn, beqT, beqF, bneT, bneF, wi64, wu64, wu32, wu16, wu8, tmodP, tdivP, hgetL, hgetNe, hgetEq, setL, nums_def, nums_len, Nat.succ_le_of_lt, List.getElem?_cons_zero, List.getElem?_cons_succ, Option.getD_some, -getElem?_pos, -getElem?_neg, Int.toNat_add, Int.toNat_mul, agB, agI, agS, agP, agL, agA, okB, okI, okS, okP, okSl, okA]; refine hK _ _ ?_; clear hK K)
  refine aw_block ?_
  refine aw_loop (fun q α H' => ∃ (i : Nat) (t : ByteArray), i + q = ps.length ∧ nums t ++ cat (ps.drop i) = cat ps ∧ α 4 = .int .i64 (i : Nat) ∧ α 3 = .string t ∧ α 0 = v ∧ H' = H) ps.length ?_ ?_
  · refine ⟨0, ByteArray.empty, by omega, rfl, by (first | (simp [put_at, put_none, fr0_at]; done) | rfl), by (first | (simp [put_at, put_none, fr0_at]; done) | rfl), by (first | (simp [put_at, put_none, fr0_at]; done) | rfl), rfl⟩
  rintro q α H' ⟨i, t, hi, ht, h4, h3, h0, rfl⟩
  refine aw_seq ?_
  refine aw_seq ?_
  (refine aw_ops (by kernel_rfl) (fun K hK => ?_); simp (disch := first | omega | (simp only [List.length_set, List.length_append, List.length_cons, List.length_nil, iv_length, zl_length]; done) | (simp only [List.length_set, List.length_append, List.length_cons, List.length_nil, iv_length, zl_length]; omega)) [wb_bool, wb_undef, XL_nil, XL_cons, XLc_val, XLc_call, step1_eq, stepW_t, stepW_f, stepC_n, stepC_s, stepX_s, xop_eq, xopR_s, xopR_n, wantedA_eq, wantedG_n, wantedG_s, plain1_int, plain1_bool, plain1_string, bits_i64, bits_u64, bits_u32, bits_u16, bits_u8, xeqA, xarr, allK_iv, num_iv, calleeOf, xread, xeff, xbin, xint, xnil, xun, xstr, xload, xconv, xpart, xfield, xfieldAddr, xindexAddr, xindex, bnd, asInt?, xslice, xmin, xmax, xbuild, xfill, xappend, xcopy, xcells, eval_tmp, eval_const, put_at, put_none, fr0_at, cells_agg, cells_int, cells_bool, cells_string, cells_ptr, cells_slice, notTuple, tab, iv_all, hget_app, hget_app0, hget_cons0, hget_cons, set_app, set_app0, setR, setR_one, QL_nil, QL_cons, QLc_val, stepQ_t, stepQ_f, stepQC_n, stepQC_s, stepQX_s, SL_nil, SL_cons, SLc_val, stepS_t, stepS_f, h4, h0, hxl, ltT, ltF, leT, leF, eqT, eqF, ltTn, ltFn, leTn, leFn, eqTn, eqFn, beqT, beqF, bneT, bneF, wi64, wu64, wu32, wu16, wu8, tmodP, tdivP, hgetL, hgetNe, hgetEq, setL, nums_def, nums_len, Nat.succ_le_of_lt, List.getElem?_cons_zero, List.getElem?_cons_succ, Option.getD_some, -getElem?_pos, -getElem?_neg, Int.toNat_add, Int.toNat_mul, agB, agI, agS, agP, agL, agA, okB, okI, okS, okP, okSl, okA]; refine hK _ _ ?_; clear hK K)
  by_cases hlt : (i : Int) < ps.length
  · refine aw_t (by (first | (simp [eval_tmp, put_at, hlt]; done) | (simp [eval_tmp, put_at, hlt]; omega))) (by kernel_rfl) ?_
    refine aw_skip ?_
    refine aw_seq ?_
    refine aw_block ?_
    have hi' : i < ps.length := by omega
    rcases hv with ⟨a, rfl, rfl⟩ | ⟨j, off, k, rfl, hj, hk⟩
    · simp at hi'
    have hki := hk i ps[i] (List.getElem?_eq_getElem hi')
    rw [List.drop_eq_getElem_cons hi'] at ht
    obtain ⟨pt, hpt⟩ : ∃ p, p = ps[i] := ⟨_, rfl⟩
    rw [← hpt] at ht hki
    have hsz : t.size + pt.size ≤ 1000000000000 := by
      have := congrArg List.length ht
      rw [show cat (pt :: ps.drop (i + 1)) = nums pt ++ cat (ps.drop (i + 1)) from rfl] at this
      simp only [List.length_append, nums_len] at this
      omega
    (refine aw_ops (by kernel_rfl) (fun K hK => ?_); simp (disch := first | omega | (simp only [List.length_set, List.length_append, List.length_cons, List.length_nil, iv_length, zl_length]; done) | (simp only [List.length_set, List.length_append, List.length_cons, List.length_nil, iv_length, zl_length]; omega)) [wb_bool, wb_undef, XL_nil, XL_cons, XLc_val, XLc_call, step1_eq, stepW_t, stepW_f, stepC_n, stepC_s, stepX_s, xop_eq, xopR_s, xopR_n, wantedA_eq, wantedG_n, wantedG_s, plain1_int, plain1_bool, plain1_string, bits_i64, bits_u64, bits_u32, bits_u16, bits_u8, xeqA, xarr, allK_iv, num_iv, calleeOf, xread, xeff, xbin, xint, xnil, xun, xstr, xload, xconv, xpart, xfield, xfieldAddr, xindexAddr, xindex, bnd, asInt?, xslice, xlen, xmin, xmax, xbuild, xfill, xappend, xcopy, xcells, eval_tmp, eval_const, put_at, put_none, fr0_at, cells_agg, cells_int, cells_bool, cells_string, cells_ptr, cells_slice, notTuple, tab, iv_all, hget_app, hget_app0, hget_cons0, hget_cons, set_app, set_app0, setR, setR_one, QL_nil, QL_cons, QLc_val, stepQ_t, stepQ_f, stepQC_n, stepQC_s, stepQX_s, SL_nil, SL_cons, SLc_val, stepS_t, stepS_f, h3, h0, h4, hj, hki, ltT, ltF, leT, leF, eqT, eqF, ltTn, ltFn, leTn, leFn, eqTn, eqFn, beqT, beqF, bneT, bneF, wi64, wu64, wu32, wu16, wu8, tmodP, tdivP, hgetL, hgetNe, hgetEq, setL, nums_def, nums_len, Nat.succ_le_of_lt, List.getElem?_cons_zero, List.getElem?_cons_succ, Option.getD_some, -getElem?_pos, -getElem?_neg, Int.toNat_add, Int.toNat_mul, agB, agI, agS, agP, agL, agA, okB, okI, okS, okP, okSl, okA]; refine hK _ _ ?_; clear hK K)
    (refine aw_ops (by kernel_rfl) (fun K hK => ?_); simp (disch := first | omega | (simp only [List.length_set, List.length_append, List.length_cons, List.length_nil, iv_length, zl_length]; done) | (simp only [List.length_set, List.length_append, List.length_cons, List.length_nil, iv_length, zl_length]; omega)) [wb_bool, wb_undef, XL_nil, XL_cons, XLc_val, XLc_call, step1_eq, stepW_t, stepW_f, stepC_n, stepC_s, stepX_s, xop_eq, xopR_s, xopR_n, wantedA_eq, wantedG_n, wantedG_s, plain1_int, plain1_bool, plain1_string, bits_i64, bits_u64, bits_u32, bits_u16, bits_u8, xeqA, xarr, allK_iv, num_iv, calleeOf, xread, xeff, xbin, xint, xnil, xun, xstr, xload, xconv, xpart, xfield, xfieldAddr, xindexAddr, xindex, bnd, asInt?, xslice, xlen, xmin, xmax, xbuild, xfill, xappend, xcopy, xcells, eval_tmp, eval_const, put_at, put_none, fr0_at, cells_agg, cells_int, cells_bool, cells_string, cells_ptr, cells_slice, notTuple, tab, iv_all, hget_app, hget_app0, hget_cons0, hget_cons, set_app, set_app0, setR, setR_one, QL_nil, QL_cons, QLc_val, stepQ_t, stepQ_f, stepQC_n, stepQC_s, stepQX_s, SL_nil, SL_cons, SLc_val, stepS_t, stepS_f, h4, ltT, ltF, leT, leF, eqT, eqF, ltTn, ltFn, leTn, leFn, eqTn, eqFn, beqT, beqF, bneT, bneF, wi64, wu64, wu32, wu16, wu8, tmodP, tdivP, hgetL, hgetNe, hgetEq, setL, nums_def, nums_len, Nat.succ_le_of_lt, List.getElem?_cons_zero, List.getElem?_cons_succ, Option.getD_some, -getElem?_pos, -getElem?_neg, Int.toNat_add, Int.toNat_mul, agB, agI, agS, agP, agL, agA, okB, okI, okS, okP, okSl, okA]; refine hK _ _ ?_; clear hK K)
    refine ⟨q - 1, by omega, i + 1, t ++ pt, by omega, ?_, by (first | (simp [put_at, put_none, fr0_at]; done) | rfl), by (first | (simp [put_at, put_none, fr0_at]; done) | rfl), by (first | (simp [put_at, put_none, fr0_at, h0]; done) | rfl), rfl⟩
    rw [nums_app, List.append_assoc]
    exact ht
  · refine aw_f (by (first | (simp [eval_tmp, put_at, hlt]; done) | (simp [eval_tmp, put_at, hlt]; omega))) (by kernel_rfl) ?_
    obtain rfl : i = ps.length := by omega
    refine aw_exit ?_
    refine aw_seq ?_
    have e : strOfNums (cat ps) = t := by
      rw [← ht, List.drop_of_length_le (Nat.le_refl _), show cat [] = [] from rfl, List.append_nil, of_nums']
    rw [e]
    (refine aw_ops (by kernel_rfl) (fun K hK => ?_); simp (disch := first | omega | (simp only [List.length_set, List.length_append, List.length_cons, List.length_nil, iv_length, zl_length]; done) | (simp only [List.length_set, List.length_append, List.length_cons, List.length_nil, iv_length, zl_length]; omega)) [wb_bool, wb_undef, XL_nil, XL_cons, XLc_val, XLc_call, step1_eq, stepW_t, stepW_f, stepC_n, stepC_s, stepX_s, xop_eq, xopR_s, xopR_n, wantedA_eq, wantedG_n, wantedG_s, plain1_int, plain1_bool, plain1_string, bits_i64, bits_u64, bits_u32, bits_u16, bits_u8, xeqA, xarr, allK_iv, num_iv, calleeOf, xread, xeff, xbin, xint, xnil, xun, xstr, xload, xconv, xpart, xfield, xfieldAddr, xindexAddr, xindex, bnd, asInt?, xslice, xlen, xmin, xmax, xbuild, xfill, xappend, xcopy, xcells, eval_tmp, eval_const, put_at, put_none, fr0_at, cells_agg, cells_int, cells_bool, cells_string, cells_ptr, cells_slice, notTuple, tab, iv_all, hget_app, hget_app0, hget_cons0, hget_cons, set_app, set_app0, setR, setR_one, QL_nil, QL_cons, QLc_val, stepQ_t, stepQ_f, stepQC_n, stepQC_s, stepQX_s, SL_nil, SL_cons, SLc_val, stepS_t, stepS_f, h3, ltT, ltF, leT, leF, eqT, eqF, ltTn, ltFn, leTn, leFn, eqTn, eqFn, beqT, beqF, bneT, bneF, wi64, wu64, wu32, wu16, wu8, tmodP, tdivP, hgetL, hgetNe, hgetEq, setL, nums_def, nums_len, Nat.succ_le_of_lt, List.getElem?_cons_zero, List.getElem?_cons_succ, Option.getD_some, -getElem?_pos, -getElem?_neg, Int.toNat_add, Int.toNat_mul, agB, agI, agS, agP, agL, agA, okB, okI, okS, okP, okSl, okA]; refine hK _ _ ?_; clear hK K)
    (refine aw_ret ?_; simp [thenQ_ret, inBlockQ_ret, RQ, resL, resV, xload, tab, okD, isAggD, hget_app, hget_app0, hget_cons0, hget_cons, notTuple, put_at, put_none])
end Go.Proofs.Ythkcbhealphpmaa
