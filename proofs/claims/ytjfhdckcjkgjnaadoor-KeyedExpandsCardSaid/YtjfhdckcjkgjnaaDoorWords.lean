/-
  A hash's block as a list of cells; its sixteen words, and the sixty-four.
-/
import Derived.Test.YtjfhdckcjkgjnaaDoorRot
namespace Go.Proofs.YtjfhdckcjkgjnaaDoor
open Go Go.RowKit
set_option linter.unusedSimpArgs false
set_option linter.unusedVariables false
set_option maxRecDepth 100000
set_option maxHeartbeats 1000000

theorem get_of {l : List Value} {i : Nat} {v : Value} (h : l[i]? = some v) (h' : i < l.length) : l[i]'h' = v := by
  rw [List.getElem?_eq_getElem h'] at h; exact Option.some.inj h
/-- What stands behind a hash in its block. -/
class Tl where
  T : List Value
/-- A hash's cells: the state, the block, the size. -/
def hcells [Tl] (st rs : List Int) (n : Int) : List Value := iv .u32 st ++ (iv .u8 rs ++ (.int .u64 n :: Tl.T))
theorem hcells_len [Tl] (st rs : List Int) (n : Int) : (hcells st rs n).length = st.length + (rs.length + (1 + (Tl.T).length)) := by simp [hcells]; omega
theorem hcells_st [Tl] (st rs : List Int) (n : Int) (i : Nat) (h : i < st.length) : (hcells st rs n)[i]? = some (.int .u32 (st.getD i 0)) := by
  unfold hcells
  rw [List.getElem?_append_left (by simp; omega)]
  exact iv_get _ _ _ h
theorem hcells_rs [Tl] (st rs : List Int) (n : Int) (i : Nat) (hs : st.length = 8) (h : i < rs.length) : (hcells st rs n)[8 + i]? = some (.int .u8 (rs.getD i 0)) := by
  unfold hcells
  rw [List.getElem?_append_right (by simp; omega), iv_length, hs, show 8 + i - 8 = i by omega, List.getElem?_append_left (by simp; omega)]
  exact iv_get _ _ _ h
theorem hcells_n [Tl] (st rs : List Int) (n : Int) (hs : st.length = 8) (hr : rs.length = 64) : (hcells st rs n)[72]? = some (.int .u64 n) := by
  unfold hcells
  rw [List.getElem?_append_right (by simp; omega), iv_length, hs, List.getElem?_append_right (by simp; omega), iv_length, hr]
  rfl
/-- The i-th word of the block. -/
def w4 (rs : List Int) (i : Nat) : Int :=
  bitsOf .or .u32 (bitsOf .or .u32 (bitsOf .or .u32 (IntKind.u32.wrap (rs.getD (4 * i) 0 * 16777216)) (IntKind.u32.wrap (rs.getD (4 * i + 1) 0 * 65536))) (IntKind.u32.wrap (rs.getD (4 * i + 2) 0 * 256))) (rs.getD (4 * i + 3) 0)
def w16 (rs : List Int) : Nat → List Int
  | 0 => zl 64
  | i + 1 => (w16 rs i).set i (w4 rs i)
def w64 (rs : List Int) : Nat → List Int
  | 0 => w16 rs 16
  | j + 1 => (w64 rs j).set (16 + j) (IntKind.u32.wrap (IntKind.u32.wrap (IntKind.u32.wrap (sprF ((w64 rs j).getD (14 + j) 0) 17 19 10 + (w64 rs j).getD (9 + j) 0) + sprF ((w64 rs j).getD (1 + j) 0) 7 18 3) + (w64 rs j).getD j 0))
theorem w16_len (rs : List Int) : ∀ i, (w16 rs i).length = 64
  | 0 => by simp [w16]
  | i + 1 => by simp [w16, w16_len rs i]
theorem w64_len (rs : List Int) : ∀ i, (w64 rs i).length = 64
  | 0 => w16_len rs 16
  | i + 1 => by simp [w64, w64_len rs i]
theorem w16_succ (rs : List Int) (i : Nat) : w16 rs (i + 1) = (w16 rs i).set i (w4 rs i) := rfl
theorem w64_succ (rs : List Int) (j : Nat) : w64 rs (j + 1) = (w64 rs j).set (16 + j) (IntKind.u32.wrap (IntKind.u32.wrap (IntKind.u32.wrap (sprF ((w64 rs j).getD (14 + j) 0) 17 19 10 + (w64 rs j).getD (9 + j) 0) + sprF ((w64 rs j).getD (1 + j) 0) 7 18 3) + (w64 rs j).getD j 0)) := rfl
theorem w64_zero (rs : List Int) : w64 rs 0 = w16 rs 16 := rfl
attribute [local irreducible] w16 w64 w4 hcells zl sprF
theorem words_ac [Tl] {nro : Nat} {γ : Nat → Option Nat} {H : AH} (st rs : List Int) (n : Int) (hs : st.length = 8) (hr : rs.length = 64) (hb : ∀ p, 0 ≤ rs.getD p 0 ∧ rs.getD p 0 ≤ 255) (hn : nro ≤ H.length) (b : Nat) (ty : TypeId) (hg : hget H b = some ⟨hcells st rs n, ty, none⟩) :
    AC Tryd.prog nro γ 36 #[.pointer (some ⟨b, 0, none⟩)] H (fun v' _ => v' = .agg (iv .u32 (w64 rs 48)).toArray) := by
  refine ac_of_aw Tryd.func36 rfl Tryd.ntmps36 Tryd.results36 (by simp) ?_
  have hg2 : ∀ x y, hget (H ++ [x, y]) b = some ⟨hcells st rs n, ty, none⟩ := fun x y => hget_left' hg
  have hln := hcells_len st rs n
  have hn1 : nro ≤ H.length + 1 := by omega
  refine aw_seq ?_
  (refine aw_ops (by kernel_rfl) (fun K hK => ?_); simp [wb_bool, wb_undef, XL_nil, XL_cons, XLc_val, XLc_call, step1_eq, stepW_t, stepW_f, stepC_n, stepC_s, stepX_s, stepX_n, stepN_s, calleeX, oneV, xop_eq, xopR_s, xopR_n, wantedA_eq, wantedG_n, wantedG_s, plain1_int, plain1_bool, plain1_string, bits_i64, bits_u64, bits_u32, bits_u16, bits_u8, xeqA, xagg, xcmp, xarr, allK_iv, num_iv, calleeOf, xread, xeff, xbin, xint, xnil, xun, xstr, xload, xconv, xpart, xfield, xfieldAddr, xindexAddr, xindex, bnd, asInt?, xslice, xlen, xmin, xmax, xbuild, xfill, xappend, xapp2, xappstr, xappmk, xcap, xcopy, xcells, eval_tmp, eval_const, put_at, put_none, fr0_at, cells_agg, cells_int, cells_bool, cells_string, cells_ptr, cells_slice, notTuple, tab, iv_all, okD, isAggD, hget_app, hget_app0, hget_cons0, hget_cons, set_app, set_app0, setR, setR_one, QL_nil, QL_cons, QLc_val, stepQ_t, stepQ_f, stepQC_n, stepQC_s, stepQX_s, SL_nil, SL_cons, SLc_val, stepS_t, stepS_f]; refine hK _ _ ?_; clear hK K)
  refine aw_seq ?_
  (refine aw_ops (by kernel_rfl) (fun K hK => ?_); simp [wb_bool, wb_undef, XL_nil, XL_cons, XLc_val, XLc_call, step1_eq, stepW_t, stepW_f, stepC_n, stepC_s, stepX_s, stepX_n, stepN_s, calleeX, oneV, xop_eq, xopR_s, xopR_n, wantedA_eq, wantedG_n, wantedG_s, plain1_int, plain1_bool, plain1_string, bits_i64, bits_u64, bits_u32, bits_u16, bits_u8, xeqA, xagg, xcmp, xarr, allK_iv, num_iv, calleeOf, xread, xeff, xbin, xint, xnil, xun, xstr, xload, xconv, xpart, xfield, xfieldAddr, xindexAddr, xindex, bnd, asInt?, xslice, xlen, xmin, xmax, xbuild, xfill, xappend, xapp2, xappstr, xappmk, xcap, xcopy, xcells, eval_tmp, eval_const, put_at, put_none, fr0_at, cells_agg, cells_int, cells_bool, cells_string, cells_ptr, cells_slice, notTuple, tab, iv_all, okD, isAggD, hget_app, hget_app0, hget_cons0, hget_cons, set_app, set_app0, setR, setR_one, QL_nil, QL_cons, QLc_val, stepQ_t, stepQ_f, stepQC_n, stepQC_s, stepQX_s, SL_nil, SL_cons, SLc_val, stepS_t, stepS_f]; refine hK _ _ ?_; clear hK K)
  refine aw_seq ?_
  refine aw_seq ?_
  (refine aw_ops (by kernel_rfl) (fun K hK => ?_); simp [wb_bool, wb_undef, XL_nil, XL_cons, XLc_val, XLc_call, step1_eq, stepW_t, stepW_f, stepC_n, stepC_s, stepX_s, stepX_n, stepN_s, calleeX, oneV, xop_eq, xopR_s, xopR_n, wantedA_eq, wantedG_n, wantedG_s, plain1_int, plain1_bool, plain1_string, bits_i64, bits_u64, bits_u32, bits_u16, bits_u8, xeqA, xagg, xcmp, xarr, allK_iv, num_iv, calleeOf, xread, xeff, xbin, xint, xnil, xun, xstr, xload, xconv, xpart, xfield, xfieldAddr, xindexAddr, xindex, bnd, asInt?, xslice, xlen, xmin, xmax, xbuild, xfill, xappend, xapp2, xappstr, xappmk, xcap, xcopy, xcells, eval_tmp, eval_const, put_at, put_none, fr0_at, cells_agg, cells_int, cells_bool, cells_string, cells_ptr, cells_slice, notTuple, tab, iv_all, okD, isAggD, hget_app, hget_app0, hget_cons0, hget_cons, set_app, set_app0, setR, setR_one, QL_nil, QL_cons, QLc_val, stepQ_t, stepQ_f, stepQC_n, stepQC_s, stepQX_s, SL_nil, SL_cons, SLc_val, stepS_t, stepS_f]; refine hK _ _ ?_; clear hK K)
  refine aw_block ?_
  refine aw_loop (fun q α H' => ∃ i : Nat, i + q = 16 ∧ α 7 = .int .i64 i ∧ α 0 = .pointer (some ⟨b, 0, none⟩) ∧ α 2 = .pointer (some ⟨H.length, 0, none⟩) ∧ α 3 = .pointer (some ⟨H.length + 1, 0, none⟩) ∧
    H' = H ++ [some ⟨iv .u32 (zl 64), 73, none⟩, some ⟨iv .u32 (w16 rs i), 73, none⟩]) 16 ?_ ?_
  · exact ⟨0, rfl, rfl, rfl, rfl, by simp [put_at, put_none], by unfold w16; simp⟩
  rintro q α H' ⟨i, hi, h7, h0, h2, h3, rfl⟩
  refine aw_seq ?_
  (refine aw_ops (by kernel_rfl) (fun K hK => ?_); simp [wb_bool, wb_undef, XL_nil, XL_cons, XLc_val, XLc_call, step1_eq, stepW_t, stepW_f, stepC_n, stepC_s, stepX_s, stepX_n, stepN_s, calleeX, oneV, xop_eq, xopR_s, xopR_n, wantedA_eq, wantedG_n, wantedG_s, plain1_int, plain1_bool, plain1_string, bits_i64, bits_u64, bits_u32, bits_u16, bits_u8, xeqA, xagg, xcmp, xarr, allK_iv, num_iv, calleeOf, xread, xeff, xbin, xint, xnil, xun, xstr, xload, xconv, xpart, xfield, xfieldAddr, xindexAddr, xindex, bnd, asInt?, xslice, xlen, xmin, xmax, xbuild, xfill, xappend, xapp2, xappstr, xappmk, xcap, xcopy, xcells, eval_tmp, eval_const, put_at, put_none, fr0_at, cells_agg, cells_int, cells_bool, cells_string, cells_ptr, cells_slice, notTuple, tab, iv_all, okD, isAggD, hget_app, hget_app0, hget_cons0, hget_cons, set_app, set_app0, setR, setR_one, QL_nil, QL_cons, QLc_val, stepQ_t, stepQ_f, stepQC_n, stepQC_s, stepQX_s, SL_nil, SL_cons, SLc_val, stepS_t, stepS_f, h7]; refine hK _ _ ?_; clear hK K)
  refine aw_seq ?_
  by_cases hlt : (i : Int) < 16
  · refine aw_t (by simp [eval_tmp, put_at, hlt]) (by kernel_rfl) ?_
    refine aw_skip ?_
    refine aw_seq ?_
    refine aw_block ?_
    refine aw_seq ?_
    (refine aw_ops (by kernel_rfl) (fun K hK => ?_); simp [wb_bool, wb_undef, XL_nil, XL_cons, XLc_val, XLc_call, step1_eq, stepW_t, stepW_f, stepC_n, stepC_s, stepX_s, stepX_n, stepN_s, calleeX, oneV, xop_eq, xopR_s, xopR_n, wantedA_eq, wantedG_n, wantedG_s, plain1_int, plain1_bool, plain1_string, bits_i64, bits_u64, bits_u32, bits_u16, bits_u8, xeqA, xagg, xcmp, xarr, allK_iv, num_iv, calleeOf, xread, xeff, xbin, xint, xnil, xun, xstr, xload, xconv, xpart, xfield, xfieldAddr, xindexAddr, xindex, bnd, asInt?, xslice, xlen, xmin, xmax, xbuild, xfill, xappend, xapp2, xappstr, xappmk, xcap, xcopy, xcells, eval_tmp, eval_const, put_at, put_none, fr0_at, cells_agg, cells_int, cells_bool, cells_string, cells_ptr, cells_slice, notTuple, tab, iv_all, okD, isAggD, hget_app, hget_app0, hget_cons0, hget_cons, set_app, set_app0, setR, setR_one, QL_nil, QL_cons, QLc_val, stepQ_t, stepQ_f, stepQC_n, stepQC_s, stepQX_s, SL_nil, SL_cons, SLc_val, stepS_t, stepS_f, h7]; refine hK _ _ ?_; clear hK K)
    refine aw_seq ?_
    obtain ⟨o, ho⟩ : ∃ o : Nat, o = 4 * i := ⟨_, rfl⟩
    have e1 : IntKind.i64.wrap (4 * (i : Int)) = (o : Int) := by rw [wrap64_in (by omega)]; omega
    have o1 : (o : Int) ≤ 64 := by omega
    have o2 : o ≤ 64 := by omega
    have o3 : ¬ (64 : Int) = o := by omega
    have o4 : ¬ 64 = o := by omega
    (refine aw_ops (by kernel_rfl) (fun K hK => ?_); simp [wb_bool, wb_undef, XL_nil, XL_cons, XLc_val, XLc_call, step1_eq, stepW_t, stepW_f, stepC_n, stepC_s, stepX_s, stepX_n, stepN_s, calleeX, oneV, xop_eq, xopR_s, xopR_n, wantedA_eq, wantedG_n, wantedG_s, plain1_int, plain1_bool, plain1_string, bits_i64, bits_u64, bits_u32, bits_u16, bits_u8, xeqA, xagg, xcmp, xarr, allK_iv, num_iv, calleeOf, xread, xeff, xbin, xint, xnil, xun, xstr, xload, xconv, xpart, xfield, xfieldAddr, xindexAddr, xindex, bnd, asInt?, xslice, xlen, xmin, xmax, xbuild, xfill, xappend, xapp2, xappstr, xappmk, xcap, xcopy, xcells, eval_tmp, eval_const, put_at, put_none, fr0_at, cells_agg, cells_int, cells_bool, cells_string, cells_ptr, cells_slice, notTuple, tab, iv_all, okD, isAggD, hget_app, hget_app0, hget_cons0, hget_cons, set_app, set_app0, setR, setR_one, QL_nil, QL_cons, QLc_val, stepQ_t, stepQ_f, stepQC_n, stepQC_s, stepQX_s, SL_nil, SL_cons, SLc_val, stepS_t, stepS_f, h0, hg2, e1, o1, o2, o3, o4]; refine hK _ _ ?_; clear hK K)
    have c0 := hcells_rs st rs n o hs (by omega)
    have c1 := hcells_rs st rs n (o + 1) hs (by omega)
    have c2 := hcells_rs st rs n (o + 2) hs (by omega)
    have c3 := hcells_rs st rs n (o + 3) hs (by omega)
    rw [← Nat.add_assoc] at c1 c2 c3
    have hw4 : w4 rs i = bitsOf .or .u32 (bitsOf .or .u32 (bitsOf .or .u32 (IntKind.u32.wrap (rs.getD o 0 * 16777216)) (IntKind.u32.wrap (rs.getD (o + 1) 0 * 65536))) (IntKind.u32.wrap (rs.getD (o + 2) 0 * 256))) (rs.getD (o + 3) 0) := by unfold w4; rw [← ho]
    have b0 := hb o
    have b1 := hb (o + 1)
    have b2 := hb (o + 2)
    have b3 := hb (o + 3)
    generalize rs.getD o 0 = x0 at *
    generalize rs.getD (o + 1) 0 = x1 at *
    generalize rs.getD (o + 2) 0 = x2 at *
    generalize rs.getD (o + 3) 0 = x3 at *
    have v0 : IntKind.u32.wrap x0 = x0 := by rw [wrapU32]; omega
    have v1 : IntKind.u32.wrap x1 = x1 := by rw [wrapU32]; omega
    have v2 : IntKind.u32.wrap x2 = x2 := by rw [wrapU32]; omega
    have v3 : IntKind.u32.wrap x3 = x3 := by rw [wrapU32]; omega
    have o5 : 0 < 64 - o := by omega
    have o6 : 1 < 64 - o := by omega
    have o7 : 2 < 64 - o := by omega
    have o8 : 3 < 64 - o := by omega
    have o9 : (0 : Int) < ((64 - o : Nat) : Int) ∧ (1 : Int) < ((64 - o : Nat) : Int) ∧ (2 : Int) < ((64 - o : Nat) : Int) ∧ (3 : Int) < ((64 - o : Nat) : Int) := by omega
    have hwl := w16_len rs i
    have hi64 : (i : Int) < 64 := by omega
    have hi63 : i ≤ 63 := by omega
    have hi64' : i < 64 := by omega
    have hws := w16_succ rs i
    have w7 : IntKind.i64.wrap ((i : Int) + 1) = i + 1 := wrap64_in (by omega)
    (refine aw_tail 23 (by kernel_rfl) (by kernel_rfl) (by kernel_rfl) (fun K hK => ?_); simp [wb_bool, wb_undef, XL_nil, XL_cons, XLc_val, XLc_call, step1_eq, stepW_t, stepW_f, stepC_n, stepC_s, stepX_s, stepX_n, stepN_s, calleeX, oneV, xop_eq, xopR_s, xopR_n, wantedA_eq, wantedG_n, wantedG_s, plain1_int, plain1_bool, plain1_string, bits_i64, bits_u64, bits_u32, bits_u16, bits_u8, xeqA, xagg, xcmp, xarr, allK_iv, num_iv, calleeOf, xread, xeff, xbin, xint, xnil, xun, xstr, xload, xconv, xpart, xfield, xfieldAddr, xindexAddr, xindex, bnd, asInt?, xslice, xlen, xmin, xmax, xbuild, xfill, xappend, xapp2, xappstr, xappmk, xcap, xcopy, xcells, eval_tmp, eval_const, put_at, put_none, fr0_at, cells_agg, cells_int, cells_bool, cells_string, cells_ptr, cells_slice, notTuple, tab, iv_all, okD, isAggD, hget_app, hget_app0, hget_cons0, hget_cons, set_app, set_app0, setR, setR_one, QL_nil, QL_cons, QLc_val, stepQ_t, stepQ_f, stepQC_n, stepQC_s, stepQX_s, SL_nil, SL_cons, SLc_val, stepS_t, stepS_f, hn, hn1, h3, hg2, c0, c1, c2, c3, v0, v1, v2, v3, o5, o6, o7, o8, o9, hwl, hi64, hi63, hi64', iv_set, ← hw4, ← hws]; refine hK _ _ ?_; clear hK K)
    (refine aw_ops (by kernel_rfl) (fun K hK => ?_); simp [wb_bool, wb_undef, XL_nil, XL_cons, XLc_val, XLc_call, step1_eq, stepW_t, stepW_f, stepC_n, stepC_s, stepX_s, stepX_n, stepN_s, calleeX, oneV, xop_eq, xopR_s, xopR_n, wantedA_eq, wantedG_n, wantedG_s, plain1_int, plain1_bool, plain1_string, bits_i64, bits_u64, bits_u32, bits_u16, bits_u8, xeqA, xagg, xcmp, xarr, allK_iv, num_iv, calleeOf, xread, xeff, xbin, xint, xnil, xun, xstr, xload, xconv, xpart, xfield, xfieldAddr, xindexAddr, xindex, bnd, asInt?, xslice, xlen, xmin, xmax, xbuild, xfill, xappend, xapp2, xappstr, xappmk, xcap, xcopy, xcells, eval_tmp, eval_const, put_at, put_none, fr0_at, cells_agg, cells_int, cells_bool, cells_string, cells_ptr, cells_slice, notTuple, tab, iv_all, okD, isAggD, hget_app, hget_app0, hget_cons0, hget_cons, set_app, set_app0, setR, setR_one, QL_nil, QL_cons, QLc_val, stepQ_t, stepQ_f, stepQC_n, stepQC_s, stepQX_s, SL_nil, SL_cons, SLc_val, stepS_t, stepS_f, h7, w7]; refine hK _ _ ?_; clear hK K)
    exact ⟨q - 1, by omega, i + 1, by omega, by simp [put_at, put_none], by simp [put_at, put_none, h0], by simp [put_at, put_none, h2], by simp [put_at, put_none, h3], rfl⟩
  · refine aw_f (by simp [eval_tmp, put_at, hlt]) (by kernel_rfl) ?_
    obtain rfl : i = 16 := by omega
    refine aw_exit ?_
    refine aw_seq ?_
    refine aw_seq ?_
    (refine aw_ops (by kernel_rfl) (fun K hK => ?_); simp [wb_bool, wb_undef, XL_nil, XL_cons, XLc_val, XLc_call, step1_eq, stepW_t, stepW_f, stepC_n, stepC_s, stepX_s, stepX_n, stepN_s, calleeX, oneV, xop_eq, xopR_s, xopR_n, wantedA_eq, wantedG_n, wantedG_s, plain1_int, plain1_bool, plain1_string, bits_i64, bits_u64, bits_u32, bits_u16, bits_u8, xeqA, xagg, xcmp, xarr, allK_iv, num_iv, calleeOf, xread, xeff, xbin, xint, xnil, xun, xstr, xload, xconv, xpart, xfield, xfieldAddr, xindexAddr, xindex, bnd, asInt?, xslice, xlen, xmin, xmax, xbuild, xfill, xappend, xapp2, xappstr, xappmk, xcap, xcopy, xcells, eval_tmp, eval_const, put_at, put_none, fr0_at, cells_agg, cells_int, cells_bool, cells_string, cells_ptr, cells_slice, notTuple, tab, iv_all, okD, isAggD, hget_app, hget_app0, hget_cons0, hget_cons, set_app, set_app0, setR, setR_one, QL_nil, QL_cons, QLc_val, stepQ_t, stepQ_f, stepQC_n, stepQC_s, stepQX_s, SL_nil, SL_cons, SLc_val, stepS_t, stepS_f]; refine hK _ _ ?_; clear hK K)
    refine aw_block ?_
    rw [← w64_zero]
    refine aw_loop (fun q α H' => ∃ j i : Nat, j + q = 48 ∧ i = 16 + j ∧ α 6 = .int .i64 i ∧ α 2 = .pointer (some ⟨H.length, 0, none⟩) ∧ α 3 = .pointer (some ⟨H.length + 1, 0, none⟩) ∧
      H' = H ++ [some ⟨iv .u32 (zl 64), 73, none⟩, some ⟨iv .u32 (w64 rs j), 73, none⟩]) 48 ?_ ?_
    · exact ⟨0, 16, rfl, rfl, rfl, by simp [put_at, put_none, h2], by simp [put_at, put_none, h3], rfl⟩
    clear h7 h0 h2 h3 hlt hi
    rintro q' α H' ⟨j, i, hj, hi, h6, h2, h3, rfl⟩
    have hwl := w64_len rs j
    refine aw_seq ?_
    refine aw_seq ?_
    (refine aw_ops (by kernel_rfl) (fun K hK => ?_); simp [wb_bool, wb_undef, XL_nil, XL_cons, XLc_val, XLc_call, step1_eq, stepW_t, stepW_f, stepC_n, stepC_s, stepX_s, stepX_n, stepN_s, calleeX, oneV, xop_eq, xopR_s, xopR_n, wantedA_eq, wantedG_n, wantedG_s, plain1_int, plain1_bool, plain1_string, bits_i64, bits_u64, bits_u32, bits_u16, bits_u8, xeqA, xagg, xcmp, xarr, allK_iv, num_iv, calleeOf, xread, xeff, xbin, xint, xnil, xun, xstr, xload, xconv, xpart, xfield, xfieldAddr, xindexAddr, xindex, bnd, asInt?, xslice, xlen, xmin, xmax, xbuild, xfill, xappend, xapp2, xappstr, xappmk, xcap, xcopy, xcells, eval_tmp, eval_const, put_at, put_none, fr0_at, cells_agg, cells_int, cells_bool, cells_string, cells_ptr, cells_slice, notTuple, tab, iv_all, okD, isAggD, hget_app, hget_app0, hget_cons0, hget_cons, set_app, set_app0, setR, setR_one, QL_nil, QL_cons, QLc_val, stepQ_t, stepQ_f, stepQC_n, stepQC_s, stepQX_s, SL_nil, SL_cons, SLc_val, stepS_t, stepS_f, h6]; refine hK _ _ ?_; clear hK K)
    by_cases hlt : (i : Int) < 64
    · refine aw_t (by simp [eval_tmp, put_at, hlt]) (by kernel_rfl) ?_
      refine aw_skip ?_
      refine aw_seq ?_
      refine aw_block ?_
      have hws := w64_succ rs j
      rw [← hi] at hws
      obtain ⟨p2, hp2⟩ : ∃ p : Nat, p = 14 + j := ⟨_, rfl⟩
      obtain ⟨p7, hp7⟩ : ∃ p : Nat, p = 9 + j := ⟨_, rfl⟩
      obtain ⟨p15, hp15⟩ : ∃ p : Nat, p = 1 + j := ⟨_, rfl⟩
      rw [← hp2, ← hp7, ← hp15] at hws
      have g2 : (iv .u32 (w64 rs j))[p2]? = some (.int .u32 ((w64 rs j).getD p2 0)) := iv_get _ _ _ (by omega)
      have g7 : (iv .u32 (w64 rs j))[p7]? = some (.int .u32 ((w64 rs j).getD p7 0)) := iv_get _ _ _ (by omega)
      have g15 : (iv .u32 (w64 rs j))[p15]? = some (.int .u32 ((w64 rs j).getD p15 0)) := iv_get _ _ _ (by omega)
      have g16 : (iv .u32 (w64 rs j))[j]? = some (.int .u32 ((w64 rs j).getD j 0)) := iv_get _ _ _ (by omega)
      have i2 : IntKind.i64.wrap ((i : Int) - 2) = (p2 : Int) := by rw [wrap64_in (by omega)]; omega
      have i7 : IntKind.i64.wrap ((i : Int) - 7) = (p7 : Int) := by rw [wrap64_in (by omega)]; omega
      have i15 : IntKind.i64.wrap ((i : Int) - 15) = (p15 : Int) := by rw [wrap64_in (by omega)]; omega
      have i16 : IntKind.i64.wrap ((i : Int) - 16) = (j : Int) := by rw [wrap64_in (by omega)]; omega
      have l2 : (p2 : Int) < 64 ∧ (p7 : Int) < 64 ∧ (p15 : Int) < 64 ∧ (j : Int) < 64 := by omega
      have l3 : p2 < 64 ∧ p7 < 64 ∧ p15 < 64 ∧ j < 64 := by omega
      have hi63 : i ≤ 63 := by omega
      have hi64' : i < 64 := by omega
      have w7 : IntKind.i64.wrap ((i : Int) + 1) = i + 1 := wrap64_in (by omega)
      generalize (w64 rs j).getD p2 0 = x2 at *
      generalize (w64 rs j).getD p7 0 = x7 at *
      generalize (w64 rs j).getD p15 0 = x15 at *
      generalize (w64 rs j).getD j 0 = x16 at *
      (refine aw_floatQ [] [0, 1, 2, 3, 4, 5, 6, 7, 8, 9, 10, 11, 12, 13, 14, 15, 16, 17, 18, 19, 20, 21] 22 1 (by kernel_rfl) (by kernel_rfl) (by kernel_rfl) (fun K hK => ?_)); simp only [sel, List.getElem?_cons_succ, List.getElem?_cons_zero, List.drop_succ_cons, List.drop_zero]; simp [wb_bool, wb_undef, XL_nil, XL_cons, XLc_val, XLc_call, step1_eq, stepW_t, stepW_f, stepC_n, stepC_s, stepX_s, stepX_n, stepN_s, calleeX, oneV, xop_eq, xopR_s, xopR_n, wantedA_eq, wantedG_n, wantedG_s, plain1_int, plain1_bool, plain1_string, bits_i64, bits_u64, bits_u32, bits_u16, bits_u8, xeqA, xagg, xcmp, xarr, allK_iv, num_iv, calleeOf, xread, xeff, xbin, xint, xnil, xun, xstr, xload, xconv, xpart, xfield, xfieldAddr, xindexAddr, xindex, bnd, asInt?, xslice, xlen, xmin, xmax, xbuild, xfill, xappend, xapp2, xappstr, xappmk, xcap, xcopy, xcells, eval_tmp, eval_const, put_at, put_none, fr0_at, cells_agg, cells_int, cells_bool, cells_string, cells_ptr, cells_slice, notTuple, tab, iv_all, okD, isAggD, hget_app, hget_app0, hget_cons0, hget_cons, set_app, set_app0, setR, setR_one, QL_nil, QL_cons, QLc_val, stepQ_t, stepQ_f, stepQC_n, stepQC_s, stepQX_s, SL_nil, SL_cons, SLc_val, stepS_t, stepS_f, h6, h3, g2, g7, g15, g16, i2, i7, i15, i16, l2, l3, QM_nil, QM_cons, QMc_val]
      refine QMc_call (by kernel_rfl) (ac_of_vc (by simp [pv_iv, pv_int, pv_bool, pv_string, pv_tup2, pv_tup3, iv_plain, p2_int, p2_bool, p2_string]) (spread_vc x2 17 19 10 (by omega) (by omega) (by omega)) rfl) rfl ?_
      try simp [wb_bool, wb_undef, XL_nil, XL_cons, XLc_val, XLc_call, step1_eq, stepW_t, stepW_f, stepC_n, stepC_s, stepX_s, stepX_n, stepN_s, calleeX, oneV, xop_eq, xopR_s, xopR_n, wantedA_eq, wantedG_n, wantedG_s, plain1_int, plain1_bool, plain1_string, bits_i64, bits_u64, bits_u32, bits_u16, bits_u8, xeqA, xagg, xcmp, xarr, allK_iv, num_iv, calleeOf, xread, xeff, xbin, xint, xnil, xun, xstr, xload, xconv, xpart, xfield, xfieldAddr, xindexAddr, xindex, bnd, asInt?, xslice, xlen, xmin, xmax, xbuild, xfill, xappend, xapp2, xappstr, xappmk, xcap, xcopy, xcells, eval_tmp, eval_const, put_at, put_none, fr0_at, cells_agg, cells_int, cells_bool, cells_string, cells_ptr, cells_slice, notTuple, tab, iv_all, okD, isAggD, hget_app, hget_app0, hget_cons0, hget_cons, set_app, set_app0, setR, setR_one, QL_nil, QL_cons, QLc_val, stepQ_t, stepQ_f, stepQC_n, stepQC_s, stepQX_s, SL_nil, SL_cons, SLc_val, stepS_t, stepS_f, QM_nil, QM_cons, QMc_val, h6, h3, g2, g7, g15, g16, i2, i7, i15, i16, l2, l3]
      refine QMc_call (by kernel_rfl) (ac_of_vc (by simp [pv_iv, pv_int, pv_bool, pv_string, pv_tup2, pv_tup3, iv_plain, p2_int, p2_bool, p2_string]) (spread_vc x15 7 18 3 (by omega) (by omega) (by omega)) rfl) rfl ?_
      simp [wb_bool, wb_undef, XL_nil, XL_cons, XLc_val, XLc_call, step1_eq, stepW_t, stepW_f, stepC_n, stepC_s, stepX_s, stepX_n, stepN_s, calleeX, oneV, xop_eq, xopR_s, xopR_n, wantedA_eq, wantedG_n, wantedG_s, plain1_int, plain1_bool, plain1_string, bits_i64, bits_u64, bits_u32, bits_u16, bits_u8, xeqA, xagg, xcmp, xarr, allK_iv, num_iv, calleeOf, xread, xeff, xbin, xint, xnil, xun, xstr, xload, xconv, xpart, xfield, xfieldAddr, xindexAddr, xindex, bnd, asInt?, xslice, xlen, xmin, xmax, xbuild, xfill, xappend, xapp2, xappstr, xappmk, xcap, xcopy, xcells, eval_tmp, eval_const, put_at, put_none, fr0_at, cells_agg, cells_int, cells_bool, cells_string, cells_ptr, cells_slice, notTuple, tab, iv_all, okD, isAggD, hget_app, hget_app0, hget_cons0, hget_cons, set_app, set_app0, setR, setR_one, QL_nil, QL_cons, QLc_val, stepQ_t, stepQ_f, stepQC_n, stepQC_s, stepQX_s, SL_nil, SL_cons, SLc_val, stepS_t, stepS_f, QM_nil, QM_cons, QMc_val, h6, h3, g2, g7, g15, g16, i2, i7, i15, i16, l2, l3, get_of g2, get_of g7, get_of g15, get_of g16, hwl, hlt, hi63, hi64', iv_set, hn, hn1, ← hws]
      refine hK _ _ ?_; clear hK K
      (refine aw_ops (by kernel_rfl) (fun K hK => ?_); simp [wb_bool, wb_undef, XL_nil, XL_cons, XLc_val, XLc_call, step1_eq, stepW_t, stepW_f, stepC_n, stepC_s, stepX_s, stepX_n, stepN_s, calleeX, oneV, xop_eq, xopR_s, xopR_n, wantedA_eq, wantedG_n, wantedG_s, plain1_int, plain1_bool, plain1_string, bits_i64, bits_u64, bits_u32, bits_u16, bits_u8, xeqA, xagg, xcmp, xarr, allK_iv, num_iv, calleeOf, xread, xeff, xbin, xint, xnil, xun, xstr, xload, xconv, xpart, xfield, xfieldAddr, xindexAddr, xindex, bnd, asInt?, xslice, xlen, xmin, xmax, xbuild, xfill, xappend, xapp2, xappstr, xappmk, xcap, xcopy, xcells, eval_tmp, eval_const, put_at, put_none, fr0_at, cells_agg, cells_int, cells_bool, cells_string, cells_ptr, cells_slice, notTuple, tab, iv_all, okD, isAggD, hget_app, hget_app0, hget_cons0, hget_cons, set_app, set_app0, setR, setR_one, QL_nil, QL_cons, QLc_val, stepQ_t, stepQ_f, stepQC_n, stepQC_s, stepQX_s, SL_nil, SL_cons, SLc_val, stepS_t, stepS_f, h6, w7]; refine hK _ _ ?_; clear hK K)
      exact ⟨q' - 1, by omega, j + 1, i + 1, by omega, by omega, by simp [put_at, put_none], by simp [put_at, put_none, h2], by simp [put_at, put_none, h3], rfl⟩
    · refine aw_f (by simp [eval_tmp, put_at, hlt]) (by kernel_rfl) ?_
      obtain rfl : j = 48 := by omega
      refine aw_exit ?_
      refine aw_seq ?_
      (refine aw_ops (by kernel_rfl) (fun K hK => ?_); simp [wb_bool, wb_undef, XL_nil, XL_cons, XLc_val, XLc_call, step1_eq, stepW_t, stepW_f, stepC_n, stepC_s, stepX_s, stepX_n, stepN_s, calleeX, oneV, xop_eq, xopR_s, xopR_n, wantedA_eq, wantedG_n, wantedG_s, plain1_int, plain1_bool, plain1_string, bits_i64, bits_u64, bits_u32, bits_u16, bits_u8, xeqA, xagg, xcmp, xarr, allK_iv, num_iv, calleeOf, xread, xeff, xbin, xint, xnil, xun, xstr, xload, xconv, xpart, xfield, xfieldAddr, xindexAddr, xindex, bnd, asInt?, xslice, xlen, xmin, xmax, xbuild, xfill, xappend, xapp2, xappstr, xappmk, xcap, xcopy, xcells, eval_tmp, eval_const, put_at, put_none, fr0_at, cells_agg, cells_int, cells_bool, cells_string, cells_ptr, cells_slice, notTuple, tab, iv_all, okD, isAggD, hget_app, hget_app0, hget_cons0, hget_cons, set_app, set_app0, setR, setR_one, QL_nil, QL_cons, QLc_val, stepQ_t, stepQ_f, stepQC_n, stepQC_s, stepQX_s, SL_nil, SL_cons, SLc_val, stepS_t, stepS_f, h2, h3, hn, hn1, hwl, setR_all, List.take_of_length_le]; refine hK _ _ ?_; clear hK K)
      (refine aw_ret ?_; simp [thenQ_ret, inBlockQ_ret, RQ, resL, resV, xload, tab, okD, isAggD, hget_app, hget_app0, hget_cons0, hget_cons, notTuple, put_at, put_none, h2, hwl, List.take_of_length_le])
end Go.Proofs.YtjfhdckcjkgjnaaDoor
