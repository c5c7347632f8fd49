/-
  alive, and CodeBack's walk, by the statement text.
-/
import Derived.Test.YtmnkbdclnaekkaaDoorCoB
namespace Go.Proofs.YtmnkbdclnaekkaaDoor
open Go Go.RowKit
set_option linter.unusedSimpArgs false
set_option maxRecDepth 100000
set_option maxHeartbeats 1000000

attribute [local irreducible] rd outK fits outD tx checkedF zl digitsF
theorem read_write (k : List Int) (hk : k.length = 32) (hb : Byte k) : readV (writeF k) = .tuple #[.agg (iv .u8 k).toArray, .int .i64 0] := by
  obtain ⟨o1, o2⟩ := outD_spec k hb 32
  have hl : (digitsF k).length = 80 := by unfold digitsF; rw [checkedF_len, o2]
  have hdg : Dig (digitsF k) := by unfold digitsF; exact checkedF_dig o1
  obtain ⟨h1, h2, h3⟩ := read_text (digitsF k) hl hdg
  obtain ⟨h4, h5⟩ := back_key k hk hb
  have h6 : digitsF k = checkedF (digitsF k) := by
    have := (checked_idem (outD k 32) o2).symm
    unfold digitsF
    exact this
  unfold readV writeF
  rw [if_pos ⟨h1, h2⟩, h3, readOf, if_pos h6, if_pos h4, h5]
theorem write_size (k : List Int) (hb : Byte k) : (writeF k).size = 95 := by
  obtain ⟨o1, o2⟩ := outD_spec k hb 32
  have hl : (digitsF k).length = 80 := by unfold digitsF; rw [checkedF_len, o2]
  have hdg : Dig (digitsF k) := by unfold digitsF; exact checkedF_dig o1
  exact (read_text (digitsF k) hl hdg).1
theorem byte_zl (n : Nat) : Byte (zl n) := fun i => by rw [zl_get]; omega
theorem inD_zero : ∀ j, j ≤ 78 → inD (zl 80) 0 j = (zl 80, 0)
  | 0, _ => rfl
  | j + 1, hj => by
    rw [inD, inD_zero j (by omega)]
    simp only [zl_get]
    have h : (zl 80).set (77 - j) 0 = zl 80 := by
      apply list_eq (by simp)
      intro p _
      rw [getD_setM _ _ _ _ (by simp; omega), zl_get]
      split <;> rfl
    simp [h]
theorem outD_zero : ∀ i, outD (zl 32) i = zl 80
  | 0 => by unfold outD; rfl
  | i + 1 => by
    have h : outD (zl 32) (i + 1) = (inD (outD (zl 32) i) ((zl 32).getD i 0) 78).1 := by conv => lhs; unfold outD
    rw [h, outD_zero i, zl_get, inD_zero 78 (Nat.le_refl _)]
theorem zero_text : (tx (checkedF (zl 80)) 80).drop 88 = [48, 32, 48, 48, 48, 57, 56] := by decide +kernel
theorem write_zero : ((writeF (zl 32)).extract 88 (writeF (zl 32)).size).toList = [48, 32, 48, 48, 48, 57, 56] := by
  have h : writeF (zl 32) = strOfNums (tx (checkedF (zl 80)) 80) := by
    unfold writeF digitsF
    rw [outD_zero]
  rw [write_size _ (byte_zl 32), h, ByteArray.toList_eq, ByteArray.data_extract]
  have hd := zero_text
  have e1 : (strOfNums (tx (checkedF (zl 80)) 80)).data.toList = (tx (checkedF (zl 80)) 80).map fun n => UInt8.ofNat n.toNat := rfl
  have hl : (tx (checkedF (zl 80)) 80).length = 95 := by rw [tx_length]
  have e2 : ((strOfNums (tx (checkedF (zl 80)) 80)).data.extract 88 95).toList = ((tx (checkedF (zl 80)) 80).drop 88).map fun n => UInt8.ofNat n.toNat := by
    rw [Array.toList_extract, List.extract_eq_take_drop, e1, List.take_of_length_le (by simp [hl]), List.map_drop]
  rw [e2, hd]
  rfl

def k3 : List Int := (((zl 32).set 0 1).set 1 2).set 2 3
theorem k3_len : k3.length = 32 := by simp [k3]
theorem k3_byte : Byte k3 := (((byte_zl 32).set 0 (by omega)).set 1 (by omega)).set 2 (by omega)
theorem k3_def : (((zl 32).set 0 1).set 1 2).set 2 3 = k3 := rfl
attribute [local irreducible] k3
theorem alive_vc : VC Tryd.prog 5 #[] (.bool true) := by
  refine vc_of_ac (by simp [pv_iv, pv_int, pv_bool, pv_string, pv_tup2, pv_tup3, iv_plain, p2_int, p2_bool, p2_string]) (by simp [pv_iv, pv_int, pv_bool, pv_string, pv_tup2, pv_tup3, iv_plain, p2_int, p2_bool, p2_string]) ?_
  refine ac_of_aw Tryd.func5 rfl Tryd.ntmps5 Tryd.results5 (by simp) ?_
  have hz := write_size (zl 32) (byte_zl 32)
  have hw := write_zero
  have hw3 := write_vc k3 k3_len k3_byte
  have hr3 := read_vc (writeF k3)
  have hv3 := read_write k3 k3_len k3_byte
  have hl3 := k3_len
  refine aw_seq ?_
  (refine aw_ops (by kernel_rfl) (fun K hK => ?_); simp [wb_bool, wb_undef, XL_nil, XL_cons, XLc_val, XLc_call, step1_eq, stepW_t, stepW_f, stepC_n, stepC_s, stepX_s, stepX_n, stepN_s, calleeX, oneV, xop_eq, xopR_s, xopR_n, wantedA_eq, wantedG_n, wantedG_s, plain1_int, plain1_bool, plain1_string, bits_i64, bits_u64, bits_u32, bits_u16, bits_u8, xeqA, xagg, xcmp, xarr, allK_iv, num_iv, calleeOf, xread, xeff, xbin, xint, xnil, xun, xstr, xload, xconv, xpart, xfield, xfieldAddr, xindexAddr, xindex, bnd, asInt?, xslice, xlen, xmin, xmax, xbuild, xfill, xappend, xapp2, xappstr, xappmk, xcap, xcopy, xcells, eval_tmp, eval_const, put_at, put_none, fr0_at, cells_agg, cells_int, cells_bool, cells_string, cells_ptr, cells_slice, notTuple, tab, iv_all, okD, isAggD, hget_app, hget_app0, hget_cons0, hget_cons, set_app, set_app0, setR, setR_one, QL_nil, QL_cons, QLc_val, stepQ_t, stepQ_f, stepQC_n, stepQC_s, stepQX_s, SL_nil, SL_cons, SLc_val, stepS_t, stepS_f]; refine hK _ _ ?_; clear hK K)
  refine aw_seq ?_
  refine aw_ops (by kernel_rfl) (fun K hK => ?_)
  simp [wb_bool, wb_undef, XL_nil, XL_cons, XLc_val, XLc_call, step1_eq, stepW_t, stepW_f, stepC_n, stepC_s, stepX_s, stepX_n, stepN_s, calleeX, oneV, xop_eq, xopR_s, xopR_n, wantedA_eq, wantedG_n, wantedG_s, plain1_int, plain1_bool, plain1_string, bits_i64, bits_u64, bits_u32, bits_u16, bits_u8, xeqA, xagg, xcmp, xarr, allK_iv, num_iv, calleeOf, xread, xeff, xbin, xint, xnil, xun, xstr, xload, xconv, xpart, xfield, xfieldAddr, xindexAddr, xindex, bnd, asInt?, xslice, xlen, xmin, xmax, xbuild, xfill, xappend, xapp2, xappstr, xappmk, xcap, xcopy, xcells, eval_tmp, eval_const, put_at, put_none, fr0_at, cells_agg, cells_int, cells_bool, cells_string, cells_ptr, cells_slice, notTuple, tab, iv_all, okD, isAggD, hget_app, hget_app0, hget_cons0, hget_cons, set_app, set_app0, setR, setR_one, QL_nil, QL_cons, QLc_val, stepQ_t, stepQ_f, stepQC_n, stepQC_s, stepQX_s, SL_nil, SL_cons, SLc_val, stepS_t, stepS_f]
  refine ⟨by kernel_rfl, ac_of_vc (by simp [pv_iv, pv_int, pv_bool, pv_string, pv_tup2, pv_tup3, iv_plain, p2_int, p2_bool, p2_string]) (write_vc (zl 32) (by simp) (byte_zl 32)) ?_⟩
  refine hK _ _ ?_; clear hK K
  refine aw_seq ?_
  refine aw_ops (by kernel_rfl) (fun K hK => ?_)
  simp [wb_bool, wb_undef, XL_nil, XL_cons, XLc_val, XLc_call, step1_eq, stepW_t, stepW_f, stepC_n, stepC_s, stepX_s, stepX_n, stepN_s, calleeX, oneV, xop_eq, xopR_s, xopR_n, wantedA_eq, wantedG_n, wantedG_s, plain1_int, plain1_bool, plain1_string, bits_i64, bits_u64, bits_u32, bits_u16, bits_u8, xeqA, xagg, xcmp, xarr, allK_iv, num_iv, calleeOf, xread, xeff, xbin, xint, xnil, xun, xstr, xload, xconv, xpart, xfield, xfieldAddr, xindexAddr, xindex, bnd, asInt?, xslice, xlen, xmin, xmax, xbuild, xfill, xappend, xapp2, xappstr, xappmk, xcap, xcopy, xcells, eval_tmp, eval_const, put_at, put_none, fr0_at, cells_agg, cells_int, cells_bool, cells_string, cells_ptr, cells_slice, notTuple, tab, iv_all, okD, isAggD, hget_app, hget_app0, hget_cons0, hget_cons, set_app, set_app0, setR, setR_one, QL_nil, QL_cons, QLc_val, stepQ_t, stepQ_f, stepQC_n, stepQC_s, stepQX_s, SL_nil, SL_cons, SLc_val, stepS_t, stepS_f, iv_set, k3_def]
  refine ⟨by kernel_rfl, ac_of_vc (by simp [pv_iv, pv_int, pv_bool, pv_string, pv_tup2, pv_tup3, iv_plain, p2_int, p2_bool, p2_string]) hw3 ?_⟩
  refine ⟨by kernel_rfl, ac_of_vc (by rw [readV_plain]; simp [pv_iv, pv_int, pv_bool, pv_string, pv_tup2, pv_tup3, iv_plain, p2_int, p2_bool, p2_string]) hr3 ?_⟩
  rw [hv3]
  generalize writeF k3 = s3 at *
  generalize writeF (zl 32) = s0 at *
  have hz' : (s0.size : Int) = 95 := by omega
  simp [wb_bool, wb_undef, XL_nil, XL_cons, XLc_val, XLc_call, step1_eq, stepW_t, stepW_f, stepC_n, stepC_s, stepX_s, stepX_n, stepN_s, calleeX, oneV, xop_eq, xopR_s, xopR_n, wantedA_eq, wantedG_n, wantedG_s, plain1_int, plain1_bool, plain1_string, bits_i64, bits_u64, bits_u32, bits_u16, bits_u8, xeqA, xagg, xcmp, xarr, allK_iv, num_iv, calleeOf, xread, xeff, xbin, xint, xnil, xun, xstr, xload, xconv, xpart, xfield, xfieldAddr, xindexAddr, xindex, bnd, asInt?, xslice, xlen, xmin, xmax, xbuild, xfill, xappend, xapp2, xappstr, xappmk, xcap, xcopy, xcells, eval_tmp, eval_const, put_at, put_none, fr0_at, cells_agg, cells_int, cells_bool, cells_string, cells_ptr, cells_slice, notTuple, tab, iv_all, okD, isAggD, hget_app, hget_app0, hget_cons0, hget_cons, set_app, set_app0, setR, setR_one, QL_nil, QL_cons, QLc_val, stepQ_t, stepQ_f, stepQC_n, stepQC_s, stepQX_s, SL_nil, SL_cons, SLc_val, stepS_t, stepS_f, hl3, setR_all]
  refine hK _ _ ?_; clear hK K
  refine aw_seq ?_
  have e1 : ((s0.extract 88 s0.size).toList == [48, 32, 48, 48, 48, 57, 56]) = true := by rw [hw]; rfl
  rw [hz] at e1
  (refine aw_ops (by kernel_rfl) (fun K hK => ?_); simp [wb_bool, wb_undef, XL_nil, XL_cons, XLc_val, XLc_call, step1_eq, stepW_t, stepW_f, stepC_n, stepC_s, stepX_s, stepX_n, stepN_s, calleeX, oneV, xop_eq, xopR_s, xopR_n, wantedA_eq, wantedG_n, wantedG_s, plain1_int, plain1_bool, plain1_string, bits_i64, bits_u64, bits_u32, bits_u16, bits_u8, xeqA, xagg, xcmp, xarr, allK_iv, num_iv, calleeOf, xread, xeff, xbin, xint, xnil, xun, xstr, xload, xconv, xpart, xfield, xfieldAddr, xindexAddr, xindex, bnd, asInt?, xslice, xlen, xmin, xmax, xbuild, xfill, xappend, xapp2, xappstr, xappmk, xcap, xcopy, xcells, eval_tmp, eval_const, put_at, put_none, fr0_at, cells_agg, cells_int, cells_bool, cells_string, cells_ptr, cells_slice, notTuple, tab, iv_all, okD, isAggD, hget_app, hget_app0, hget_cons0, hget_cons, set_app, set_app0, setR, setR_one, QL_nil, QL_cons, QLc_val, stepQ_t, stepQ_f, stepQC_n, stepQC_s, stepQX_s, SL_nil, SL_cons, SLc_val, stepS_t, stepS_f, hz, hz', e1, hl3, iv_set, k3_def, List.take_of_length_le]; refine hK _ _ ?_; clear hK K)
  (refine aw_ret ?_; simp [thenQ_ret, inBlockQ_ret, RQ, resL, resV, xload, tab, okD, isAggD, hget_app, hget_app0, hget_cons0, hget_cons, notTuple, put_at, put_none])
end Go.Proofs.YtmnkbdclnaekkaaDoor
