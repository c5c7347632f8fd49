/-
  A word laid into four bytes.
-/
import Derived.Test.YtjfhdckcjkgjnaaDoorComp
namespace Go.Proofs.YtjfhdckcjkgjnaaDoor
open Go Go.RowKit
set_option linter.unusedSimpArgs false
set_option linter.unusedVariables false
set_option maxRecDepth 100000
set_option maxHeartbeats 1000000

def put4 (C : List Value) (off : Nat) (x : Int) : List Value :=
  (((C.set off (.int .u8 (IntKind.u8.wrap (x.fdiv 16777216)))).set (off + 1) (.int .u8 (IntKind.u8.wrap (x.fdiv 65536)))).set (off + 2) (.int .u8 (IntKind.u8.wrap (x.fdiv 256)))).set (off + 3) (.int .u8 (IntKind.u8.wrap x))
theorem put_ac {nro : Nat} {γ : Nat → Option Nat} {H : AH} (C : List Value) (off len : Nat) (x : Int) (hl : 4 ≤ len) (hC : off + 4 ≤ C.length) (b : Nat) (hbn : nro ≤ b) (ty : TypeId) (es : Option Nat) (hg : hget H b = some ⟨C, ty, es⟩) :
    AC Tryd.prog nro γ 35 #[.slice (some ⟨b, off, none⟩) len len, .int .u32 x] H (fun v' H' => H' = H.set b (some ⟨put4 C off x, ty, es⟩)) := by
  refine ac_of_aw Tryd.func35 rfl Tryd.ntmps35 Tryd.results35 (by simp) ?_
  have hbl := hget_lt hg
  have hgX : ∀ x, hget (H.set b x) b = x := fun x => hget_set_eq hbl
  have l0 : 0 < len := by omega
  have l1 : 1 < len := by omega
  have l2 : 2 < len := by omega
  have l3 : 3 < len := by omega
  have k0 : (0 : Int) < len ∧ (1 : Int) < len ∧ (2 : Int) < len ∧ (3 : Int) < len := by omega
  have c0 : off < C.length := by omega
  have c1 : off + 1 < C.length := by omega
  have c2 : off + 2 < C.length := by omega
  have c3 : off + 3 < C.length := by omega
  refine aw_ops (by kernel_rfl) (fun K hK => ?_)
  simp [wb_bool, wb_undef, XL_nil, XL_cons, XLc_val, XLc_call, step1_eq, stepW_t, stepW_f, stepC_n, stepC_s, stepX_s, stepX_n, stepN_s, calleeX, oneV, xop_eq, xopR_s, xopR_n, wantedA_eq, wantedG_n, wantedG_s, plain1_int, plain1_bool, plain1_string, bits_i64, bits_u64, bits_u32, bits_u16, bits_u8, xeqA, xagg, xcmp, xarr, allK_iv, num_iv, calleeOf, xread, xeff, xbin, xint, xnil, xun, xstr, xload, xconv, xpart, xfield, xfieldAddr, xindexAddr, xindex, bnd, asInt?, xslice, xlen, xmin, xmax, xbuild, xfill, xappend, xapp2, xappstr, xappmk, xcap, xcopy, xcells, eval_tmp, eval_const, put_at, put_none, fr0_at, cells_agg, cells_int, cells_bool, cells_string, cells_ptr, cells_slice, notTuple, tab, iv_all, okD, isAggD, hget_app, hget_app0, hget_cons0, hget_cons, set_app, set_app0, setR, setR_one, QL_nil, QL_cons, QLc_val, stepQ_t, stepQ_f, stepQC_n, stepQC_s, stepQX_s, SL_nil, SL_cons, SLc_val, stepS_t, stepS_f, hg, hgX, hbn, l0, l1, l2, l3, k0, c0, c1, c2, c3, Nat.succ_le_of_lt, List.set_set]
  refine hK _ _ ?_; clear hK K
  simp only [RQ]
  exact ⟨[], .tuple #[], rfl, rfl, rfl⟩
end Go.Proofs.YtjfhdckcjkgjnaaDoor
