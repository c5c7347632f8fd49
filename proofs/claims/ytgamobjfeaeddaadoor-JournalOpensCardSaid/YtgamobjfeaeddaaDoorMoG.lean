/-
  Words' bits: or, xor and and of words, sums of bytes in their places.
  The document's digest: a word turned, the round words, one block.
  The document's digest of a text: the text with its end, its blocks, its bytes; and that it is the program's.
  The reference's text and list of numbers.
  The reference's filled, Half, Bytes, Mark.
  The reference's reader.
  The reference's Open.
  What was read is those bytes; Room, lay.
  No journal; the reference's Room; lay.
-/
import Derived.Test.YtgamobjfeaeddaaDoorMoD
import Derived.Test.YtgamobjfeaeddaaDoorMoB
import Derived.Test.YtgamobjfeaeddaaDoorMoF
namespace Go.Proofs.YtgamobjfeaeddaaDoor
section
open Go Go.RowKit
set_option linter.unusedSimpArgs false
set_option linter.unusedVariables false
set_option maxRecDepth 100000

theorem u32_wrap_nat (n : Nat) (h : n < 4294967296) : IntKind.u32.wrap (n : Int) = n := by rw [wrapU32]; omega
theorem bv_bits (x : BitVec 32) : BitVec.ofInt 32 (IntKind.u32.wrap (x.toNat : Int)) = x := by
  rw [u32_wrap_nat _ x.isLt]
  simp
theorem or_bv (x y : Int) : BitVec.ofInt 32 (bitsOf .or .u32 x y) = BitVec.ofInt 32 x ||| BitVec.ofInt 32 y := bv_bits _
theorem and_bv (x y : Int) : BitVec.ofInt 32 (bitsOf .and .u32 x y) = BitVec.ofInt 32 x &&& BitVec.ofInt 32 y := bv_bits _
theorem xor_bv (x y : Int) : BitVec.ofInt 32 (bitsOf .xor .u32 x y) = BitVec.ofInt 32 x ^^^ BitVec.ofInt 32 y := bv_bits _
theorem or_def (x y : Int) : bitsOf .or .u32 x y = IntKind.u32.wrap ((BitVec.ofInt 32 x ||| BitVec.ofInt 32 y).toNat : Int) := rfl
theorem xor_def (x y : Int) : bitsOf .xor .u32 x y = IntKind.u32.wrap ((BitVec.ofInt 32 x ^^^ BitVec.ofInt 32 y).toNat : Int) := rfl
theorem or_comm32 (x y : Int) : bitsOf .or .u32 x y = bitsOf .or .u32 y x := by
  rw [or_def, or_def, BitVec.or_comm]
theorem ones_bv : BitVec.ofInt 32 4294967295 = BitVec.allOnes 32 := by decide
theorem or_xor (a b c d : Int) (h : BitVec.ofInt 32 a ||| BitVec.ofInt 32 b = BitVec.ofInt 32 c ^^^ BitVec.ofInt 32 d) : bitsOf .or .u32 a b = bitsOf .xor .u32 c d := by
  rw [or_def, xor_def, h]
/-- The choice: its two halves meet in no bit. -/
theorem ch_eq (e f g : Int) : bitsOf .or .u32 (bitsOf .and .u32 e f) (bitsOf .and .u32 (bitsOf .xor .u32 4294967295 e) g) = bitsOf .xor .u32 (bitsOf .and .u32 e f) (bitsOf .and .u32 (bitsOf .xor .u32 4294967295 e) g) := by
  apply or_xor
  simp only [and_bv, xor_bv, ones_bv]
  apply BitVec.eq_of_getLsbD_eq
  intro i hi
  simp only [BitVec.getLsbD_or, BitVec.getLsbD_and, BitVec.getLsbD_xor, BitVec.getLsbD_allOnes, hi, decide_true]
  cases (BitVec.ofInt 32 e).getLsbD i <;> cases (BitVec.ofInt 32 f).getLsbD i <;> cases (BitVec.ofInt 32 g).getLsbD i <;> rfl
/-- The most of three. -/
theorem maj_eq (a b c : Int) : bitsOf .or .u32 (bitsOf .or .u32 (bitsOf .and .u32 a b) (bitsOf .and .u32 a c)) (bitsOf .and .u32 b c) = bitsOf .xor .u32 (bitsOf .xor .u32 (bitsOf .and .u32 a b) (bitsOf .and .u32 a c)) (bitsOf .and .u32 b c) := by
  apply or_xor
  simp only [and_bv, xor_bv, or_bv]
  apply BitVec.eq_of_getLsbD_eq
  intro i hi
  simp
  cases (BitVec.ofInt 32 a).getLsbD i <;> cases (BitVec.ofInt 32 b).getLsbD i <;> cases (BitVec.ofInt 32 c).getLsbD i <;> simp
theorem or_nat (m n : Nat) (hm : m < 4294967296) (hn : n < 4294967296) : bitsOf .or .u32 (m : Int) (n : Int) = ((m ||| n : Nat) : Int) := by
  rw [or_def]
  have h : (BitVec.ofInt 32 (m : Int) ||| BitVec.ofInt 32 (n : Int)).toNat = m ||| n := by
    simp [BitVec.toNat_or]
    rw [Nat.mod_eq_of_lt hm, Nat.mod_eq_of_lt hn]
  rw [h]
  exact u32_wrap_nat _ (Nat.or_lt_two_pow (n := 32) hm hn)
theorem or_add (a b i : Nat) (h : b < 2 ^ i) : a * 2 ^ i ||| b = a * 2 ^ i + b := by
  have := Nat.shiftLeft_add_eq_or_of_lt (i := i) h a
  rw [Nat.shiftLeft_eq] at this
  exact this.symm
theorem w4_add (rs : List Int) (i : Nat) (hb : ∀ p, 0 ≤ rs.getD p 0 ∧ rs.getD p 0 ≤ 255) :
    w4 rs i = rs.getD (4 * i) 0 * 16777216 + rs.getD (4 * i + 1) 0 * 65536 + rs.getD (4 * i + 2) 0 * 256 + rs.getD (4 * i + 3) 0 := by
  unfold w4
  have b0 := hb (4 * i)
  have b1 := hb (4 * i + 1)
  have b2 := hb (4 * i + 2)
  have b3 := hb (4 * i + 3)
  obtain ⟨x0, h0⟩ := Int.eq_ofNat_of_zero_le b0.1
  obtain ⟨x1, h1⟩ := Int.eq_ofNat_of_zero_le b1.1
  obtain ⟨x2, h2⟩ := Int.eq_ofNat_of_zero_le b2.1
  obtain ⟨x3, h3⟩ := Int.eq_ofNat_of_zero_le b3.1
  rw [h0] at b0 ⊢
  rw [h1] at b1 ⊢
  rw [h2] at b2 ⊢
  rw [h3] at b3 ⊢
  have e0 : IntKind.u32.wrap ((x0 : Int) * 16777216) = ((x0 * 2 ^ 24 : Nat) : Int) := by rw [wrapU32]; omega
  have e1 : IntKind.u32.wrap ((x1 : Int) * 65536) = ((x1 * 2 ^ 16 : Nat) : Int) := by rw [wrapU32]; omega
  have e2 : IntKind.u32.wrap ((x2 : Int) * 256) = ((x2 * 2 ^ 8 : Nat) : Int) := by rw [wrapU32]; omega
  rw [e0, e1, e2, or_nat _ _ (by omega) (by omega)]
  have a1 : x0 * 2 ^ 24 ||| x1 * 2 ^ 16 = (x0 * 2 ^ 8 + x1) * 2 ^ 16 := by
    rw [or_add _ _ 24 (by omega)]; omega
  rw [a1, or_nat _ _ (by omega) (by omega)]
  have a2 : (x0 * 2 ^ 8 + x1) * 2 ^ 16 ||| x2 * 2 ^ 8 = (x0 * 2 ^ 16 + x1 * 2 ^ 8 + x2) * 2 ^ 8 := by
    rw [or_add _ _ 16 (by omega)]; omega
  rw [a2, or_nat _ _ (by omega) (by omega), or_add _ _ 8 (by omega)]
  omega
theorem gb_nums' (s : ByteArray) (i : Nat) : gb s i = (nums s).getD i 0 := by
  unfold gb nums
  rw [List.getD_eq_getElem?_getD, List.getD_eq_getElem?_getD, List.getElem?_map]
  cases s.data.toList[i]? <;> rfl
end

section
open Go Go.RowKit
set_option linter.unusedSimpArgs false
set_option linter.unusedVariables false
set_option maxRecDepth 100000
set_option maxHeartbeats 2000000

attribute [local simp] wb_bool wb_undef XL_nil XL_cons XLc_val XLc_call step1_eq stepW_t stepW_f stepC_n stepC_s stepX_s stepX_n stepN_s calleeX oneV xop_eq xopR_s xopR_n wantedA_eq wantedG_n wantedG_s plain1_int plain1_bool plain1_string bits_i64 bits_u64 bits_u32 bits_u16 bits_u8 xeqA xagg xcmp xarr allK_iv num_iv calleeOf xread xeff xbin xint xnil xun xstr xload xconv xpart xfield xfieldAddr xindexAddr xindex bnd asInt? xslice xlen xmin xmax xbuild xfill xappend xapp2 xappstr xappmk xcap xcopy xcells eval_tmp eval_const put_at put_none fr0_at cells_agg cells_int cells_bool cells_string cells_ptr cells_slice notTuple tab iv_all hget_app hget_app0 hget_cons0 hget_cons set_app set_app0 setR setR_one QL_nil QL_cons QLc_val stepQ_t stepQ_f stepQC_n stepQC_s stepQX_s SL_nil SL_cons SLc_val stepS_t stepS_f ltT ltF leT leF eqT eqF ltTn ltFn leTn leFn eqTn eqFn beqT beqF bneT bneF wi64 wu64 wu32 wu16 wu8 tmodP tdivP hgetL hgetNe hgetEq setL nums_def nums_len Nat.succ_le_of_lt List.getElem?_cons_zero List.getElem?_cons_succ Option.getD_some Int.toNat_add Int.toNat_mul agB agI agS agP agL agA okB okI okS okP okSl okA
theorem right_vc (x n : Int) (hn : 1 ≤ n ∧ n ≤ 31) : VC Tryd.prog 72 #[.int .u32 x, .int .u64 n] (.int .u32 (rr x n)) := by
  refine vc_of_ac (by simp [pv_iv, pv_int, pv_bool, pv_string, pv_tup2, pv_tup3, iv_plain, p2_int, p2_bool, p2_string]) (by simp [pv_iv, pv_int, pv_bool, pv_string, pv_tup2, pv_tup3, iv_plain, p2_int, p2_bool, p2_string]) ?_
  refine ac_of_aw Tryd.func72 rfl Tryd.ntmps72 Tryd.results72 (by simp) ?_
  have hr : rr x n = bitsOf .or .u32 (x.fdiv (2 ^ (min n.toNat 32))) (IntKind.u32.wrap (x * 2 ^ (min (32 - n).toNat 32))) := by rw [rr, or_comm32]
  rw [hr]
  refine aw_seq ?_
  (refine aw_ops (by kernel_rfl) (fun K hK => ?_); simp (disch := first | omega | (simp only [List.length_set, List.length_append, List.length_cons, List.length_nil, iv_length, zl_length]; try omega; done)) [-getElem?_pos, -getElem?_neg]; refine hK _ _ ?_; clear hK K)
  refine aw_seq ?_
  (refine aw_ops (by kernel_rfl) (fun K hK => ?_); simp (disch := first | omega | (simp only [List.length_set, List.length_append, List.length_cons, List.length_nil, iv_length, zl_length]; try omega; done)) [-getElem?_pos, -getElem?_neg]; refine hK _ _ ?_; clear hK K)
  (refine aw_ret ?_; simp [thenQ_ret, inBlockQ_ret, RQ, resL, resV, xload, tab, okD, isAggD, hget_app, hget_app0, hget_cons0, hget_cons, notTuple, put_at, put_none])
  rw [show min n.toNat 32 = n.toNat by omega, show min (32 - n).toNat 32 = (32 - n).toNat by omega]
theorem rounds_rc {H : AH} {γ : Nat → Option Nat} : AC Tryd.prog H.length γ 73 #[] H (fun v' _ => v' = .agg (iv .u32 roundL).toArray) := by
  refine ac_of_aw Tryd.func73 rfl Tryd.ntmps73 Tryd.results73 (by simp) ?_
  refine aw_seq ?_
  (refine aw_ops (by kernel_rfl) (fun K hK => ?_); simp (disch := first | omega | (simp only [List.length_set, List.length_append, List.length_cons, List.length_nil, iv_length, zl_length]; try omega; done)) [-getElem?_pos, -getElem?_neg]; refine hK _ _ ?_; clear hK K)
  refine aw_seq ?_
  refine aw_ops (by kernel_rfl) (fun K hK => ?_)
  simp (disch := first | omega | (simp only [List.length_set, List.length_append, List.length_cons, List.length_nil, iv_length, zl_length]; try omega; done)) [-getElem?_pos, -getElem?_neg]
  refine hK _ _ ?_; clear hK K
  (refine aw_ret ?_; simp [thenQ_ret, inBlockQ_ret, RQ, resL, resV, xload, tab, okD, isAggD, hget_app, hget_app0, hget_cons0, hget_cons, notTuple, put_at, put_none])
  rfl
def blockF (st rs : List Int) : List Int := ad st (rn st (w64 rs 48) 64) 8
theorem ad8 (a b c d e f g h a' b' c' d' e' f' g' h' : Int) : ad [a, b, c, d, e, f, g, h] [a', b', c', d', e', f', g', h'] 8 = [w32 (a + a'), w32 (b + b'), w32 (c + c'), w32 (d + d'), w32 (e + e'), w32 (f + f'), w32 (g + g'), w32 (h + h')] := rfl
theorem nums_get_bd (b : ByteArray) (p : Nat) : 0 ≤ (nums b).getD p 0 ∧ (nums b).getD p 0 ≤ 255 := By.get (nums_bd b) p
theorem spr10 (x : Int) : sprF x 17 19 10 = bitsOf .xor .u32 (bitsOf .xor .u32 (rr x 17) (rr x 19)) (x.fdiv 1024) := rfl
theorem spr3 (x : Int) : sprF x 7 18 3 = bitsOf .xor .u32 (bitsOf .xor .u32 (rr x 7) (rr x 18)) (x.fdiv 8) := rfl
theorem rt_eq (e s5 s6 s7 k w : Int) : rt e s5 s6 s7 k w = IntKind.u32.wrap (IntKind.u32.wrap (IntKind.u32.wrap (IntKind.u32.wrap (s7 + bitsOf .xor .u32 (bitsOf .xor .u32 (rr e 6) (rr e 11)) (rr e 25)) + bitsOf .or .u32 (bitsOf .and .u32 e s5) (bitsOf .and .u32 (bitsOf .xor .u32 4294967295 e) s6)) + k) + w) := by
  rw [ch_eq]; rfl
theorem ru_eq (a b c : Int) : ru a b c = IntKind.u32.wrap (bitsOf .xor .u32 (bitsOf .xor .u32 (rr a 2) (rr a 13)) (rr a 22) + bitsOf .or .u32 (bitsOf .or .u32 (bitsOf .and .u32 a b) (bitsOf .and .u32 a c)) (bitsOf .and .u32 b c)) := by
  rw [maj_eq]; rfl
attribute [local irreducible] w16 w64 w4 rn ad zl sprF sigF roundL rt ru rr
theorem block_rc {H : AH} {γ : Nat → Option Nat} (st : List Int) (b : ByteArray) (hs : st.length = 8) (hb : b.size = 64) : AC Tryd.prog H.length γ 46 #[.agg (iv .u32 st).toArray, .string b] H (fun v' _ => v' = .agg (iv .u32 (blockF st (nums b))).toArray) := by
  refine ac_of_aw Tryd.func46 rfl Tryd.ntmps46 Tryd.results46 (by simp) ?_
  refine aw_seq ?_
  (refine aw_ops (by kernel_rfl) (fun K hK => ?_); simp (disch := first | omega | (simp only [List.length_set, List.length_append, List.length_cons, List.length_nil, iv_length, zl_length]; try omega; done)) [-getElem?_pos, -getElem?_neg]; refine hK _ _ ?_; clear hK K)
  refine aw_seq ?_
  (refine aw_ops (by kernel_rfl) (fun K hK => ?_); simp (disch := first | omega | (simp only [List.length_set, List.length_append, List.length_cons, List.length_nil, iv_length, zl_length]; try omega; done)) [-getElem?_pos, -getElem?_neg]; refine hK _ _ ?_; clear hK K)
  refine aw_seq ?_
  refine aw_seq ?_
  (refine aw_ops (by kernel_rfl) (fun K hK => ?_); simp (disch := first | omega | (simp only [List.length_set, List.length_append, List.length_cons, List.length_nil, iv_length, zl_length]; try omega; done)) [-getElem?_pos, -getElem?_neg]; refine hK _ _ ?_; clear hK K)
  refine aw_block ?_
  refine aw_loop (fun q α H' => ∃ i : Nat, i + q = 16 ∧ α 6 = .int .i64 (i : Nat) ∧ α 1 = .string b ∧ α 2 = .pointer (some ⟨H.length, 0, none⟩) ∧ α 4 = .pointer (some ⟨H.length + 1, 0, none⟩) ∧ α 5 = .pointer (some ⟨H.length + 2, 0, none⟩) ∧
    H' = H ++ [some ⟨iv .u32 st, 95, none⟩, some ⟨iv .u32 (zl 8), 95, none⟩, some ⟨iv .u32 (w16 (nums b) i), 123, none⟩]) 16 ?_ ?_
  · refine ⟨0, rfl, by (first | (simp [put_at, put_none, fr0_at]; done) | rfl), by (first | (simp [put_at, put_none, fr0_at]; done) | rfl), by (first | (simp [put_at, put_none, fr0_at]; done) | rfl), by (first | (simp [put_at, put_none, fr0_at]; done) | rfl), by (first | (simp [put_at, put_none, fr0_at]; done) | rfl), by unfold w16; rfl⟩
  rintro q α H' ⟨i, hi, h6, h1, h2, h4, h5, rfl⟩
  refine aw_seq ?_
  refine aw_seq ?_
  (refine aw_ops (by kernel_rfl) (fun K hK => ?_); simp (disch := first | omega | (simp only [List.length_set, List.length_append, List.length_cons, List.length_nil, iv_length, zl_length]; try omega; done)) [-getElem?_pos, -getElem?_neg, h6]; refine hK _ _ ?_; clear hK K)
  by_cases hlt : (i : Int) < 16
  · refine aw_t (by (first | (simp [eval_tmp, put_at, hlt]; done) | (simp [eval_tmp, put_at, hlt]; omega))) (by kernel_rfl) ?_
    refine aw_skip ?_
    refine aw_seq ?_
    refine aw_block ?_
    obtain ⟨o, ho⟩ : ∃ o : Nat, o = 4 * i := ⟨_, rfl⟩
    have ho' : (4 : Int) * (i : Int) = (o : Int) := by omega
    have hwl := w16_len (nums b) i
    have hws := w16_succ (nums b) i
    have hw4 := w4_add (nums b) i (nums_get_bd b)
    rw [← ho, ← gb_nums', ← gb_nums', ← gb_nums', ← gb_nums'] at hw4
    have b0 := gb_bd b o
    have b1 := gb_bd b (o + 1)
    have b2 := gb_bd b (o + 2)
    have b3 := gb_bd b (o + 3)
    obtain ⟨x0, hx0⟩ : ∃ x, x = gb b o := ⟨_, rfl⟩
    obtain ⟨x1, hx1⟩ : ∃ x, x = gb b (o + 1) := ⟨_, rfl⟩
    obtain ⟨x2, hx2⟩ : ∃ x, x = gb b (o + 2) := ⟨_, rfl⟩
    obtain ⟨x3, hx3⟩ : ∃ x, x = gb b (o + 3) := ⟨_, rfl⟩
    rw [← hx0, ← hx1, ← hx2, ← hx3] at hw4
    rw [← hx0] at b0
    rw [← hx1] at b1
    rw [← hx2] at b2
    rw [← hx3] at b3
    (refine aw_tail 30 (by kernel_rfl) (by kernel_rfl) (by kernel_rfl) (fun K hK => ?_); simp (disch := first | omega | (simp only [List.length_set, List.length_append, List.length_cons, List.length_nil, iv_length, zl_length]; try omega; done)) [-getElem?_pos, -getElem?_neg, h6, h1, h5, ho', hb, ← hx0, ← hx1, ← hx2, ← hx3, hwl, iv_set, ← hw4, ← hws]; refine hK _ _ ?_; clear hK K)
    (refine aw_ops (by kernel_rfl) (fun K hK => ?_); simp (disch := first | omega | (simp only [List.length_set, List.length_append, List.length_cons, List.length_nil, iv_length, zl_length]; try omega; done)) [-getElem?_pos, -getElem?_neg, h6]; refine hK _ _ ?_; clear hK K)
    exact ⟨q - 1, by omega, i + 1, by omega, by (first | (simp [put_at, put_none, fr0_at]; done) | rfl), by (first | (simp [put_at, put_none, fr0_at, h1]; done) | rfl), by (first | (simp [put_at, put_none, fr0_at, h2]; done) | rfl), by (first | (simp [put_at, put_none, fr0_at, h4]; done) | rfl), by (first | (simp [put_at, put_none, fr0_at, h5]; done) | rfl), rfl⟩
  · refine aw_f (by (first | (simp [eval_tmp, put_at, hlt]; done) | (simp [eval_tmp, put_at, hlt]; omega))) (by kernel_rfl) ?_
    obtain rfl : i = 16 := by omega
    refine aw_exit ?_
    refine aw_seq ?_
    refine aw_seq ?_
    (refine aw_ops (by kernel_rfl) (fun K hK => ?_); simp (disch := first | omega | (simp only [List.length_set, List.length_append, List.length_cons, List.length_nil, iv_length, zl_length]; try omega; done)) [-getElem?_pos, -getElem?_neg]; refine hK _ _ ?_; clear hK K)
    refine aw_block ?_
    rw [← w64_zero]
    refine aw_loop (fun q α H' => ∃ j i : Nat, j + q = 48 ∧ i = 16 + j ∧ α 7 = .int .i64 (i : Nat) ∧ α 2 = .pointer (some ⟨H.length, 0, none⟩) ∧ α 4 = .pointer (some ⟨H.length + 1, 0, none⟩) ∧ α 5 = .pointer (some ⟨H.length + 2, 0, none⟩) ∧
      H' = H ++ [some ⟨iv .u32 st, 95, none⟩, some ⟨iv .u32 (zl 8), 95, none⟩, some ⟨iv .u32 (w64 (nums b) j), 123, none⟩]) 48 ?_ ?_
    · refine ⟨0, 16, rfl, rfl, by (first | (simp [put_at, put_none, fr0_at]; done) | rfl), by (first | (simp [put_at, put_none, fr0_at, h2]; done) | rfl), by (first | (simp [put_at, put_none, fr0_at, h4]; done) | rfl), by (first | (simp [put_at, put_none, fr0_at, h5]; done) | rfl), rfl⟩
    clear h6 h1 h2 h4 h5 hlt hi
    rintro q α H' ⟨j, i, hj, hi, h7, h2, h4, h5, rfl⟩
    have hwl := w64_len (nums b) j
    refine aw_seq ?_
    refine aw_seq ?_
    (refine aw_ops (by kernel_rfl) (fun K hK => ?_); simp (disch := first | omega | (simp only [List.length_set, List.length_append, List.length_cons, List.length_nil, iv_length, zl_length]; try omega; done)) [-getElem?_pos, -getElem?_neg, h7]; refine hK _ _ ?_; clear hK K)
    by_cases hlt : (i : Int) < 64
    · refine aw_t (by (first | (simp [eval_tmp, put_at, hlt]; done) | (simp [eval_tmp, put_at, hlt]; omega))) (by kernel_rfl) ?_
      refine aw_skip ?_
      refine aw_seq ?_
      refine aw_block ?_
      have hws := w64_succ (nums b) j
      rw [← hi] at hws
      obtain ⟨p2, hp2⟩ : ∃ p : Nat, p = 14 + j := ⟨_, rfl⟩
      obtain ⟨p7, hp7⟩ : ∃ p : Nat, p = 9 + j := ⟨_, rfl⟩
      obtain ⟨p15, hp15⟩ : ∃ p : Nat, p = 1 + j := ⟨_, rfl⟩
      rw [← hp2, ← hp7, ← hp15] at hws
      have g2 : (iv .u32 (w64 (nums b) j))[p2]? = some (.int .u32 ((w64 (nums b) j).getD p2 0)) := iv_get _ _ _ (by omega)
      have g7 : (iv .u32 (w64 (nums b) j))[p7]? = some (.int .u32 ((w64 (nums b) j).getD p7 0)) := iv_get _ _ _ (by omega)
      have g15 : (iv .u32 (w64 (nums b) j))[p15]? = some (.int .u32 ((w64 (nums b) j).getD p15 0)) := iv_get _ _ _ (by omega)
      have g16 : (iv .u32 (w64 (nums b) j))[j]? = some (.int .u32 ((w64 (nums b) j).getD j 0)) := iv_get _ _ _ (by omega)
      have i2 : (i : Int) - 2 = (p2 : Int) := by omega
      have i7 : (i : Int) - 7 = (p7 : Int) := by omega
      have i15 : (i : Int) - 15 = (p15 : Int) := by omega
      have i16 : (i : Int) - 16 = (j : Int) := by omega
      generalize (w64 (nums b) j).getD p2 0 = x2 at *
      generalize (w64 (nums b) j).getD p7 0 = x7 at *
      generalize (w64 (nums b) j).getD p15 0 = x15 at *
      generalize (w64 (nums b) j).getD j 0 = x16 at *
      refine aw_seq ?_
      (refine aw_quiet (by kernel_rfl) (by kernel_rfl) (by kernel_rfl) (fun K hK => ?_); simp (disch := first | omega | (simp only [List.length_set, List.length_append, List.length_cons, List.length_nil, iv_length, zl_length]; try omega; done)) [-getElem?_pos, -getElem?_neg, h7, h5, i15, i2, g15, g2]; refine hK _ ?_; clear hK K)
      (refine aw_floatQ [] [0, 1, 2, 3, 4, 5, 6, 7, 8, 9, 10, 11, 12, 13, 14, 15, 16, 17, 18, 19, 20, 21, 22, 23, 24, 25, 26, 27] 28 1 (by kernel_rfl) (by kernel_rfl) (by kernel_rfl) (fun K hK => ?_)); simp only [sel, List.getElem?_cons_succ, List.getElem?_cons_zero, List.drop_succ_cons, List.drop_zero]; simp (disch := first | omega | (simp only [List.length_set, List.length_append, List.length_cons, List.length_nil, iv_length, zl_length]; try omega; done)) [-getElem?_pos, -getElem?_neg, h7, h5, g2, g7, g15, g16, i2, i7, i15, i16, hwl, iv_set, QM_nil, QM_cons, QMc_val]
      refine QMc_call (by kernel_rfl) (ac_of_vc (by simp [pv_iv, pv_int, pv_bool, pv_string, pv_tup2, pv_tup3, iv_plain, p2_int, p2_bool, p2_string]) (right_vc x2 17 (by omega)) rfl) rfl ?_
      try simp (disch := first | omega | (simp only [List.length_set, List.length_append, List.length_cons, List.length_nil, iv_length, zl_length]; try omega; done)) [-getElem?_pos, -getElem?_neg, h7, h5, g2, g7, g15, g16, i2, i7, i15, i16, hwl, iv_set, QM_nil, QM_cons, QMc_val]
      refine QMc_call (by kernel_rfl) (ac_of_vc (by simp [pv_iv, pv_int, pv_bool, pv_string, pv_tup2, pv_tup3, iv_plain, p2_int, p2_bool, p2_string]) (right_vc x2 19 (by omega)) rfl) rfl ?_
      try simp (disch := first | omega | (simp only [List.length_set, List.length_append, List.length_cons, List.length_nil, iv_length, zl_length]; try omega; done)) [-getElem?_pos, -getElem?_neg, h7, h5, g2, g7, g15, g16, i2, i7, i15, i16, hwl, iv_set, QM_nil, QM_cons, QMc_val]
      refine QMc_call (by kernel_rfl) (ac_of_vc (by simp [pv_iv, pv_int, pv_bool, pv_string, pv_tup2, pv_tup3, iv_plain, p2_int, p2_bool, p2_string]) (right_vc x15 7 (by omega)) rfl) rfl ?_
      try simp (disch := first | omega | (simp only [List.length_set, List.length_append, List.length_cons, List.length_nil, iv_length, zl_length]; try omega; done)) [-getElem?_pos, -getElem?_neg, h7, h5, g2, g7, g15, g16, i2, i7, i15, i16, hwl, iv_set, QM_nil, QM_cons, QMc_val]
      refine QMc_call (by kernel_rfl) (ac_of_vc (by simp [pv_iv, pv_int, pv_bool, pv_string, pv_tup2, pv_tup3, iv_plain, p2_int, p2_bool, p2_string]) (right_vc x15 18 (by omega)) rfl) rfl ?_
      try simp (disch := first | omega | (simp only [List.length_set, List.length_append, List.length_cons, List.length_nil, iv_length, zl_length]; try omega; done)) [-getElem?_pos, -getElem?_neg, h7, h5, g2, g7, g15, g16, i2, i7, i15, i16, hwl, iv_set, QM_nil, QM_cons, QMc_val]
      refine hK _ _ ?_; clear hK K
      (refine aw_ops (by kernel_rfl) (fun K hK => ?_); simp (disch := first | omega | (simp only [List.length_set, List.length_append, List.length_cons, List.length_nil, iv_length, zl_length]; try omega; done)) [-getElem?_pos, -getElem?_neg, h7]; refine hK _ _ ?_; clear hK K)
      refine ⟨q - 1, by omega, j + 1, i + 1, by omega, by omega, by (first | (simp [put_at, put_none, fr0_at]; done) | rfl), by (first | (simp [put_at, put_none, fr0_at, h2]; done) | rfl), by (first | (simp [put_at, put_none, fr0_at, h4]; done) | rfl), by (first | (simp [put_at, put_none, fr0_at, h5]; done) | rfl), ?_⟩
      rw [hws, spr10, spr3]
    · refine aw_f (by (first | (simp [eval_tmp, put_at, hlt]; done) | (simp [eval_tmp, put_at, hlt]; omega))) (by kernel_rfl) ?_
      obtain rfl : j = 48 := by omega
      refine aw_exit ?_
      refine aw_seq ?_
      clear h7 hlt hj hi
      have hbf : blockF st (nums b) = ad st (rn st (w64 (nums b) 48) 64) 8 := rfl
      rw [hbf]
      generalize w64 (nums b) 48 = ws at *
      have hrl := roundL_len
      have hsx : setR (iv .u32 (zl 64)) 0 (iv .u32 roundL) = iv .u32 roundL := setR_all _ _ (by simp [hrl])
      refine aw_ops (by kernel_rfl) (fun K hK => ?_)
      simp (disch := first | omega | (simp only [List.length_set, List.length_append, List.length_cons, List.length_nil, iv_length, zl_length]; try omega; done)) [-getElem?_pos, -getElem?_neg]
      refine ⟨by kernel_rfl, ac_of_rc rounds_rc (by simp [pv_iv, pv_int, pv_bool, pv_string, pv_tup2, pv_tup3, iv_plain, p2_int, p2_bool, p2_string]) ?_⟩
      simp (disch := first | omega | (simp only [List.length_set, List.length_append, List.length_cons, List.length_nil, iv_length, zl_length]; try omega; done)) [-getElem?_pos, -getElem?_neg, hrl, hsx]
      refine hK _ _ ?_; clear hK K
      obtain ⟨s0, s1, s2, s3, s4, s5, s6, s7, rfl⟩ := list8 _ hs
      have hiv8 : iv .u32 [s0, s1, s2, s3, s4, s5, s6, s7] = [.int .u32 s0, .int .u32 s1, .int .u32 s2, .int .u32 s3, .int .u32 s4, .int .u32 s5, .int .u32 s6, .int .u32 s7] := rfl
      refine aw_seq ?_
      (refine aw_quiet (by kernel_rfl) (by kernel_rfl) (by kernel_rfl) (fun K hK => ?_); simp (disch := first | omega | (simp only [List.length_set, List.length_append, List.length_cons, List.length_nil, iv_length, zl_length]; try omega; done)) [-getElem?_pos, -getElem?_neg, h2, hiv8]; refine hK _ ?_; clear hK K)
      refine aw_seq ?_
      (refine aw_quiet (by kernel_rfl) (by kernel_rfl) (by kernel_rfl) (fun K hK => ?_); simp (disch := first | omega | (simp only [List.length_set, List.length_append, List.length_cons, List.length_nil, iv_length, zl_length]; try omega; done)) [-getElem?_pos, -getElem?_neg, h2, hiv8]; refine hK _ ?_; clear hK K)
      refine aw_seq ?_
      refine aw_seq ?_
      (refine aw_ops (by kernel_rfl) (fun K hK => ?_); simp (disch := first | omega | (simp only [List.length_set, List.length_append, List.length_cons, List.length_nil, iv_length, zl_length]; try omega; done)) [-getElem?_pos, -getElem?_neg]; refine hK _ _ ?_; clear hK K)
      refine aw_block ?_
      refine aw_loop (fun q α H' => ∃ (i : Nat) (a b' c d e f g h : Int), i + q = 64 ∧ rn [s0, s1, s2, s3, s4, s5, s6, s7] ws i = [a, b', c, d, e, f, g, h] ∧ α 19 = .int .i64 (i : Nat) ∧ α 11 = .int .u32 a ∧ α 12 = .int .u32 b' ∧ α 13 = .int .u32 c ∧ α 14 = .int .u32 d ∧ α 15 = .int .u32 e ∧ α 16 = .int .u32 f ∧ α 17 = .int .u32 g ∧ α 18 = .int .u32 h ∧
        α 2 = .pointer (some ⟨H.length, 0, none⟩) ∧ α 4 = .pointer (some ⟨H.length + 1, 0, none⟩) ∧ α 5 = .pointer (some ⟨H.length + 2, 0, none⟩) ∧ α 10 = .pointer (some ⟨H.length + 3, 0, none⟩) ∧
        H' = H ++ [some ⟨iv .u32 [s0, s1, s2, s3, s4, s5, s6, s7], 95, none⟩, some ⟨iv .u32 (zl 8), 95, none⟩, some ⟨iv .u32 ws, 123, none⟩, some ⟨iv .u32 roundL, 123, none⟩]) 64 ?_ ?_
      · refine ⟨0, s0, s1, s2, s3, s4, s5, s6, s7, rfl, by unfold rn; rfl, by (first | (simp [put_at, put_none, fr0_at]; done) | rfl), by (first | (simp [put_at, put_none, fr0_at]; done) | rfl), by (first | (simp [put_at, put_none, fr0_at]; done) | rfl), by (first | (simp [put_at, put_none, fr0_at]; done) | rfl), by (first | (simp [put_at, put_none, fr0_at]; done) | rfl), by (first | (simp [put_at, put_none, fr0_at]; done) | rfl), by (first | (simp [put_at, put_none, fr0_at]; done) | rfl), by (first | (simp [put_at, put_none, fr0_at]; done) | rfl), by (first | (simp [put_at, put_none, fr0_at]; done) | rfl), by (first | (simp [put_at, put_none, fr0_at, h2]; done) | rfl), by (first | (simp [put_at, put_none, fr0_at, h4]; done) | rfl), by (first | (simp [put_at, put_none, fr0_at, h5]; done) | rfl), by (first | (simp [put_at, put_none, fr0_at]; done) | rfl), rfl⟩
      clear h2 h4 h5
      rintro q α H' ⟨i, a, b', c, d, e, f, g, h, hi, hrn, h19, h11, h12, h13, h14, h15, h16, h17, h18, h2, h4, h5, h10, rfl⟩
      refine aw_seq ?_
      refine aw_seq ?_
      (refine aw_ops (by kernel_rfl) (fun K hK => ?_); simp (disch := first | omega | (simp only [List.length_set, List.length_append, List.length_cons, List.length_nil, iv_length, zl_length]; try omega; done)) [-getElem?_pos, -getElem?_neg, h19]; refine hK _ _ ?_; clear hK K)
      by_cases hlt : (i : Int) < 64
      · refine aw_t (by (first | (simp [eval_tmp, put_at, hlt]; done) | (simp [eval_tmp, put_at, hlt]; omega))) (by kernel_rfl) ?_
        refine aw_skip ?_
        refine aw_seq ?_
        refine aw_block ?_
        have hrs := rn_succ [s0, s1, s2, s3, s4, s5, s6, s7] ws i
        rw [hrn] at hrs
        have gw : (iv .u32 ws)[i]? = some (.int .u32 (ws.getD i 0)) := iv_get _ _ _ (by omega)
        have gk : (iv .u32 roundL)[i]? = some (.int .u32 (roundL.getD i 0)) := iv_get _ _ _ (by omega)
        generalize roundL.getD i 0 = kk at *
        generalize ws.getD i 0 = wv at *
        have hmax : IntKind.u32.max = 4294967295 := rfl
        have hsg : IntKind.u32.signed = false := rfl
        obtain ⟨t, ht⟩ : ∃ t, t = rt e f g h kk wv := ⟨_, rfl⟩
        obtain ⟨u, hu⟩ : ∃ u, u = ru a b' c := ⟨_, rfl⟩
        have ht' := ht
        have hu' := hu
        rw [rt_eq] at ht'
        rw [ru_eq] at hu'
        refine aw_seq ?_
        refine aw_quietM (by kernel_rfl) (by kernel_rfl) (by kernel_rfl) (fun K hK => ?_)
        simp (disch := first | omega | (simp only [List.length_set, List.length_append, List.length_cons, List.length_nil, iv_length, zl_length]; try omega; done)) [-getElem?_pos, -getElem?_neg, h19, h15, h16, h17, h18, h5, h10, gk, gw, hwl, hrl, hmax, hsg, QM_nil, QM_cons, QMc_val]
        refine QMc_call (by kernel_rfl) (ac_of_vc (by simp [pv_iv, pv_int, pv_bool, pv_string, pv_tup2, pv_tup3, iv_plain, p2_int, p2_bool, p2_string]) (right_vc e 6 (by omega)) rfl) rfl ?_
        try simp (disch := first | omega | (simp only [List.length_set, List.length_append, List.length_cons, List.length_nil, iv_length, zl_length]; try omega; done)) [-getElem?_pos, -getElem?_neg, h19, h15, h16, h17, h18, h5, h10, gk, gw, hwl, hrl, hmax, hsg, QM_nil, QM_cons, QMc_val]
        refine QMc_call (by kernel_rfl) (ac_of_vc (by simp [pv_iv, pv_int, pv_bool, pv_string, pv_tup2, pv_tup3, iv_plain, p2_int, p2_bool, p2_string]) (right_vc e 11 (by omega)) rfl) rfl ?_
        try simp (disch := first | omega | (simp only [List.length_set, List.length_append, List.length_cons, List.length_nil, iv_length, zl_length]; try omega; done)) [-getElem?_pos, -getElem?_neg, h19, h15, h16, h17, h18, h5, h10, gk, gw, hwl, hrl, hmax, hsg, QM_nil, QM_cons, QMc_val]
        refine QMc_call (by kernel_rfl) (ac_of_vc (by simp [pv_iv, pv_int, pv_bool, pv_string, pv_tup2, pv_tup3, iv_plain, p2_int, p2_bool, p2_string]) (right_vc e 25 (by omega)) rfl) rfl ?_
        try simp (disch := first | omega | (simp only [List.length_set, List.length_append, List.length_cons, List.length_nil, iv_length, zl_length]; try omega; done)) [-getElem?_pos, -getElem?_neg, h19, h15, h16, h17, h18, h5, h10, gk, gw, hwl, hrl, hmax, hsg, ← ht', QM_nil, QM_cons, QMc_val]
        refine hK _ ?_; clear hK K
        refine aw_seq ?_
        refine aw_ops (by kernel_rfl) (fun K hK => ?_)
        simp (disch := first | omega | (simp only [List.length_set, List.length_append, List.length_cons, List.length_nil, iv_length, zl_length]; try omega; done)) [-getElem?_pos, -getElem?_neg, h11, h12, h13]
        refine ⟨by kernel_rfl, ac_of_vc (by simp [pv_iv, pv_int, pv_bool, pv_string, pv_tup2, pv_tup3, iv_plain, p2_int, p2_bool, p2_string]) (right_vc a 2 (by omega)) ?_⟩
        try simp (disch := first | omega | (simp only [List.length_set, List.length_append, List.length_cons, List.length_nil, iv_length, zl_length]; try omega; done)) [-getElem?_pos, -getElem?_neg, h11, h12, h13]
        refine ⟨by kernel_rfl, ac_of_vc (by simp [pv_iv, pv_int, pv_bool, pv_string, pv_tup2, pv_tup3, iv_plain, p2_int, p2_bool, p2_string]) (right_vc a 13 (by omega)) ?_⟩
        try simp (disch := first | omega | (simp only [List.length_set, List.length_append, List.length_cons, List.length_nil, iv_length, zl_length]; try omega; done)) [-getElem?_pos, -getElem?_neg, h11, h12, h13]
        refine ⟨by kernel_rfl, ac_of_vc (by simp [pv_iv, pv_int, pv_bool, pv_string, pv_tup2, pv_tup3, iv_plain, p2_int, p2_bool, p2_string]) (right_vc a 22 (by omega)) ?_⟩
        try simp (disch := first | omega | (simp only [List.length_set, List.length_append, List.length_cons, List.length_nil, iv_length, zl_length]; try omega; done)) [-getElem?_pos, -getElem?_neg, h11, h12, h13, ← hu']
        refine hK _ _ ?_; clear hK K
        refine aw_seq ?_
        (refine aw_ops (by kernel_rfl) (fun K hK => ?_); simp (disch := first | omega | (simp only [List.length_set, List.length_append, List.length_cons, List.length_nil, iv_length, zl_length]; try omega; done)) [-getElem?_pos, -getElem?_neg, h17]; refine hK _ _ ?_; clear hK K)
        refine aw_seq ?_
        (refine aw_ops (by kernel_rfl) (fun K hK => ?_); simp (disch := first | omega | (simp only [List.length_set, List.length_append, List.length_cons, List.length_nil, iv_length, zl_length]; try omega; done)) [-getElem?_pos, -getElem?_neg, h16]; refine hK _ _ ?_; clear hK K)
        refine aw_seq ?_
        (refine aw_ops (by kernel_rfl) (fun K hK => ?_); simp (disch := first | omega | (simp only [List.length_set, List.length_append, List.length_cons, List.length_nil, iv_length, zl_length]; try omega; done)) [-getElem?_pos, -getElem?_neg, h15]; refine hK _ _ ?_; clear hK K)
        refine aw_seq ?_
        (refine aw_ops (by kernel_rfl) (fun K hK => ?_); simp (disch := first | omega | (simp only [List.length_set, List.length_append, List.length_cons, List.length_nil, iv_length, zl_length]; try omega; done)) [-getElem?_pos, -getElem?_neg, h14]; refine hK _ _ ?_; clear hK K)
        refine aw_seq ?_
        (refine aw_ops (by kernel_rfl) (fun K hK => ?_); simp (disch := first | omega | (simp only [List.length_set, List.length_append, List.length_cons, List.length_nil, iv_length, zl_length]; try omega; done)) [-getElem?_pos, -getElem?_neg, h13]; refine hK _ _ ?_; clear hK K)
        refine aw_seq ?_
        (refine aw_ops (by kernel_rfl) (fun K hK => ?_); simp (disch := first | omega | (simp only [List.length_set, List.length_append, List.length_cons, List.length_nil, iv_length, zl_length]; try omega; done)) [-getElem?_pos, -getElem?_neg, h12]; refine hK _ _ ?_; clear hK K)
        refine aw_seq ?_
        (refine aw_ops (by kernel_rfl) (fun K hK => ?_); simp (disch := first | omega | (simp only [List.length_set, List.length_append, List.length_cons, List.length_nil, iv_length, zl_length]; try omega; done)) [-getElem?_pos, -getElem?_neg, h11]; refine hK _ _ ?_; clear hK K)
        (refine aw_ops (by kernel_rfl) (fun K hK => ?_); simp (disch := first | omega | (simp only [List.length_set, List.length_append, List.length_cons, List.length_nil, iv_length, zl_length]; try omega; done)) [-getElem?_pos, -getElem?_neg]; refine hK _ _ ?_; clear hK K)
        (refine aw_ops (by kernel_rfl) (fun K hK => ?_); simp (disch := first | omega | (simp only [List.length_set, List.length_append, List.length_cons, List.length_nil, iv_length, zl_length]; try omega; done)) [-getElem?_pos, -getElem?_neg, h19]; refine hK _ _ ?_; clear hK K)
        have hr' : rn [s0, s1, s2, s3, s4, s5, s6, s7] ws (i + 1) = [IntKind.u32.wrap (t + u), a, b', c, IntKind.u32.wrap (d + t), e, f, g] := by
          rw [hrs, ht, hu]; simp [rnd, w32]
        refine ⟨q - 1, by omega, i + 1, _, _, _, _, _, _, _, _, by omega, hr', by (first | (simp [put_at, put_none, fr0_at]; done) | rfl), by (first | (simp [put_at, put_none, fr0_at]; done) | rfl), by (first | (simp [put_at, put_none, fr0_at, h11]; done) | rfl), by (first | (simp [put_at, put_none, fr0_at, h12]; done) | rfl), by (first | (simp [put_at, put_none, fr0_at, h13]; done) | rfl), by (first | (simp [put_at, put_none, fr0_at]; done) | rfl), by (first | (simp [put_at, put_none, fr0_at, h15]; done) | rfl), by (first | (simp [put_at, put_none, fr0_at, h16]; done) | rfl), by (first | (simp [put_at, put_none, fr0_at, h17]; done) | rfl), by (first | (simp [put_at, put_none, fr0_at, h2]; done) | rfl), by (first | (simp [put_at, put_none, fr0_at, h4]; done) | rfl), by (first | (simp [put_at, put_none, fr0_at, h5]; done) | rfl), by (first | (simp [put_at, put_none, fr0_at, h10]; done) | rfl), rfl⟩
      · refine aw_f (by (first | (simp [eval_tmp, put_at, hlt]; done) | (simp [eval_tmp, put_at, hlt]; omega))) (by kernel_rfl) ?_
        obtain rfl : i = 64 := by omega
        refine aw_exit ?_
        rw [hrn, ad8]
        refine aw_seq ?_
        (refine aw_ops (by kernel_rfl) (fun K hK => ?_); simp (disch := first | omega | (simp only [List.length_set, List.length_append, List.length_cons, List.length_nil, iv_length, zl_length]; try omega; done)) [-getElem?_pos, -getElem?_neg, h2, h4, hiv8, h11, h12, h13, h14, h15, h16, h17, h18]; refine hK _ _ ?_; clear hK K)
        (refine aw_ret ?_; simp [thenQ_ret, inBlockQ_ret, RQ, resL, resV, xload, tab, okD, isAggD, hget_app, hget_app0, hget_cons0, hget_cons, notTuple, put_at, put_none, h4])
        unfold zl
        rfl
end

section
open Go Go.RowKit
set_option linter.unusedSimpArgs false
set_option linter.unusedVariables false
set_option maxRecDepth 100000
set_option maxHeartbeats 2000000

attribute [local simp] wb_bool wb_undef XL_nil XL_cons XLc_val XLc_call step1_eq stepW_t stepW_f stepC_n stepC_s stepX_s stepX_n stepN_s calleeX oneV xop_eq xopR_s xopR_n wantedA_eq wantedG_n wantedG_s plain1_int plain1_bool plain1_string bits_i64 bits_u64 bits_u32 bits_u16 bits_u8 xeqA xagg xcmp xarr allK_iv num_iv calleeOf xread xeff xbin xint xnil xun xstr xload xconv xpart xfield xfieldAddr xindexAddr xindex bnd asInt? xslice xlen xmin xmax xbuild xfill xappend xapp2 xappstr xappmk xcap xcopy xcells eval_tmp eval_const put_at put_none fr0_at cells_agg cells_int cells_bool cells_string cells_ptr cells_slice notTuple tab iv_all hget_app hget_app0 hget_cons0 hget_cons set_app set_app0 setR setR_one QL_nil QL_cons QLc_val stepQ_t stepQ_f stepQC_n stepQC_s stepQX_s SL_nil SL_cons SLc_val stepS_t stepS_f ltT ltF leT leF eqT eqF ltTn ltFn leTn leFn eqTn eqFn beqT beqF bneT bneF wi64 wu64 wu32 wu16 wu8 tmodP tdivP hgetL hgetNe hgetEq setL nums_def nums_len Nat.succ_le_of_lt List.getElem?_cons_zero List.getElem?_cons_succ Option.getD_some Int.toNat_add Int.toNat_mul agB agI agS agP agL agA okB okI okS okP okSl okA
theorem nums_app (a b : ByteArray) : nums (a ++ b) = nums a ++ nums b := by
  unfold nums
  rw [show (a ++ b).data.toList = a.data.toList ++ b.data.toList by simp [ByteArray.data_append]]
  rw [List.map_append]
/-- A number's eight bytes, the highest first. -/
def d8 (n : Nat) : Nat → List Int
  | 0 => zl 8
  | i + 1 => (d8 n i).set (7 - i) ((n / 256 ^ i % 256 : Nat) : Int)
theorem d8_len (n : Nat) : ∀ i, (d8 n i).length = 8
  | 0 => rfl
  | i + 1 => by simp [d8, d8_len n i]
theorem d8_succ (n i : Nat) : d8 n (i + 1) = (d8 n i).set (7 - i) ((n / 256 ^ i % 256 : Nat) : Int) := rfl
theorem d8_all (n : Nat) : d8 n 8 = [((n / 256 ^ 7 % 256 : Nat) : Int), ((n / 256 ^ 6 % 256 : Nat) : Int), ((n / 256 ^ 5 % 256 : Nat) : Int), ((n / 256 ^ 4 % 256 : Nat) : Int), ((n / 256 ^ 3 % 256 : Nat) : Int), ((n / 256 ^ 2 % 256 : Nat) : Int), ((n / 256 ^ 1 % 256 : Nat) : Int), ((n / 256 ^ 0 % 256 : Nat) : Int)] := rfl
theorem u8_nat (x : Int) (k : Nat) (h : x = (k : Int)) : IntKind.u8.wrap x = ((k % 256 : Nat) : Int) := by
  subst h
  simp only [IntKind.wrap, IntKind.bits, IntKind.signed]
  simp
theorem b4_nat (m : Nat) : b4 (m : Int) = [((m / 16777216 % 256 : Nat) : Int), ((m / 65536 % 256 : Nat) : Int), ((m / 256 % 256 : Nat) : Int), ((m % 256 : Nat) : Int)] := by
  unfold b4
  rw [u8_nat _ (m / 16777216) (by rw [Int.fdiv_eq_ediv_of_nonneg _ (by omega)]; omega), u8_nat _ (m / 65536) (by rw [Int.fdiv_eq_ediv_of_nonneg _ (by omega)]; omega), u8_nat _ (m / 256) (by rw [Int.fdiv_eq_ediv_of_nonneg _ (by omega)]; omega), u8_nat _ m rfl]
theorem len8_d8 (k : Nat) (h : k < 18446744073709551616) : len8 (k : Int) = d8 (k * 8 % 18446744073709551616) 8 := by
  unfold len8
  obtain ⟨n, hn⟩ : ∃ n, n = k * 8 % 18446744073709551616 := ⟨_, rfl⟩
  have e1 : IntKind.u64.wrap ((k : Int) * 8) = (n : Int) := by rw [wrapU64]; omega
  rw [e1, ← hn]
  have e2 : IntKind.u32.wrap ((n : Int).fdiv 4294967296) = ((n / 4294967296 : Nat) : Int) := by
    rw [Int.fdiv_eq_ediv_of_nonneg _ (by omega), wrapU32]; omega
  have e3 : IntKind.u32.wrap (n : Int) = ((n % 4294967296 : Nat) : Int) := by rw [wrapU32]; omega
  rw [e2, e3, b4_nat, b4_nat, d8_all]
  have q7 : n / 4294967296 / 16777216 % 256 = n / 256 ^ 7 % 256 := by omega
  have q6 : n / 4294967296 / 65536 % 256 = n / 256 ^ 6 % 256 := by omega
  have q5 : n / 4294967296 / 256 % 256 = n / 256 ^ 5 % 256 := by omega
  have q4 : n / 4294967296 % 256 = n / 256 ^ 4 % 256 := by omega
  have q3 : n % 4294967296 / 16777216 % 256 = n / 256 ^ 3 % 256 := by omega
  have q2 : n % 4294967296 / 65536 % 256 = n / 256 ^ 2 % 256 := by omega
  have q1 : n % 4294967296 / 256 % 256 = n / 256 ^ 1 % 256 := by omega
  have q0 : n % 4294967296 % 256 = n / 256 ^ 0 % 256 := by omega
  rw [q7, q6, q5, q4, q3, q2, q1, q0]
  rfl
theorem d8_by (n : Nat) : ∀ i, By (d8 n i)
  | 0 => fun x hx => by have := List.eq_of_mem_replicate hx; omega
  | i + 1 => by
    intro x hx
    rw [d8_succ] at hx
    rcases List.mem_or_eq_of_mem_set hx with h | h
    · exact d8_by n i x h
    · subst h; omega
theorem str_app (t : ByteArray) (l : List Int) (h : By l) : t ++ strOfNums l = strOfNums (nums t ++ l) := by
  rw [← of_nums' (t ++ strOfNums l), nums_app, nums_of l h]
/-- A text with its end. -/
def lenF (s : ByteArray) : List Int := nums s ++ padL (s.size : Int)
attribute [local irreducible] d8 zn len8
theorem lengthened_rc {H : AH} {γ : Nat → Option Nat} (s : ByteArray) (hs : s.size ≤ 1000000000000) : AC Tryd.prog H.length γ 45 #[.string s] H (fun v' _ => v' = .string (strOfNums (lenF s))) := by
  refine ac_of_aw Tryd.func45 rfl Tryd.ntmps45 Tryd.results45 (by simp) ?_
  refine aw_seq ?_
  (refine aw_ops (by kernel_rfl) (fun K hK => ?_); simp (disch := first | omega | (simp only [List.length_set, List.length_append, List.length_cons, List.length_nil, iv_length, zl_length]; try omega; done)) [-getElem?_pos, -getElem?_neg]; refine hK _ _ ?_; clear hK K)
  refine aw_seq ?_
  have h128 : (⟨#[128]⟩ : ByteArray).size = 1 := rfl
  have h1 : (⟨#[0]⟩ : ByteArray).size = 1 := rfl
  (refine aw_ops (by kernel_rfl) (fun K hK => ?_); simp (disch := first | omega | (simp only [List.length_set, List.length_append, List.length_cons, List.length_nil, iv_length, zl_length]; try omega; done)) [-getElem?_pos, -getElem?_neg, h128]; refine hK _ _ ?_; clear hK K)
  refine aw_seq ?_
  refine aw_block ?_
  have hz : zn (s.size : Int) ≤ 63 ∧ (s.size + 1 + zn (s.size : Int)) % 64 = 56 := by unfold zn; omega
  generalize hzn : zn (s.size : Int) = z at *
  refine aw_loop (fun q α H' => ∃ (i : Nat) (t : ByteArray), i + q = z ∧ nums t = nums s ++ (128 :: List.replicate i 0) ∧ t.size = s.size + 1 + i ∧ α 3 = .string t ∧ α 0 = .string s ∧ H' = H) z ?_ ?_
  · refine ⟨0, s ++ ⟨#[128]⟩, by omega, by rw [nums_app]; rfl, by simp [ByteArray.size_append, h128], by (first | (simp [put_at, put_none, fr0_at]; done) | rfl), by (first | (simp [put_at, put_none, fr0_at]; done) | rfl), rfl⟩
  rintro q α H' ⟨i, t, hi, ht, hts, h3, h0, rfl⟩
  refine aw_seq ?_
  refine aw_seq ?_
  have hm : ((t.size : Int) % 64 = 56) ↔ i = z := by omega
  (refine aw_ops (by kernel_rfl) (fun K hK => ?_); simp (disch := first | omega | (simp only [List.length_set, List.length_append, List.length_cons, List.length_nil, iv_length, zl_length]; try omega; done)) [-getElem?_pos, -getElem?_neg, h3]; refine hK _ _ ?_; clear hK K)
  by_cases hlt : i = z
  · have hq : (t.size : Int) % 64 = 56 := hm.2 hlt
    refine aw_f (by (first | (simp [eval_tmp, put_at, hq]; done) | (simp [eval_tmp, put_at, hq]; omega))) (by kernel_rfl) ?_
    refine aw_exit ?_
    subst hlt
    refine aw_seq ?_
    have hn : IntKind.u64.wrap ((s.size : Int) * 8) = ((s.size * 8 : Nat) : Int) := by rw [wrapU64]; omega
    (refine aw_ops (by kernel_rfl) (fun K hK => ?_); simp (disch := first | omega | (simp only [List.length_set, List.length_append, List.length_cons, List.length_nil, iv_length, zl_length]; try omega; done)) [-getElem?_pos, -getElem?_neg, h0, hn]; refine hK _ _ ?_; clear hK K)
    refine aw_seq ?_
    (refine aw_ops (by kernel_rfl) (fun K hK => ?_); simp (disch := first | omega | (simp only [List.length_set, List.length_append, List.length_cons, List.length_nil, iv_length, zl_length]; try omega; done)) [-getElem?_pos, -getElem?_neg]; refine hK _ _ ?_; clear hK K)
    refine aw_seq ?_
    refine aw_seq ?_
    (refine aw_ops (by kernel_rfl) (fun K hK => ?_); simp (disch := first | omega | (simp only [List.length_set, List.length_append, List.length_cons, List.length_nil, iv_length, zl_length]; try omega; done)) [-getElem?_pos, -getElem?_neg]; refine hK _ _ ?_; clear hK K)
    refine aw_block ?_
    clear hn hm
    have hl8 := len8_d8 s.size (by omega)
    rw [Nat.mod_eq_of_lt (by omega)] at hl8
    have hlen : lenF s = nums t ++ d8 (s.size * 8) 8 := by
      unfold lenF padL
      rw [hl8, hzn, ht, List.append_assoc]
      rfl
    generalize hnn : s.size * 8 = n at *
    refine aw_loop (fun q α H'' => ∃ (k m : Nat), k + q = 8 ∧ m = n / 256 ^ k ∧ α 6 = .int .i64 (k : Nat) ∧ α 4 = .int .u64 (m : Nat) ∧ α 3 = .string t ∧ α 5 = .pointer (some ⟨H'.length, 0, none⟩) ∧
      H'' = H' ++ [some ⟨iv .u8 (d8 n k), 122, none⟩]) 8 ?_ ?_
    · refine ⟨0, n, rfl, by simp, by (first | (simp [put_at, put_none, fr0_at]; done) | rfl), ?_, by (first | (simp [put_at, put_none, fr0_at, h3]; done) | rfl), by (first | (simp [put_at, put_none, fr0_at]; done) | rfl), by unfold d8; rfl⟩
      have : (s.size : Int) * 8 = (n : Int) := by omega
      (first | (simp [put_at, put_none, fr0_at, this]; done) | rfl)
    rintro q' α H'' ⟨k, m, hk, hm, h6, h4, h3, h5, rfl⟩
    refine aw_seq ?_
    refine aw_seq ?_
    (refine aw_ops (by kernel_rfl) (fun K hK => ?_); simp (disch := first | omega | (simp only [List.length_set, List.length_append, List.length_cons, List.length_nil, iv_length, zl_length]; try omega; done)) [-getElem?_pos, -getElem?_neg, h6]; refine hK _ _ ?_; clear hK K)
    by_cases hlt : (k : Int) < 8
    · refine aw_t (by (first | (simp [eval_tmp, put_at, hlt]; done) | (simp [eval_tmp, put_at, hlt]; omega))) (by kernel_rfl) ?_
      refine aw_skip ?_
      refine aw_seq ?_
      refine aw_block ?_
      refine aw_seq ?_
      have hds := d8_succ n k
      rw [← hm] at hds
      have hx : (m : Int) % 256 = ((m % 256 : Nat) : Int) := by omega
      obtain ⟨x, hxx⟩ : ∃ x : Int, x = ((m % 256 : Nat) : Int) := ⟨_, rfl⟩
      rw [← hxx] at hds hx
      obtain ⟨o, ho⟩ : ∃ o : Nat, o = 7 - k := ⟨_, rfl⟩
      have ho' : 7 - (k : Int) = o := by omega
      rw [← ho] at hds
      have hdl := d8_len n k
      have hmb : n / 256 ^ k ≤ n := Nat.div_le_self _ _
      have hxb : 0 ≤ x ∧ x ≤ 255 := by omega
      (refine aw_ops (by kernel_rfl) (fun K hK => ?_); simp (disch := first | omega | (simp only [List.length_set, List.length_append, List.length_cons, List.length_nil, iv_length, zl_length]; try omega; done)) [-getElem?_pos, -getElem?_neg, h6, h4, h5, ho', hx, hdl, iv_set, ← hds]; refine hK _ _ ?_; clear hK K)
      (refine aw_ops (by kernel_rfl) (fun K hK => ?_); simp (disch := first | omega | (simp only [List.length_set, List.length_append, List.length_cons, List.length_nil, iv_length, zl_length]; try omega; done)) [-getElem?_pos, -getElem?_neg, h4]; refine hK _ _ ?_; clear hK K)
      (refine aw_ops (by kernel_rfl) (fun K hK => ?_); simp (disch := first | omega | (simp only [List.length_set, List.length_append, List.length_cons, List.length_nil, iv_length, zl_length]; try omega; done)) [-getElem?_pos, -getElem?_neg, h6]; refine hK _ _ ?_; clear hK K)
      refine ⟨q' - 1, by omega, k + 1, m / 256, by omega, ?_, by (first | (simp [put_at, put_none, fr0_at]; done) | rfl), by (first | (simp [put_at, put_none, fr0_at]; done) | rfl), by (first | (simp [put_at, put_none, fr0_at, h3]; done) | rfl), by (first | (simp [put_at, put_none, fr0_at, h5]; done) | rfl), rfl⟩
      rw [hm, Nat.div_div_eq_div_mul, ← Nat.pow_succ]
    · refine aw_f (by (first | (simp [eval_tmp, put_at, hlt]; done) | (simp [eval_tmp, put_at, hlt]; omega))) (by kernel_rfl) ?_
      obtain rfl : k = 8 := by omega
      refine aw_exit ?_
      refine aw_seq ?_
      have hb8 := d8_by n 8
      have hdl := d8_len n 8
      have hsz : (strOfNums (d8 n 8)).size = 8 := by rw [strOfNums_size, hdl]
      rw [hlen, ← str_app t _ hb8]
      generalize d8 n 8 = l8 at *
      (refine aw_ops (by kernel_rfl) (fun K hK => ?_); simp (disch := first | omega | (simp only [List.length_set, List.length_append, List.length_cons, List.length_nil, iv_length, zl_length]; try omega; done)) [-getElem?_pos, -getElem?_neg, h3, h5, hdl, List.take_of_length_le, byteList_iv, hsz]; refine hK _ _ ?_; clear hK K)
      (refine aw_ret ?_; simp [thenQ_ret, inBlockQ_ret, RQ, resL, resV, xload, tab, okD, isAggD, hget_app, hget_app0, hget_cons0, hget_cons, notTuple, put_at, put_none])
  · have hq : ¬ (t.size : Int) % 64 = 56 := fun h => hlt (hm.1 h)
    refine aw_t (by (first | (simp [eval_tmp, put_at, hq]; done) | (simp [eval_tmp, put_at, hq]; omega))) (by kernel_rfl) ?_
    refine aw_skip ?_
    refine aw_block ?_
    (refine aw_ops (by kernel_rfl) (fun K hK => ?_); simp (disch := first | omega | (simp only [List.length_set, List.length_append, List.length_cons, List.length_nil, iv_length, zl_length]; try omega; done)) [-getElem?_pos, -getElem?_neg, h3, h1]; refine hK _ _ ?_; clear hK K)
    refine ⟨q - 1, by omega, i + 1, t ++ ⟨#[0]⟩, by omega, ?_, by simp [ByteArray.size_append, h1]; omega, by (first | (simp [put_at, put_none, fr0_at]; done) | rfl), by (first | (simp [put_at, put_none, fr0_at, h0]; done) | rfl), rfl⟩
    rw [nums_app, ht, List.append_assoc]
    show _ ++ ((128 :: List.replicate i 0) ++ [0]) = _
    rw [List.cons_append, ← List.replicate_succ']
theorem lenF_len (s : ByteArray) : (lenF s).length % 64 = 0 ∧ (lenF s).length ≤ s.size + 128 := by
  unfold lenF padL
  have h8 : (len8 (s.size : Int)).length = 8 := by unfold len8; rfl
  rw [List.length_append, nums_len, List.length_cons, List.length_append, h8, List.length_replicate]
  unfold zn
  omega
theorem lenF_by (s : ByteArray) : By (lenF s) := by unfold lenF; exact By.app (nums_bd s) (padL_by _)
theorem takeB_n (l : List Int) : ∀ (s : HS), (0 ≤ s.n ∧ s.n < 18446744073709551616) → (takeB s l).n = IntKind.u64.wrap (s.n + l.length) := by
  induction l with
  | nil => intro s h; show s.n = _; rw [List.length_nil, wrapU64]; omega
  | cons x l ih =>
    intro s h
    have e : (stepB s x).n = IntKind.u64.wrap (s.n + 1) := by unfold stepB; split <;> rfl
    rw [takeB_cons, ih _ (by rw [e, wrapU64]; omega), e]
    simp only [wrapU64, List.length_cons]
    omega
theorem setI_all (xs : List Int) : ∀ (l : List Int), xs.length = l.length → setI l 0 xs = xs := by
  intro l h
  have := setR_all (iv .u8 l) (iv .u8 xs) (by simp [h])
  rw [iv_setI] at this
  have h2 := congrArg (List.map num) this
  rwa [num_iv, num_iv] at h2
/-- The state behind k blocks. -/
def stF (l : List Int) (k : Nat) : List Int := if k = 0 then startL else (takeB hs0 (l.take (64 * k))).st
theorem stF_len (l : List Int) (hb : By l) (k : Nat) : (stF l k).length = 8 := by
  unfold stF
  split
  · exact startL_len
  · exact (takeB_wf _ hs0 hs0_wf fun x hx => hb x (List.mem_of_mem_take hx)).hs
theorem stF_succ (l : List Int) (hb : By l) (k : Nat) (h : 64 * (k + 1) ≤ l.length) (h2 : l.length < 9223372036854775808) : stF l (k + 1) = blockF (stF l k) ((l.drop (64 * k)).take 64) := by
  have hwf := takeB_wf (l.take (64 * k)) hs0 hs0_wf fun x hx => hb x (List.mem_of_mem_take hx)
  have hn := takeB_n (l.take (64 * k)) hs0 hs0_wf.hn
  have hlt : (l.take (64 * k)).length = 64 * k := by rw [List.length_take]; omega
  rw [hlt, show hs0.n = 0 from rfl, wrapU64] at hn
  have hcl : ((l.drop (64 * k)).take 64).length = 64 := by rw [List.length_take, List.length_drop]; omega
  have e : l.take (64 * (k + 1)) = l.take (64 * k) ++ (l.drop (64 * k)).take 64 := by rw [show 64 * (k + 1) = 64 * k + 64 by omega, List.take_add]
  have hl : stF l (k + 1) = (takeB (takeB hs0 (l.take (64 * k))) ((l.drop (64 * k)).take 64)).st := by
    unfold stF
    rw [if_neg (by omega), e, takeB_append]
  rw [hl]
  have hk0 : stF l k = if k = 0 then startL else (takeB hs0 (l.take (64 * k))).st := rfl
  rw [hk0]
  generalize takeB hs0 (l.take (64 * k)) = S at *
  generalize (l.drop (64 * k)).take 64 = c at *
  have ho : (S.n % 64).toNat = 0 := by omega
  have hch := takeB_chunk c S hwf.hn (by omega) (by omega)
  rw [hch, if_pos (by rw [wrapU64]; omega), ho, setI_all c S.rs (by rw [hcl, hwf.hr])]
  show compF S.st c _ = _
  unfold compF st0
  by_cases hk : k = 0
  · subst hk
    rw [if_pos (by rw [wrapU64]; omega), if_pos rfl]
    rfl
  · rw [if_neg (by rw [wrapU64]; omega), if_neg hk]
    rfl
theorem outL_get (st : List Int) : ∀ (q r : Nat), r < 4 → q < st.length → (outL st).getD (4 * q + r) 0 = (b4 (st.getD q 0)).getD r 0 := by
  induction st with
  | nil => intro q r _ h; simp at h
  | cons x st ih =>
    intro q r hr hq
    have e : outL (x :: st) = b4 x ++ outL st := rfl
    rw [e]
    cases q with
    | zero =>
      rw [List.getD_eq_getElem?_getD, List.getElem?_append_left (by rw [b4_len]; omega), List.getD_cons_zero, List.getD_eq_getElem?_getD]
      simp
    | succ q =>
      rw [List.getD_eq_getElem?_getD, List.getElem?_append_right (by rw [b4_len]; omega), b4_len, show 4 * (q + 1) + r - 4 = 4 * q + r by omega, ← List.getD_eq_getElem?_getD, ih q r hr (by simpa using hq), List.getD_cons_succ]
theorem b4_get (x : Int) (r : Nat) (h : r < 4) : (b4 x).getD r 0 = IntKind.u8.wrap (x.fdiv (2 ^ (24 - 8 * r))) := by
  match r, h with
  | 0, _ => rfl
  | 1, _ => rfl
  | 2, _ => rfl
  | 3, _ => show IntKind.u8.wrap x = IntKind.u8.wrap (x.fdiv 1); rw [Int.fdiv_one]
attribute [local irreducible] outL blockF stF lenF startL
theorem refsum_rc {H : AH} {γ : Nat → Option Nat} (s : ByteArray) (hs : s.size ≤ 1000000000000) : AC Tryd.prog H.length γ 23 #[.string s] H (fun v' _ => v' = .agg (iv .u8 (outL (stF (lenF s) ((lenF s).length / 64)))).toArray) := by
  refine ac_of_aw Tryd.func23 rfl Tryd.ntmps23 Tryd.results23 (by simp) ?_
  have hln := lenF_len s
  have hby := lenF_by s
  have hsz := strOfNums_size (lenF s)
  have hnm := nums_of (lenF s) hby
  refine aw_seq ?_
  (refine aw_ops (by kernel_rfl) (fun K hK => ?_); simp (disch := first | omega | (simp only [List.length_set, List.length_append, List.length_cons, List.length_nil, iv_length, zl_length]; try omega; done)) [-getElem?_pos, -getElem?_neg]; refine hK _ _ ?_; clear hK K)
  refine aw_seq ?_
  refine aw_ops (by kernel_rfl) (fun K hK => ?_)
  simp (disch := first | omega | (simp only [List.length_set, List.length_append, List.length_cons, List.length_nil, iv_length, zl_length]; try omega; done)) [-getElem?_pos, -getElem?_neg]
  refine ⟨by kernel_rfl, ac_of_rc (lengthened_rc s hs) (by simp [pv_iv, pv_int, pv_bool, pv_string, pv_tup2, pv_tup3, iv_plain, p2_int, p2_bool, p2_string]) ?_⟩
  try simp (disch := first | omega | (simp only [List.length_set, List.length_append, List.length_cons, List.length_nil, iv_length, zl_length]; try omega; done)) [-getElem?_pos, -getElem?_neg]
  refine hK _ _ ?_; clear hK K
  generalize lenF s = l at *
  generalize strOfNums l = t at *
  refine aw_seq ?_
  have hst0 : ((((((((iv .u32 (zl 8)).set 0 (.int .u32 1779033703)).set 1 (.int .u32 3144134277)).set 2 (.int .u32 1013904242)).set 3 (.int .u32 2773480762)).set 4 (.int .u32 1359893119)).set 5 (.int .u32 2600822924)).set 6 (.int .u32 528734635)).set 7 (.int .u32 1541459225) = iv .u32 startL := by unfold zl startL; rfl
  have hsx : setR (iv .u32 (zl 8)) 0 (iv .u32 startL) = iv .u32 startL := setR_all _ _ (by simp [startL_len])
  have hstl := startL_len
  (refine aw_ops (by kernel_rfl) (fun K hK => ?_); simp (disch := first | omega | (simp only [List.length_set, List.length_append, List.length_cons, List.length_nil, iv_length, zl_length]; try omega; done)) [-getElem?_pos, -getElem?_neg, hst0, hstl, hsx]; refine hK _ _ ?_; clear hK K)
  refine aw_seq ?_
  refine aw_seq ?_
  (refine aw_ops (by kernel_rfl) (fun K hK => ?_); simp (disch := first | omega | (simp only [List.length_set, List.length_append, List.length_cons, List.length_nil, iv_length, zl_length]; try omega; done)) [-getElem?_pos, -getElem?_neg]; refine hK _ _ ?_; clear hK K)
  refine aw_block ?_
  obtain ⟨N, hN⟩ : ∃ N, l.length = 64 * N := ⟨l.length / 64, by omega⟩
  have hN2 : l.length / 64 = N := by omega
  rw [hN2]
  refine aw_loop (fun q α H' => ∃ (k : Nat), k + q = N ∧ α 5 = .int .i64 ((64 * k : Nat) : Int) ∧ α 3 = .string t ∧ α 2 = .pointer (some ⟨H.length, 0, none⟩) ∧ α 4 = .pointer (some ⟨H.length + 1, 0, none⟩) ∧
    H' = H ++ [some ⟨iv .u8 (zl 32), 64, none⟩, some ⟨iv .u32 (stF l k), 95, none⟩]) N ?_ ?_
  · refine ⟨0, by omega, by (first | (simp [put_at, put_none, fr0_at]; done) | rfl), by (first | (simp [put_at, put_none, fr0_at]; done) | rfl), by (first | (simp [put_at, put_none, fr0_at]; done) | rfl), by (first | (simp [put_at, put_none, fr0_at]; done) | rfl), by unfold stF; rfl⟩
  rintro q α H' ⟨k, hk, h5, h3, h2, h4, rfl⟩
  have hsl := stF_len l hby k
  refine aw_seq ?_
  refine aw_seq ?_
  obtain ⟨o, ho⟩ : ∃ o : Nat, o = 64 * k := ⟨_, rfl⟩
  rw [← ho] at h5
  (refine aw_ops (by kernel_rfl) (fun K hK => ?_); simp (disch := first | omega | (simp only [List.length_set, List.length_append, List.length_cons, List.length_nil, iv_length, zl_length]; try omega; done)) [-getElem?_pos, -getElem?_neg, h5, h3]; refine hK _ _ ?_; clear hK K)
  by_cases hlt : k < N
  · have hq : (o : Int) < t.size := by omega
    refine aw_t (by (first | (simp [eval_tmp, put_at, hq]; done) | (simp [eval_tmp, put_at, hq]; omega))) (by kernel_rfl) ?_
    refine aw_skip ?_
    refine aw_seq ?_
    refine aw_block ?_
    have hB := block_rc (H := H ++ [some ⟨iv .u8 (zl 32), 64, none⟩, some ⟨iv .u32 (stF l k), 95, none⟩]) (γ := γ) (stF l k) (t.extract o (o + 64)) hsl (by rw [← nums_len, nums_extract, hnm, List.length_take, List.length_drop]; omega)
    have hnx : nums (t.extract o (o + 64)) = (l.drop (64 * k)).take 64 := by rw [nums_extract, hnm, ho]; congr 1; omega
    have hss := stF_succ l hby k (by omega) (by omega)
    rw [hnx, ← hss] at hB
    have hsl2 := stF_len l hby (k + 1)
    have hsx2 : setR (iv .u32 (stF l k)) 0 (iv .u32 (stF l (k + 1))) = iv .u32 (stF l (k + 1)) := setR_all _ _ (by simp [hsl, hsl2])
    have htk : (iv .u32 (stF l k)).take 8 = iv .u32 (stF l k) := List.take_of_length_le (by simp [hsl])
    (refine aw_floatQ [] [0, 1, 2, 3, 4, 5, 6] 7 0 (by kernel_rfl) (by kernel_rfl) (by kernel_rfl) (fun K hK => ?_)); simp only [sel, List.getElem?_cons_succ, List.getElem?_cons_zero, List.drop_succ_cons, List.drop_zero]; simp (disch := first | omega | (simp only [List.length_set, List.length_append, List.length_cons, List.length_nil, iv_length, zl_length]; try omega; done)) [-getElem?_pos, -getElem?_neg, h4, h3, h5, hsl, htk, QM_nil, QM_cons, QMc_val]
    refine QMc_call (by kernel_rfl) hB (by simp [pv_iv, pv_int, pv_bool, pv_string, pv_tup2, pv_tup3, iv_plain, p2_int, p2_bool, p2_string]) ?_
    simp (disch := first | omega | (simp only [List.length_set, List.length_append, List.length_cons, List.length_nil, iv_length, zl_length]; try omega; done)) [-getElem?_pos, -getElem?_neg, h4, hsl, hsl2, hsx2, QM_nil, QM_cons, QMc_val]
    refine hK _ _ ?_; clear hK K
    (refine aw_ops (by kernel_rfl) (fun K hK => ?_); simp (disch := first | omega | (simp only [List.length_set, List.length_append, List.length_cons, List.length_nil, iv_length, zl_length]; try omega; done)) [-getElem?_pos, -getElem?_neg, h5]; refine hK _ _ ?_; clear hK K)
    refine ⟨q - 1, by omega, k + 1, by omega, ?_, by (first | (simp [put_at, put_none, fr0_at, h3]; done) | rfl), by (first | (simp [put_at, put_none, fr0_at, h2]; done) | rfl), by (first | (simp [put_at, put_none, fr0_at, h4]; done) | rfl), rfl⟩
    have : (o : Int) + 64 = ((64 * (k + 1) : Nat) : Int) := by omega
    (first | (simp [put_at, put_none, fr0_at, this]; done) | rfl)
  · have hq : ¬ (o : Int) < t.size := by omega
    refine aw_f (by (first | (simp [eval_tmp, put_at, hq]; done) | (simp [eval_tmp, put_at, hq]; omega))) (by kernel_rfl) ?_
    obtain rfl : k = N := by omega
    refine aw_exit ?_
    clear h5 h3 hq hlt
    refine aw_seq ?_
    (refine aw_ops (by kernel_rfl) (fun K hK => ?_); simp (disch := first | omega | (simp only [List.length_set, List.length_append, List.length_cons, List.length_nil, iv_length, zl_length]; try omega; done)) [-getElem?_pos, -getElem?_neg]; refine hK _ _ ?_; clear hK K)
    refine aw_seq ?_
    refine aw_seq ?_
    (refine aw_ops (by kernel_rfl) (fun K hK => ?_); simp (disch := first | omega | (simp only [List.length_set, List.length_append, List.length_cons, List.length_nil, iv_length, zl_length]; try omega; done)) [-getElem?_pos, -getElem?_neg]; refine hK _ _ ?_; clear hK K)
    refine aw_block ?_
    generalize stF l k = st at *
    have hol : (outL st).length = 32 := by rw [outL_len, hsl]
    refine aw_loop (fun q α H' => ∃ (i : Nat), i + q = 32 ∧ α 7 = .int .i64 (i : Nat) ∧ α 2 = .pointer (some ⟨H.length, 0, none⟩) ∧ α 4 = .pointer (some ⟨H.length + 1, 0, none⟩) ∧ α 6 = .pointer (some ⟨H.length + 2, 0, none⟩) ∧
      H' = H ++ [some ⟨iv .u8 (zl 32), 64, none⟩, some ⟨iv .u32 st, 95, none⟩, some ⟨iv .u8 ((outL st).take i ++ zl (32 - i)), 64, none⟩]) 32 ?_ ?_
    · refine ⟨0, by omega, by (first | (simp [put_at, put_none, fr0_at]; done) | rfl), by (first | (simp [put_at, put_none, fr0_at, h2]; done) | rfl), by (first | (simp [put_at, put_none, fr0_at, h4]; done) | rfl), by (first | (simp [put_at, put_none, fr0_at]; done) | rfl), rfl⟩
    clear h2 h4
    rintro q α H' ⟨i, hi, h7, h2, h4, h6, rfl⟩
    refine aw_seq ?_
    refine aw_seq ?_
    (refine aw_ops (by kernel_rfl) (fun K hK => ?_); simp (disch := first | omega | (simp only [List.length_set, List.length_append, List.length_cons, List.length_nil, iv_length, zl_length]; try omega; done)) [-getElem?_pos, -getElem?_neg, h7]; refine hK _ _ ?_; clear hK K)
    by_cases hlt : (i : Int) < 32
    · refine aw_t (by (first | (simp [eval_tmp, put_at, hlt]; done) | (simp [eval_tmp, put_at, hlt]; omega))) (by kernel_rfl) ?_
      refine aw_skip ?_
      refine aw_seq ?_
      refine aw_block ?_
      obtain ⟨a, ha⟩ : ∃ a : Nat, a = i / 4 := ⟨_, rfl⟩
      obtain ⟨r, hr⟩ : ∃ r : Nat, r = i % 4 := ⟨_, rfl⟩
      obtain ⟨e, he⟩ : ∃ e : Nat, e = 24 - 8 * r := ⟨_, rfl⟩
      have ha' : (i : Int) / 4 = (a : Int) := by omega
      have hr' : (i : Int) % 4 = (r : Int) := by omega
      have he' : 24 - 8 * (r : Int) = (e : Int) := by omega
      have g := outL_get st a r (by omega) (by omega)
      rw [b4_get _ r (by omega), ← he, show 4 * a + r = i by omega] at g
      have hsn := set_next (outL st) 32 i hol (by omega)
      have hfl := fill_len (outL st) 32 i hol (by omega)
      have ga : (iv .u32 st)[a]? = some (.int .u32 (st.getD a 0)) := iv_get _ _ _ (by omega)
      generalize st.getD a 0 = x at *
      rw [g] at hsn
      generalize (outL st).take i ++ zl (32 - i) = F at *
      (refine aw_ops (by kernel_rfl) (fun K hK => ?_); simp (disch := first | omega | (simp only [List.length_set, List.length_append, List.length_cons, List.length_nil, iv_length, zl_length]; try omega; done)) [-getElem?_pos, -getElem?_neg, -wu8, h7, h4, h6, ha', hr', he', ga, hsl, hfl, iv_set, hsn]; refine hK _ _ ?_; clear hK K)
      (refine aw_ops (by kernel_rfl) (fun K hK => ?_); simp (disch := first | omega | (simp only [List.length_set, List.length_append, List.length_cons, List.length_nil, iv_length, zl_length]; try omega; done)) [-getElem?_pos, -getElem?_neg, h7]; refine hK _ _ ?_; clear hK K)
      refine ⟨q - 1, by omega, i + 1, by omega, by (first | (simp [put_at, put_none, fr0_at]; done) | rfl), by (first | (simp [put_at, put_none, fr0_at, h2]; done) | rfl), by (first | (simp [put_at, put_none, fr0_at, h4]; done) | rfl), by (first | (simp [put_at, put_none, fr0_at, h6]; done) | rfl), ?_⟩
      rw [show 32 - (i + 1) = 31 - i by omega]
    · refine aw_f (by (first | (simp [eval_tmp, put_at, hlt]; done) | (simp [eval_tmp, put_at, hlt]; omega))) (by kernel_rfl) ?_
      obtain rfl : i = 32 := by omega
      refine aw_exit ?_
      have e1 : (outL st).take 32 ++ zl (32 - 32) = outL st := by rw [List.take_of_length_le (by omega)]; simp [zl]
      have hsx3 : setR (iv .u8 (zl 32)) 0 (iv .u8 (outL st)) = iv .u8 (outL st) := setR_all _ _ (by simp [hol])
      have htx : (iv .u8 (outL st)).take 32 = iv .u8 (outL st) := List.take_of_length_le (by simp [hol])
      rw [e1]
      refine aw_seq ?_
      (refine aw_ops (by kernel_rfl) (fun K hK => ?_); simp (disch := first | omega | (simp only [List.length_set, List.length_append, List.length_cons, List.length_nil, iv_length, zl_length]; try omega; done)) [-getElem?_pos, -getElem?_neg, h2, h6, hol, hsx3, htx]; refine hK _ _ ?_; clear hK K)
      (refine aw_ret ?_; simp [thenQ_ret, inBlockQ_ret, RQ, resL, resV, xload, tab, okD, isAggD, hget_app, hget_app0, hget_cons0, hget_cons, notTuple, put_at, put_none, h2, hol, htx])
/-- The document's digest is the program's. -/
theorem dig_eq (s : ByteArray) (hs : s.size ≤ 1000000000000) : outL (stF (lenF s) ((lenF s).length / 64)) = dig (takeB hs0 (nums s)) := by
  have hln := lenF_len s
  have h0 : ¬ (lenF s).length / 64 = 0 := by
    have : 0 < (lenF s).length := by unfold lenF padL; simp; omega
    omega
  unfold stF dig
  rw [if_neg h0, List.take_of_length_le (by omega), ← takeB_append]
  have hn := takeB_n (nums s) hs0 hs0_wf.hn
  rw [nums_len, show hs0.n = 0 from rfl, wrapU64] at hn
  rw [hn, show (0 + (s.size : Int)) % 18446744073709551616 = s.size by omega]
  unfold lenF
  rfl
theorem refsum {H : AH} {γ : Nat → Option Nat} (s : ByteArray) (hs : s.size ≤ 1000000000000) : AC Tryd.prog H.length γ 23 #[.string s] H (fun v' _ => v' = .agg (iv .u8 (dig (takeB hs0 (nums s)))).toArray) := by
  rw [← dig_eq s hs]
  exact refsum_rc s hs
end

section
open Go Go.RowKit
set_option linter.unusedVariables false
set_option linter.unusedSimpArgs false
set_option maxRecDepth 100000
set_option maxHeartbeats 4000000
attribute [local simp] wb_bool wb_undef XL_nil XL_cons XLc_val XLc_call step1_eq stepW_t stepW_f stepC_n stepC_s stepX_s stepX_n stepN_s calleeX oneV xop_eq xopR_s xopR_n wantedA_eq wantedG_n wantedG_s plain1_int plain1_bool plain1_string bits_i64 bits_u64 bits_u32 bits_u16 bits_u8 xeqA xagg xcmp xarr allK_iv num_iv calleeOf xread xeff xbin xint xnil xun xstr xload xconv xpart xfield xfieldAddr xindexAddr xindex bnd asInt? xslice xlen xmin xmax xbuild xfill xappend xapp2 xappstr xappmk xcap xcopy xcells eval_tmp eval_const put_at put_none fr0_at cells_agg cells_int cells_bool cells_string cells_ptr cells_slice notTuple tab iv_all hget_app hget_app0 hget_cons0 hget_cons set_app set_app0 setR setR_one QL_nil QL_cons QLc_val stepQ_t stepQ_f stepQC_n stepQC_s stepQX_s SL_nil SL_cons SLc_val stepS_t stepS_f ltT ltF leT leF eqT eqF ltTn ltFn leTn leFn eqTn eqFn beqT beqF bneT bneF wi64 wu64 wu32 wu16 wu8 tmodP tdivP hgetL hgetNe hgetEq setL nums_def nums_len Nat.succ_le_of_lt List.getElem?_cons_zero List.getElem?_cons_succ Option.getD_some Int.toNat_add Int.toNat_mul agB agI agS agP agL agA okB okI okS okP okSl okA
theorem refText_ac {H : AH} {γ : Nat → Option Nat} {nro : Nat} {s : ByteArray} (hs : s.size ≤ 100000) (hnl : nro ≤ H.length) :
    AC Tryd.prog nro γ 22 #[.string s] H (fun v' H' => v' = .string (strOfNums (numB s.size ++ nums s)) ∧ ∃ L, H' = H ++ L) := by
  have hw : IntKind.u32.wrap (s.size : Nat) = (s.size : Nat) := by simp only [IntKind.wrap_u32']; omega
  have h5 := numB_len s.size
  have hsz : (strOfNums (numB s.size)).size + s.size ≤ 9223372036854775807 := by rw [sn_size]; omega
  have happ : strOfNums (numB s.size) ++ s = strOfNums (numB s.size ++ nums s) := by
    rw [← sn_app, of_nums' s]
  refine ac_of_aw Tryd.func22 rfl Tryd.ntmps22 Tryd.results22 (by simp) ?_
  refine aw_seq ?_
  (refine aw_ops (by kernel_rfl) (fun K hK => ?_); simp (disch := first | omega | (simp only [List.length_set, List.length_append, List.length_cons, List.length_nil, iv_length, zl_length]; try omega; done)) [-getElem?_pos, -getElem?_neg]; refine hK _ _ ?_; clear hK K)
  refine aw_seq ?_
  refine aw_ops (by kernel_rfl) (fun K hK => ?_)
  simp (disch := first | omega | (simp only [List.length_set, List.length_append, List.length_cons, List.length_nil, iv_length, zl_length]; try omega; done)) [-getElem?_pos, -getElem?_neg, hw]
  refine ⟨by kernel_rfl, (refNumber_ac (by omega) hnl).mono ?_⟩
  rintro v1 H1 ⟨rfl, L, rfl⟩
  try simp (disch := first | omega | (simp only [List.length_set, List.length_append, List.length_cons, List.length_nil, iv_length, zl_length]; try omega; done)) [-getElem?_pos, -getElem?_neg, hsz, happ]
  refine hK _ _ ?_; clear hK K
  (refine aw_ret ?_; simp (disch := first | omega | (simp only [List.length_set, List.length_append, List.length_cons, List.length_nil, iv_length, zl_length]; try omega; done)) [-getElem?_pos, -getElem?_neg, thenQ_ret, scopeQ_ret, inBlockQ_ret, RQ, resL, resV])
end

section
open Go Go.RowKit
set_option linter.unusedSimpArgs false
set_option linter.unusedVariables false
set_option maxRecDepth 100000
set_option maxHeartbeats 4000000

def rfill (l : List Int) (n : Nat) : List Int := l ++ zl (n - l.length)
attribute [local irreducible] markL
attribute [local simp] wb_bool wb_undef XL_nil XL_cons XLc_val XLc_call step1_eq stepW_t stepW_f stepC_n stepC_s stepX_s stepX_n stepN_s calleeX oneV xop_eq xopR_s xopR_n wantedA_eq wantedG_n wantedG_s plain1_int plain1_bool plain1_string bits_i64 bits_u64 bits_u32 bits_u16 bits_u8 xeqA xagg xcmp xarr allK_iv num_iv calleeOf xread xeff xbin xint xnil xun xstr xload xconv xpart xfield xfieldAddr xindexAddr xindex bnd asInt? xslice xlen xmin xmax xbuild xfill xappend xapp2 xappstr xappmk xcap xcopy xcells eval_tmp eval_const put_at put_none fr0_at cells_agg cells_int cells_bool cells_string cells_ptr cells_slice notTuple tab iv_all hget_app hget_app0 hget_cons0 hget_cons set_app set_app0 setR setR_one QL_nil QL_cons QLc_val stepQ_t stepQ_f stepQC_n stepQC_s stepQX_s SL_nil SL_cons SLc_val stepS_t stepS_f ltT ltF leT leF eqT eqF ltTn ltFn leTn leFn eqTn eqFn beqT beqF bneT bneF wi64 wu64 wu32 wu16 wu8 tmodP tdivP hgetL hgetNe hgetEq setL nums_def nums_len Nat.succ_le_of_lt List.getElem?_cons_zero List.getElem?_cons_succ Option.getD_some Int.toNat_add Int.toNat_mul agB agI agS agP agL agA okB okI okS okP okSl okA
theorem rfilled_rc {γ : Nat → Option Nat} {H : AH} (l : List Int) (n : Nat) (hn : n ≤ 256) (hl : l.length ≤ 1000000) : AC Tryd.prog H.length γ 24 #[.string (strOfNums l), .int .i64 (n : Nat)] H (fun v' _ => v' = .string (strOfNums (rfill l n))) := by
  have hs := sn_size l
  refine ac_of_aw Tryd.func24 rfl Tryd.ntmps24 Tryd.results24 (by simp) ?_
  refine aw_seq ?_
  (refine aw_ops (by kernel_rfl) (fun K hK => ?_); simp (disch := first | omega | (simp only [List.length_set, List.length_append, List.length_cons, List.length_nil, iv_length, zl_length]; try omega; done)) [-getElem?_pos, -getElem?_neg]; refine hK _ _ ?_; clear hK K)
  refine aw_seq ?_
  refine aw_seq ?_
  by_cases hc : n ≤ l.length
  · (refine aw_ops (by kernel_rfl) (fun K hK => ?_); simp (disch := first | omega | (simp only [List.length_set, List.length_append, List.length_cons, List.length_nil, iv_length, zl_length]; try omega; done)) [-getElem?_pos, -getElem?_neg, hs, hc]; refine hK _ _ ?_; clear hK K)
    refine aw_t (by (first | (simp [eval_tmp, put_at]; done) | (simp [eval_tmp, put_at]; omega))) (by kernel_rfl) ?_
    refine aw_seq ?_
    (refine aw_ops (by kernel_rfl) (fun K hK => ?_); simp (disch := first | omega | (simp only [List.length_set, List.length_append, List.length_cons, List.length_nil, iv_length, zl_length]; try omega; done)) [-getElem?_pos, -getElem?_neg]; refine hK _ _ ?_; clear hK K)
    have e : rfill l n = l := by
      unfold rfill
      rw [show n - l.length = 0 by omega]
      simp [zl]
    (refine aw_ret ?_; simp (disch := first | omega | (simp only [List.length_set, List.length_append, List.length_cons, List.length_nil, iv_length, zl_length]; try omega; done)) [-getElem?_pos, -getElem?_neg, thenQ_ret, scopeQ_ret, inBlockQ_ret, RQ, resL, resV])
    rw [e]
  · (refine aw_ops (by kernel_rfl) (fun K hK => ?_); simp (disch := first | omega | (simp only [List.length_set, List.length_append, List.length_cons, List.length_nil, iv_length, zl_length]; try omega; done)) [-getElem?_pos, -getElem?_neg, hs, hc]; refine hK _ _ ?_; clear hK K)
    refine aw_f (by (first | (simp [eval_tmp, put_at]; done) | (simp [eval_tmp, put_at]; omega))) (by kernel_rfl) ?_
    refine aw_skip ?_
    refine aw_seq ?_
    have e : ((n : Nat) : Int) - (l.length : Nat) = ((n - l.length : Nat) : Int) := by omega
    have hz := zeros_u8 (n - l.length)
    have hbl := byteList_iv (zl (n - l.length))
    have hml : n ≤ maxLen + l.length := by simp only [maxLen]; omega
    have hz2 : (strOfNums (zl (n - l.length))).size = n - l.length := by rw [sn_size, zl_length]
    have hz3 : (iv .u8 (zl (n - l.length))).take (n - l.length) = iv .u8 (zl (n - l.length)) := List.take_of_length_le (by simp)
    (refine aw_ops (by kernel_rfl) (fun K hK => ?_); simp (disch := first | omega | (simp only [List.length_set, List.length_append, List.length_cons, List.length_nil, iv_length, zl_length]; try omega; done)) [-getElem?_pos, -getElem?_neg, hs, e, hz, hbl, sn_app, hml, hz2, hz3]; refine hK _ _ ?_; clear hK K)
    (refine aw_ret ?_; simp (disch := first | omega | (simp only [List.length_set, List.length_append, List.length_cons, List.length_nil, iv_length, zl_length]; try omega; done)) [-getElem?_pos, -getElem?_neg, thenQ_ret, scopeQ_ret, inBlockQ_ret, RQ, resL, resV])
    rfl
theorem rhalf_rc {γ : Nat → Option Nat} {H : AH} {q : Nat} {F : List Nat} {D : DM} (h : Rk H q F D) : AC Tryd.prog H.length γ 12 #[.pointer (some ⟨q, 0, none⟩)] H (fun v' _ => v' = .int .i64 (((D.firm.length - 1) / 2 : Nat) : Int)) := by
  obtain ⟨ho, f, A, B, FA, FB, rfl, h⟩ := h
  have hq := h.hq
  have h1 := ho.one
  have h2 := ho.most
  have hh : ((D.firm.length : Nat) - 1 : Int).tdiv 2 = (((D.firm.length - 1) / 2 : Nat) : Int) := by
    rw [Int.tdiv_eq_ediv_of_nonneg (by omega)]
    omega
  refine ac_of_aw Tryd.func12 rfl Tryd.ntmps12 Tryd.results12 (by simp) ?_
  refine aw_seq ?_
  (refine aw_ops (by kernel_rfl) (fun K hK => ?_); simp (disch := first | omega | (simp only [List.length_set, List.length_append, List.length_cons, List.length_nil, iv_length, zl_length]; try omega; done)) [-getElem?_pos, -getElem?_neg]; refine hK _ _ ?_; clear hK K)
  refine aw_seq ?_
  (refine aw_ops (by kernel_rfl) (fun K hK => ?_); simp (disch := first | omega | (simp only [List.length_set, List.length_append, List.length_cons, List.length_nil, iv_length, zl_length]; try omega; done)) [-getElem?_pos, -getElem?_neg, hq, hh, -tdivP]; refine hK _ _ ?_; clear hK K)
  (refine aw_ret ?_; simp (disch := first | omega | (simp only [List.length_set, List.length_append, List.length_cons, List.length_nil, iv_length, zl_length]; try omega; done)) [-getElem?_pos, -getElem?_neg, thenQ_ret, scopeQ_ret, inBlockQ_ret, RQ, resL, resV])
theorem rbytes_rc {γ : Nat → Option Nat} {H : AH} {v : Value} {ps : List ByteArray} (hv : ∀ L, StrV (H ++ L) v ps) (hps : ∀ s ∈ ps, s.size ≤ 2000) (hlen : ps.length ≤ 2000) :
    AC Tryd.prog H.length γ 9 #[v] H (fun v' _ => v' = .string (strOfNums (textsB ps))) := by
  have hno := (hv []).nt
  have hxl := (hv []).len
  refine ac_of_aw Tryd.func9 rfl Tryd.ntmps9 Tryd.results9 (by simp) ?_
  refine aw_seq ?_
  (refine aw_ops (by kernel_rfl) (fun K hK => ?_); simp (disch := first | omega | (simp only [List.length_set, List.length_append, List.length_cons, List.length_nil, iv_length, zl_length]; try omega; done)) [-getElem?_pos, -getElem?_neg]; refine hK _ _ ?_; clear hK K)
  refine aw_seq ?_
  (refine aw_ops (by kernel_rfl) (fun K hK => ?_); simp (disch := first | omega | (simp only [List.length_set, List.length_append, List.length_cons, List.length_nil, iv_length, zl_length]; try omega; done)) [-getElem?_pos, -getElem?_neg]; refine hK _ _ ?_; clear hK K)
  refine aw_seq ?_
  refine aw_seq ?_
  (refine aw_ops (by kernel_rfl) (fun K hK => ?_); simp (disch := first | omega | (simp only [List.length_set, List.length_append, List.length_cons, List.length_nil, iv_length, zl_length]; try omega; done)) [-getElem?_pos, -getElem?_neg]; refine hK _ _ ?_; clear hK K)
  refine aw_block ?_
  refine aw_loop (fun c α G => ∃ i : Nat, i + c = ps.length ∧ α 0 = v ∧ α 3 = .string (strOfNums (textsB (ps.take i))) ∧ α 4 = .int .i64 (i : Nat) ∧ ∃ L, G = H ++ L) ps.length ?_ ?_
  · exact ⟨0, by omega, by (first | (simp [put_at, put_none, fr0_at]; done) | rfl), by (first | (simp [put_at, put_none, fr0_at]; done) | rfl), by (first | (simp [put_at, put_none, fr0_at]; done) | rfl), [], by simp⟩
  rintro c α G ⟨i, hic, h0, h3, h4, L, rfl⟩
  refine aw_seq ?_
  refine aw_seq ?_
  by_cases hi : i < ps.length
  · (refine aw_ops (by kernel_rfl) (fun K hK => ?_); simp (disch := first | omega | (simp only [List.length_set, List.length_append, List.length_cons, List.length_nil, iv_length, zl_length]; try omega; done)) [-getElem?_pos, -getElem?_neg, h0, h4, -notTuple, hno, -xlen, hxl, hi]; refine hK _ _ ?_; clear hK K)
    refine aw_t (by (first | (simp [eval_tmp, put_at]; done) | (simp [eval_tmp, put_at]; omega))) (by kernel_rfl) ?_
    refine aw_skip ?_
    refine aw_seq ?_
    refine aw_block ?_
    obtain ⟨s, hs⟩ : ∃ s, ps[i]? = some s := ⟨_, List.getElem?_eq_getElem hi⟩
    obtain ⟨p, hp1, hp2⟩ := (hv L).at_ i s hs
    have hsz := hps s (List.mem_of_getElem? hs)
    have hnx := textsB_next hs
    have htl : (textsB (ps.take i)).length ≤ 3005 * (ps.take i).length := textsB_len (fun x hx => by have := hps x (List.mem_of_mem_take hx); omega)
    rw [List.length_take] at htl
    have htx := textB_len s
    have hsum : (strOfNums (textsB (ps.take i))).size + (strOfNums (textB s)).size ≤ 9223372036854775807 := by rw [sn_size, sn_size]; omega
    have happ : strOfNums (textsB (ps.take i)) ++ strOfNums (textB s) = strOfNums (textsB (ps.take (i + 1))) := by rw [sn_app, hnx]
    have htb : numB s.size ++ nums s = textB s := rfl
    refine aw_ops (by kernel_rfl) (fun K hK => ?_)
    simp (disch := first | omega | (simp only [List.length_set, List.length_append, List.length_cons, List.length_nil, iv_length, zl_length]; try omega; done)) [-getElem?_pos, -getElem?_neg, h0, h3, h4, -notTuple, hno, nt_strJ, nt_intJ, -xindexAddr, hp1, -xload, hp2]
    refine ⟨by kernel_rfl, (refText_ac (by omega) (by simp)).mono ?_⟩
    rw [htb]
    rintro v1 H1 ⟨rfl, L1, rfl⟩
    try simp (disch := first | omega | (simp only [List.length_set, List.length_append, List.length_cons, List.length_nil, iv_length, zl_length]; try omega; done)) [-getElem?_pos, -getElem?_neg, hsum, happ]
    refine hK _ _ ?_; clear hK K
    (refine aw_ops (by kernel_rfl) (fun K hK => ?_); simp (disch := first | omega | (simp only [List.length_set, List.length_append, List.length_cons, List.length_nil, iv_length, zl_length]; try omega; done)) [-getElem?_pos, -getElem?_neg, h4]; refine hK _ _ ?_; clear hK K)
    exact ⟨c - 1, by omega, i + 1, by omega, by (first | (simp [put_at, put_none, fr0_at, h0]; done) | rfl), by (first | (simp [put_at, put_none, fr0_at]; done) | rfl), by (first | (simp [put_at, put_none, fr0_at]; done) | rfl), L ++ L1, by simp⟩
  · (refine aw_ops (by kernel_rfl) (fun K hK => ?_); simp (disch := first | omega | (simp only [List.length_set, List.length_append, List.length_cons, List.length_nil, iv_length, zl_length]; try omega; done)) [-getElem?_pos, -getElem?_neg, h0, h4, -notTuple, hno, -xlen, hxl, hi]; refine hK _ _ ?_; clear hK K)
    refine aw_f (by (first | (simp [eval_tmp, put_at]; done) | (simp [eval_tmp, put_at]; omega))) (by kernel_rfl) ?_
    refine aw_exit ?_
    refine aw_seq ?_
    have hall : ps.take i = ps := List.take_of_length_le (by omega)
    rw [hall] at h3
    (refine aw_ops (by kernel_rfl) (fun K hK => ?_); simp (disch := first | omega | (simp only [List.length_set, List.length_append, List.length_cons, List.length_nil, iv_length, zl_length]; try omega; done)) [-getElem?_pos, -getElem?_neg, h3]; refine hK _ _ ?_; clear hK K)
    (refine aw_ret ?_; simp (disch := first | omega | (simp only [List.length_set, List.length_append, List.length_cons, List.length_nil, iv_length, zl_length]; try omega; done)) [-getElem?_pos, -getElem?_neg, thenQ_ret, scopeQ_ret, inBlockQ_ret, RQ, resL, resV])
theorem rmark_rc {γ : Nat → Option Nat} {H : AH} (a n : Nat) (ha : a ≤ 255) (hn : n < 4294967296) : AC Tryd.prog H.length γ 10 #[.int .i64 (a : Nat), .int .i64 (n : Nat)] H (fun v' _ => v' = .string (strOfNums (markL a n))) := by
  have w1 : IntKind.u8.wrap (a : Nat) = (a : Int) % 256 := by simp only [IntKind.wrap_u8']
  have q1 : ((n : Nat) : Int).tdiv 16777216 = (n : Int) / 16777216 := Int.tdiv_eq_ediv_of_nonneg (by omega)
  have q2 : ((n : Nat) : Int).tdiv 65536 = (n : Int) / 65536 := Int.tdiv_eq_ediv_of_nonneg (by omega)
  have q3 : ((n : Nat) : Int).tdiv 256 = (n : Int) / 256 := Int.tdiv_eq_ediv_of_nonneg (by omega)
  have m2 : ((n : Int) / 65536).tmod 256 = (n : Int) / 65536 % 256 := Int.tmod_eq_emod_of_nonneg (by omega)
  have m3 : ((n : Int) / 256).tmod 256 = (n : Int) / 256 % 256 := Int.tmod_eq_emod_of_nonneg (by omega)
  have m4 : ((n : Nat) : Int).tmod 256 = (n : Int) % 256 := Int.tmod_eq_emod_of_nonneg (by omega)
  have w2 : IntKind.u8.wrap ((n : Int) / 16777216) = (n : Int) / 16777216 % 256 := by simp only [IntKind.wrap_u8']
  have w3 : IntKind.u8.wrap ((n : Int) / 65536 % 256) = (n : Int) / 65536 % 256 := by simp only [IntKind.wrap_u8']; omega
  have w4 : IntKind.u8.wrap ((n : Int) / 256 % 256) = (n : Int) / 256 % 256 := by simp only [IntKind.wrap_u8']; omega
  have w5 : IntKind.u8.wrap ((n : Int) % 256) = (n : Int) % 256 := by simp only [IntKind.wrap_u8']; omega
  have r5 : List.range 5 = [0, 1, 2, 3, 4] := rfl
  have hh : (⟨#[109, 97, 114, 107]⟩ : ByteArray) ++ strOfNums [(a : Int) % 256, (n : Int) / 16777216 % 256, (n : Int) / 65536 % 256, (n : Int) / 256 % 256, (n : Int) % 256] = strOfNums (headL a n) := by
    rw [show (⟨#[109, 97, 114, 107]⟩ : ByteArray) = strOfNums [109, 97, 114, 107] from rfl, sn_app]
    rfl
  have hm : markL a n = headL a n ++ ((dig (takeB hs0 (headL a n))).take 8 ++ zl 47) := by with_unfolding_all rfl
  have hb := headL_by a n
  have hl := headL_len a n
  have hdl := dig_len _ (takeB_wf (headL a n) hs0 hs0_wf (headL_by a n))
  have hnh : nums (strOfNums (headL a n)) = headL a n := nums_of _ hb
  generalize headL a n = h at *
  have hsum := fun (G : AH) => refsum (H := G) (γ := γ) (strOfNums h) (by rw [sn_size, hl]; omega)
  rw [hnh] at hsum
  generalize dig (takeB hs0 h) = D at *
  have hfl := fun (G : AH) => rfilled_rc (γ := γ) (H := G) (h ++ D.take 8) 64 (by omega) (by rw [List.length_append, List.length_take]; omega)
  have hrf : rfill (h ++ D.take 8) 64 = markL a n := by
    rw [hm]
    unfold rfill
    rw [List.append_assoc, List.length_append, List.length_take, hl, hdl]
    rfl
  rw [hrf] at hfl
  generalize markL a n = M at *
  refine ac_of_aw Tryd.func10 rfl Tryd.ntmps10 Tryd.results10 (by simp) ?_
  refine aw_seq ?_
  (refine aw_ops (by kernel_rfl) (fun K hK => ?_); simp (disch := first | omega | (simp only [List.length_set, List.length_append, List.length_cons, List.length_nil, iv_length, zl_length]; try omega; done)) [-getElem?_pos, -getElem?_neg]; refine hK _ _ ?_; clear hK K)
  refine aw_seq ?_
  have hbb := byteList_iv [(a : Int) % 256, (n : Int) / 16777216 % 256, (n : Int) / 65536 % 256, (n : Int) / 256 % 256, (n : Int) % 256]
  simp only [iv, List.map_cons, List.map_nil] at hbb
  (refine aw_ops (by kernel_rfl) (fun K hK => ?_); simp (disch := first | omega | (simp only [List.length_set, List.length_append, List.length_cons, List.length_nil, iv_length, zl_length]; try omega; done)) [-getElem?_pos, -getElem?_neg, q1, q2, q3, -tdivP, -tmodP, m2, m3, m4, w1, w2, w3, w4, w5, -wu8, r5, hbb, hh, num_int]; refine hK _ _ ?_; clear hK K)
  refine aw_seq ?_
  have hsx : setR (iv .u8 (zl 32)) 0 (iv .u8 D) = iv .u8 D := setR_all _ _ (by simp [hdl])
  refine aw_ops (by kernel_rfl) (fun K hK => ?_)
  try simp (disch := first | omega | (simp only [List.length_set, List.length_append, List.length_cons, List.length_nil, iv_length, zl_length]; try omega; done)) [-getElem?_pos, -getElem?_neg]
  refine ⟨by kernel_rfl, ac_of_rc (hsum _) (by simp [pv_iv, pv_int, pv_bool, pv_string, pv_tup2, pv_tup3, iv_plain, p2_int, p2_bool, p2_string]) ?_⟩
  simp (disch := first | omega | (simp only [List.length_set, List.length_append, List.length_cons, List.length_nil, iv_length, zl_length]; try omega; done)) [-getElem?_pos, -getElem?_neg, hdl, hsx]
  refine hK _ _ ?_; clear hK K
  refine aw_seq ?_
  have htk : (iv .u8 D).take 8 = iv .u8 (D.take 8) := by rw [iv_take]
  have z2 : (strOfNums (D.take 8)).size = 8 := by rw [sn_size, List.length_take, hdl]; omega
  have z3 : (strOfNums h).size = 9 := by rw [sn_size, hl]
  refine aw_ops (by kernel_rfl) (fun K hK => ?_)
  simp (disch := first | omega | (simp only [List.length_set, List.length_append, List.length_cons, List.length_nil, iv_length, zl_length]; try omega; done)) [-getElem?_pos, -getElem?_neg, hdl, htk, byteList_iv, z2, z3, sn_app]
  refine ⟨by kernel_rfl, ac_of_rc (hfl _) (by simp [pv_iv, pv_int, pv_bool, pv_string, pv_tup2, pv_tup3, iv_plain, p2_int, p2_bool, p2_string]) ?_⟩
  try simp (disch := first | omega | (simp only [List.length_set, List.length_append, List.length_cons, List.length_nil, iv_length, zl_length]; try omega; done)) [-getElem?_pos, -getElem?_neg]
  refine hK _ _ ?_; clear hK K
  (refine aw_ret ?_; simp (disch := first | omega | (simp only [List.length_set, List.length_append, List.length_cons, List.length_nil, iv_length, zl_length]; try omega; done)) [-getElem?_pos, -getElem?_neg, thenQ_ret, scopeQ_ret, inBlockQ_ret, RQ, resL, resV])
end

section
open Go Go.RowKit
set_option linter.unusedSimpArgs false
set_option linter.unusedVariables false
set_option maxRecDepth 100000
set_option maxHeartbeats 4000000

def rrC (l : List Int) (e : Int) : Blk := ⟨[.string (strOfNums l), .int .i64 e], 83, none⟩
attribute [local irreducible] rdN
attribute [local simp] wb_bool wb_undef XL_nil XL_cons XLc_val XLc_call step1_eq stepW_t stepW_f stepC_n stepC_s stepX_s stepX_n stepN_s calleeX oneV xop_eq xopR_s xopR_n wantedA_eq wantedG_n wantedG_s plain1_int plain1_bool plain1_string bits_i64 bits_u64 bits_u32 bits_u16 bits_u8 xeqA xagg xcmp xarr allK_iv num_iv calleeOf xread xeff xbin xint xnil xun xstr xload xconv xpart xfield xfieldAddr xindexAddr xindex bnd asInt? xslice xlen xmin xmax xbuild xfill xappend xapp2 xappstr xappmk xcap xcopy xcells eval_tmp eval_const put_at put_none fr0_at cells_agg cells_int cells_bool cells_string cells_ptr cells_slice notTuple tab iv_all hget_app hget_app0 hget_cons0 hget_cons set_app set_app0 setR setR_one QL_nil QL_cons QLc_val stepQ_t stepQ_f stepQC_n stepQC_s stepQX_s SL_nil SL_cons SLc_val stepS_t stepS_f ltT ltF leT leF eqT eqF ltTn ltFn leTn leFn eqTn eqFn beqT beqF bneT bneF wi64 wu64 wu32 wu16 wu8 tmodP tdivP hgetL hgetNe hgetEq setL nums_def nums_len Nat.succ_le_of_lt List.getElem?_cons_zero List.getElem?_cons_succ Option.getD_some Int.toNat_add Int.toNat_mul agB agI agS agP agL agA okB okI okS okP okSl okA
theorem rnum_ac {H : AH} {γ : Nat → Option Nat} {nro p : Nat} {l : List Int} (hp : nro ≤ p) (h : hget H p = some (rrC l 0)) (hb : By l) (hl : l.length ≤ 1000000) :
    AC Tryd.prog nro γ 81 #[.pointer (some ⟨p, 0, none⟩)] H (fun v' H' => v' = .int .u32 ((rdNum l).1 : Nat) ∧ H' = H.set p (some (rrC (rdNum l).2.1 (rdNum l).2.2))) := by
  have hpl := hget_lt h
  unfold rrC at h ⊢
  have hsz := sn_size l
  refine ac_of_aw Tryd.func81 rfl Tryd.ntmps81 Tryd.results81 (by simp) ?_
  refine aw_seq ?_
  (refine aw_ops (by kernel_rfl) (fun K hK => ?_); simp (disch := first | omega | (simp only [List.length_set, List.length_append, List.length_cons, List.length_nil, iv_length, zl_length]; try omega; done)) [-getElem?_pos, -getElem?_neg]; refine hK _ _ ?_; clear hK K)
  refine aw_seq ?_
  refine aw_seq ?_
  (refine aw_ops (by kernel_rfl) (fun K hK => ?_); simp (disch := first | omega | (simp only [List.length_set, List.length_append, List.length_cons, List.length_nil, iv_length, zl_length]; try omega; done)) [-getElem?_pos, -getElem?_neg, h]; refine hK _ _ ?_; clear hK K)
  refine aw_f (by (first | (simp [eval_tmp, put_at]; done) | (simp [eval_tmp, put_at]; omega))) (by kernel_rfl) ?_
  refine aw_skip ?_
  refine aw_seq ?_
  (refine aw_ops (by kernel_rfl) (fun K hK => ?_); simp (disch := first | omega | (simp only [List.length_set, List.length_append, List.length_cons, List.length_nil, iv_length, zl_length]; try omega; done)) [-getElem?_pos, -getElem?_neg]; refine hK _ _ ?_; clear hK K)
  refine aw_seq ?_
  refine aw_seq ?_
  (refine aw_ops (by kernel_rfl) (fun K hK => ?_); simp (disch := first | omega | (simp only [List.length_set, List.length_append, List.length_cons, List.length_nil, iv_length, zl_length]; try omega; done)) [-getElem?_pos, -getElem?_neg]; refine hK _ _ ?_; clear hK K)
  refine aw_block ?_
  refine aw_loop (fun c α G => ∃ (i n : Nat), i + c = 5 ∧ 0 < c ∧ i ≤ l.length ∧ n ≤ 4294967295 ∧ α 0 = .pointer (some ⟨p, 0, none⟩) ∧ α 3 = .int .u64 (n : Nat) ∧ α 4 = .int .i64 (i : Nat) ∧ G = H ∧ rdN 5 0 l = rdN c n (l.drop i)) 5 ?_ ?_
  · exact ⟨0, 0, by omega, by omega, by omega, by omega, by (first | (simp [put_at, put_none, fr0_at]; done) | rfl), by (first | (simp [put_at, put_none, fr0_at]; done) | rfl), by (first | (simp [put_at, put_none, fr0_at]; done) | rfl), rfl, by simp⟩
  rintro c α G0 ⟨i, n, hic, hc0, hil, hn, h0, h3, h4, rfl, hrd⟩
  refine aw_seq ?_
  refine aw_seq ?_
  by_cases hlt : i < l.length
  case neg =>
    (refine aw_ops (by kernel_rfl) (fun K hK => ?_); simp (disch := first | omega | (simp only [List.length_set, List.length_append, List.length_cons, List.length_nil, iv_length, zl_length]; try omega; done)) [-getElem?_pos, -getElem?_neg, h0, h4, h, hsz, hlt]; refine hK _ _ ?_; clear hK K)
    refine aw_f (by (first | (simp [eval_tmp, put_at]; done) | (simp [eval_tmp, put_at]; omega))) (by kernel_rfl) ?_
    refine aw_exit ?_
    refine aw_seq ?_
    (refine aw_ops (by kernel_rfl) (fun K hK => ?_); simp (disch := first | omega | (simp only [List.length_set, List.length_append, List.length_cons, List.length_nil, iv_length, zl_length]; try omega; done)) [-getElem?_pos, -getElem?_neg, h0, h]; refine hK _ _ ?_; clear hK K)
    refine aw_seq ?_
    (refine aw_ops (by kernel_rfl) (fun K hK => ?_); simp (disch := first | omega | (simp only [List.length_set, List.length_append, List.length_cons, List.length_nil, iv_length, zl_length]; try omega; done)) [-getElem?_pos, -getElem?_neg]; refine hK _ _ ?_; clear hK K)
    have hd : l.drop i = [] := List.drop_of_length_le (by omega)
    obtain ⟨c', rfl⟩ : ∃ c', c = c' + 1 := ⟨c - 1, by omega⟩
    have e : rdN 5 0 l = (0, [], 3) := by rw [hrd, hd]; unfold rdN; rfl
    have e2 : rdNum l = (0, l, 3) := by unfold rdNum; rw [e]; rfl
    (refine aw_ret ?_; simp (disch := first | omega | (simp only [List.length_set, List.length_append, List.length_cons, List.length_nil, iv_length, zl_length]; try omega; done)) [-getElem?_pos, -getElem?_neg, thenQ_ret, scopeQ_ret, inBlockQ_ret, RQ, resL, resV, e2])
  (refine aw_ops (by kernel_rfl) (fun K hK => ?_); simp (disch := first | omega | (simp only [List.length_set, List.length_append, List.length_cons, List.length_nil, iv_length, zl_length]; try omega; done)) [-getElem?_pos, -getElem?_neg, h0, h4, h, hsz, hlt]; refine hK _ _ ?_; clear hK K)
  refine aw_t (by (first | (simp [eval_tmp, put_at]; done) | (simp [eval_tmp, put_at]; omega))) (by kernel_rfl) ?_
  refine aw_skip ?_
  refine aw_seq ?_
  refine aw_block ?_
  obtain ⟨b, hbb⟩ : ∃ b, l[i]? = some b := ⟨_, List.getElem?_eq_getElem hlt⟩
  have hbr := hb b (List.mem_of_getElem? hbb)
  obtain ⟨bn, rfl⟩ : ∃ bn : Nat, b = (bn : Nat) := ⟨b.toNat, by omega⟩
  have hgb : gb (strOfNums l) i = (bn : Nat) := by rw [gb_sn hb, List.getD_eq_getElem?_getD, hbb]; rfl
  refine aw_seq ?_
  (refine aw_ops (by kernel_rfl) (fun K hK => ?_); simp (disch := first | omega | (simp only [List.length_set, List.length_append, List.length_cons, List.length_nil, iv_length, zl_length]; try omega; done)) [-getElem?_pos, -getElem?_neg, h0, h4, h, hsz, hlt, hgb]; refine hK _ _ ?_; clear hK K)
  refine aw_seq ?_
  obtain ⟨m, hm⟩ : ∃ m : Nat, m = n * 128 + bn % 128 := ⟨_, rfl⟩
  have hmi : (n : Int) * 128 + (bn : Int) % 128 = (m : Nat) := by omega
  (refine aw_ops (by kernel_rfl) (fun K hK => ?_); simp (disch := first | omega | (simp only [List.length_set, List.length_append, List.length_cons, List.length_nil, iv_length, zl_length]; try omega; done)) [-getElem?_pos, -getElem?_neg, h3, hmi]; refine hK _ _ ?_; clear hK K)
  refine aw_seq ?_
  have hrc : rdN 5 0 l = if (i = 0 ∧ bn = 128) ∨ 4294967295 < m then (0, l.drop (i + 1), 4) else if bn < 128 then (m, l.drop (i + 1), 0) else rdN (c - 1) m (l.drop (i + 1)) := by
    obtain ⟨c', rfl⟩ : ∃ c', c = c' + 1 := ⟨c - 1, by omega⟩
    rw [hrd, rdN_cons hbb]
    have e1 : (n * 128 + ((bn : Nat) : Int).toNat % 128) = m := by rw [hm]; simp
    rw [e1]
    have e2 : (c' = 4 ∧ ((bn : Nat) : Int) = 128) ↔ (i = 0 ∧ bn = 128) := by omega
    have e3 : (((bn : Nat) : Int) < 128) ↔ bn < 128 := by omega
    simp only [e2, e3]
    rfl
  refine aw_seq ?_
  refine aw_cut (fun α G => α 49 = .bool (decide ((i = 0 ∧ bn = 128) ∨ 4294967295 < m ∨ (i = 4 ∧ 127 < bn))) ∧ α 0 = .pointer (some ⟨p, 0, none⟩) ∧ α 3 = .int .u64 (m : Nat) ∧ α 4 = .int .i64 (i : Nat) ∧ α 5 = .int .u8 (bn : Nat) ∧ G = G0) ?_ ?_
  · by_cases a1 : i = 0
    · by_cases a2 : bn = 128
      · have a2i : (bn : Int) = 128 := by omega
        (refine aw_ops (by kernel_rfl) (fun K hK => ?_); simp (disch := first | omega | (simp only [List.length_set, List.length_append, List.length_cons, List.length_nil, iv_length, zl_length]; try omega; done)) [-getElem?_pos, -getElem?_neg, h0, h3, h4, a1, a2, a2i]; refine hK _ _ ?_; clear hK K)
        exact ⟨by (first | (simp [put_at, put_none, fr0_at, a1, a2]; done) | rfl), by (first | (simp [put_at, put_none, fr0_at, h0]; done) | rfl), by (first | (simp [put_at, put_none, fr0_at, a2]; done) | rfl), by (first | (simp [put_at, put_none, fr0_at, h4, a1]; done) | rfl), by (first | (simp [put_at, put_none, fr0_at, a2]; done) | rfl), rfl⟩
      · have a2i : ¬ (bn : Int) = 128 := by omega
        by_cases a3 : 4294967295 < m
        · (refine aw_ops (by kernel_rfl) (fun K hK => ?_); simp (disch := first | omega | (simp only [List.length_set, List.length_append, List.length_cons, List.length_nil, iv_length, zl_length]; try omega; done)) [-getElem?_pos, -getElem?_neg, h0, h3, h4, a1, a2, a2i, a3]; refine hK _ _ ?_; clear hK K)
          exact ⟨by (first | (simp [put_at, put_none, fr0_at, a1, a2, a3]; done) | rfl), by (first | (simp [put_at, put_none, fr0_at, h0]; done) | rfl), by (first | (simp [put_at, put_none, fr0_at]; done) | rfl), by (first | (simp [put_at, put_none, fr0_at, h4, a1]; done) | rfl), by (first | (simp [put_at, put_none, fr0_at]; done) | rfl), rfl⟩
        · (refine aw_ops (by kernel_rfl) (fun K hK => ?_); simp (disch := first | omega | (simp only [List.length_set, List.length_append, List.length_cons, List.length_nil, iv_length, zl_length]; try omega; done)) [-getElem?_pos, -getElem?_neg, h0, h3, h4, a1, a2, a2i, a3]; refine hK _ _ ?_; clear hK K)
          exact ⟨by (first | (simp [put_at, put_none, fr0_at, a1, a2, a3]; done) | rfl), by (first | (simp [put_at, put_none, fr0_at, h0]; done) | rfl), by (first | (simp [put_at, put_none, fr0_at]; done) | rfl), by (first | (simp [put_at, put_none, fr0_at, h4, a1]; done) | rfl), by (first | (simp [put_at, put_none, fr0_at]; done) | rfl), rfl⟩
    · have a1i : ¬ (i : Int) = 0 := by omega
      by_cases a3 : 4294967295 < m
      · (refine aw_ops (by kernel_rfl) (fun K hK => ?_); simp (disch := first | omega | (simp only [List.length_set, List.length_append, List.length_cons, List.length_nil, iv_length, zl_length]; try omega; done)) [-getElem?_pos, -getElem?_neg, h0, h3, h4, a1, a1i, a3]; refine hK _ _ ?_; clear hK K)
        exact ⟨by (first | (simp [put_at, put_none, fr0_at, a1, a3]; done) | rfl), by (first | (simp [put_at, put_none, fr0_at, h0]; done) | rfl), by (first | (simp [put_at, put_none, fr0_at]; done) | rfl), by (first | (simp [put_at, put_none, fr0_at, h4]; done) | rfl), by (first | (simp [put_at, put_none, fr0_at]; done) | rfl), rfl⟩
      · by_cases a4 : i = 4
        · by_cases a5 : 127 < bn
          · (refine aw_ops (by kernel_rfl) (fun K hK => ?_); simp (disch := first | omega | (simp only [List.length_set, List.length_append, List.length_cons, List.length_nil, iv_length, zl_length]; try omega; done)) [-getElem?_pos, -getElem?_neg, h0, h3, h4, a1, a1i, a3, a4, a5]; refine hK _ _ ?_; clear hK K)
            exact ⟨by (first | (simp [put_at, put_none, fr0_at, a1, a3, a4, a5]; done) | rfl), by (first | (simp [put_at, put_none, fr0_at, h0]; done) | rfl), by (first | (simp [put_at, put_none, fr0_at]; done) | rfl), by (first | (simp [put_at, put_none, fr0_at, h4, a4]; done) | rfl), by (first | (simp [put_at, put_none, fr0_at]; done) | rfl), rfl⟩
          · (refine aw_ops (by kernel_rfl) (fun K hK => ?_); simp (disch := first | omega | (simp only [List.length_set, List.length_append, List.length_cons, List.length_nil, iv_length, zl_length]; try omega; done)) [-getElem?_pos, -getElem?_neg, h0, h3, h4, a1, a1i, a3, a4, a5]; refine hK _ _ ?_; clear hK K)
            exact ⟨by (first | (simp [put_at, put_none, fr0_at, a1, a3, a4, a5]; done) | rfl), by (first | (simp [put_at, put_none, fr0_at, h0]; done) | rfl), by (first | (simp [put_at, put_none, fr0_at]; done) | rfl), by (first | (simp [put_at, put_none, fr0_at, h4, a4]; done) | rfl), by (first | (simp [put_at, put_none, fr0_at]; done) | rfl), rfl⟩
        · have a4i : ¬ (i : Int) = 4 := by omega
          (refine aw_ops (by kernel_rfl) (fun K hK => ?_); simp (disch := first | omega | (simp only [List.length_set, List.length_append, List.length_cons, List.length_nil, iv_length, zl_length]; try omega; done)) [-getElem?_pos, -getElem?_neg, h0, h3, h4, a1, a1i, a3, a4, a4i]; refine hK _ _ ?_; clear hK K)
          exact ⟨by (first | (simp [put_at, put_none, fr0_at, a1, a3, a4]; done) | rfl), by (first | (simp [put_at, put_none, fr0_at, h0]; done) | rfl), by (first | (simp [put_at, put_none, fr0_at]; done) | rfl), by (first | (simp [put_at, put_none, fr0_at, h4]; done) | rfl), by (first | (simp [put_at, put_none, fr0_at]; done) | rfl), rfl⟩
  clear h0 h3 h4
  rintro α G ⟨h49, h0, h3, h4, h5, rfl⟩
  by_cases hbad : (i = 0 ∧ bn = 128) ∨ 4294967295 < m ∨ (i = 4 ∧ 127 < bn)
  · refine aw_t (by (first | (simp [eval_tmp, put_at, h49, hbad]; done) | (simp [eval_tmp, put_at, h49, hbad]; omega))) (by kernel_rfl) ?_
    refine aw_seq ?_
    (refine aw_ops (by kernel_rfl) (fun K hK => ?_); simp (disch := first | omega | (simp only [List.length_set, List.length_append, List.length_cons, List.length_nil, iv_length, zl_length]; try omega; done)) [-getElem?_pos, -getElem?_neg, h0, h]; refine hK _ _ ?_; clear hK K)
    refine aw_seq ?_
    (refine aw_ops (by kernel_rfl) (fun K hK => ?_); simp (disch := first | omega | (simp only [List.length_set, List.length_append, List.length_cons, List.length_nil, iv_length, zl_length]; try omega; done)) [-getElem?_pos, -getElem?_neg]; refine hK _ _ ?_; clear hK K)
    have e2 : rdNum l = (0, l, 4) := by
      have : (rdN 5 0 l).2.2 = 4 := by
        rw [hrc]
        by_cases q1 : (i = 0 ∧ bn = 128) ∨ 4294967295 < m
        · rw [if_pos q1]
        · rw [if_neg q1, if_neg (by omega), show c - 1 = 0 by omega]
          unfold rdN; rfl
      unfold rdNum
      rw [this]
      rfl
    (refine aw_ret ?_; simp (disch := first | omega | (simp only [List.length_set, List.length_append, List.length_cons, List.length_nil, iv_length, zl_length]; try omega; done)) [-getElem?_pos, -getElem?_neg, thenQ_ret, scopeQ_ret, inBlockQ_ret, RQ, resL, resV, e2])
  · refine aw_f (by (first | (simp [eval_tmp, put_at, h49, hbad]; done) | (simp [eval_tmp, put_at, h49, hbad]; omega))) (by kernel_rfl) ?_
    refine aw_skip ?_
    refine aw_seq ?_
    by_cases hlow : bn < 128
    · (refine aw_ops (by kernel_rfl) (fun K hK => ?_); simp (disch := first | omega | (simp only [List.length_set, List.length_append, List.length_cons, List.length_nil, iv_length, zl_length]; try omega; done)) [-getElem?_pos, -getElem?_neg, h5, hlow]; refine hK _ _ ?_; clear hK K)
      refine aw_t (by (first | (simp [eval_tmp, put_at]; done) | (simp [eval_tmp, put_at]; omega))) (by kernel_rfl) ?_
      refine aw_seq ?_
      have hex := ex_drop l (i + 1)
      (refine aw_ops (by kernel_rfl) (fun K hK => ?_); simp (disch := first | omega | (simp only [List.length_set, List.length_append, List.length_cons, List.length_nil, iv_length, zl_length]; try omega; done)) [-getElem?_pos, -getElem?_neg, h0, h4, h, hsz, hex]; refine hK _ _ ?_; clear hK K)
      refine aw_seq ?_
      (refine aw_ops (by kernel_rfl) (fun K hK => ?_); simp (disch := first | omega | (simp only [List.length_set, List.length_append, List.length_cons, List.length_nil, iv_length, zl_length]; try omega; done)) [-getElem?_pos, -getElem?_neg, h3]; refine hK _ _ ?_; clear hK K)
      have e2 : rdNum l = (m, l.drop (i + 1), 0) := by
        have : rdN 5 0 l = (m, l.drop (i + 1), 0) := by rw [hrc, if_neg (by omega), if_pos hlow]
        unfold rdNum
        rw [this]
        rfl
      (refine aw_ret ?_; simp (disch := first | omega | (simp only [List.length_set, List.length_append, List.length_cons, List.length_nil, iv_length, zl_length]; try omega; done)) [-getElem?_pos, -getElem?_neg, thenQ_ret, scopeQ_ret, inBlockQ_ret, RQ, resL, resV, e2])
    · (refine aw_ops (by kernel_rfl) (fun K hK => ?_); simp (disch := first | omega | (simp only [List.length_set, List.length_append, List.length_cons, List.length_nil, iv_length, zl_length]; try omega; done)) [-getElem?_pos, -getElem?_neg, h5, hlow]; refine hK _ _ ?_; clear hK K)
      refine aw_f (by (first | (simp [eval_tmp, put_at]; done) | (simp [eval_tmp, put_at]; omega))) (by kernel_rfl) ?_
      refine aw_skip ?_
      (refine aw_ops (by kernel_rfl) (fun K hK => ?_); simp (disch := first | omega | (simp only [List.length_set, List.length_append, List.length_cons, List.length_nil, iv_length, zl_length]; try omega; done)) [-getElem?_pos, -getElem?_neg, h4]; refine hK _ _ ?_; clear hK K)
      refine ⟨c - 1, by omega, i + 1, m, by omega, by omega, by omega, by omega, by (first | (simp [put_at, put_none, fr0_at, h0]; done) | rfl), by (first | (simp [put_at, put_none, fr0_at, h3]; done) | rfl), by (first | (simp [put_at, put_none, fr0_at]; done) | rfl), rfl, ?_⟩
      rw [hrc, if_neg (by omega), if_neg hlow]
theorem rstay_ac {H : AH} {γ : Nat → Option Nat} {nro p : Nat} {l was : List Int} {e : Int} (hp : nro ≤ p) (h : hget H p = some (rrC l e)) (he : e ≠ 0) :
    AC Tryd.prog nro γ 64 #[.pointer (some ⟨p, 0, none⟩), .string (strOfNums was)] H (fun v' H' => H' = H.set p (some (rrC was e))) := by
  have hpl := hget_lt h
  unfold rrC at h ⊢
  refine ac_of_aw Tryd.func64 rfl Tryd.ntmps64 Tryd.results64 (by simp) ?_
  refine aw_seq ?_
  (refine aw_ops (by kernel_rfl) (fun K hK => ?_); simp (disch := first | omega | (simp only [List.length_set, List.length_append, List.length_cons, List.length_nil, iv_length, zl_length]; try omega; done)) [-getElem?_pos, -getElem?_neg, h, he]; refine hK _ _ ?_; clear hK K)
  refine aw_t (by (first | (simp [eval_tmp, put_at, he]; done) | (simp [eval_tmp, put_at, he]; omega))) (by kernel_rfl) ?_
  (refine aw_ops (by kernel_rfl) (fun K hK => ?_); simp (disch := first | omega | (simp only [List.length_set, List.length_append, List.length_cons, List.length_nil, iv_length, zl_length]; try omega; done)) [-getElem?_pos, -getElem?_neg, h]; refine hK _ _ ?_; clear hK K)
  exact ⟨_, _, rfl, rfl, rfl⟩
/-- What the reference's count leaves: the number, what is left, the error. -/
def rfCount (most : Int) (l : List Int) : Nat × List Int × Int :=
  if (rdNum l).2.2 ≠ 0 then (0, l, (rdNum l).2.2) else if most < (rdNum l).1 then (0, (rdNum l).2.1, 5) else rdNum l
attribute [local irreducible] rdNum
theorem rcount_ac {H : AH} {γ : Nat → Option Nat} {nro p : Nat} {l : List Int} (hp : nro ≤ p) (h : hget H p = some (rrC l 0)) (hb : By l) (hl : l.length ≤ 1000000) :
    AC Tryd.prog nro γ 63 #[.pointer (some ⟨p, 0, none⟩), .int .i64 60000] H (fun v' H' => v' = .int .i64 ((rfCount 60000 l).1 : Nat) ∧ H' = H.set p (some (rrC (rfCount 60000 l).2.1 (rfCount 60000 l).2.2))) := by
  have hnum := rnum_ac (γ := γ) hp h hb hl
  have hpl := hget_lt h
  obtain ⟨n, l2, e, hr⟩ : ∃ n l2 e, rdNum l = (n, l2, e) := ⟨_, _, _, rfl⟩
  have hv := rdNum_val (l := l)
  have hbad := rdNum_bad (l := l)
  have hc : rfCount 60000 l = if e ≠ 0 then (0, l, e) else if (60000 : Int) < n then (0, l2, 5) else (n, l2, e) := by unfold rfCount; rw [hr]
  rw [hr] at hnum hv hbad
  simp only at hnum hv hbad
  unfold rrC at h hnum ⊢
  refine ac_of_aw Tryd.func63 rfl Tryd.ntmps63 Tryd.results63 (by simp) ?_
  refine aw_seq ?_
  (refine aw_ops (by kernel_rfl) (fun K hK => ?_); simp (disch := first | omega | (simp only [List.length_set, List.length_append, List.length_cons, List.length_nil, iv_length, zl_length]; try omega; done)) [-getElem?_pos, -getElem?_neg]; refine hK _ _ ?_; clear hK K)
  refine aw_seq ?_
  refine aw_ops (by kernel_rfl) (fun K hK => ?_)
  simp (disch := first | omega | (simp only [List.length_set, List.length_append, List.length_cons, List.length_nil, iv_length, zl_length]; try omega; done)) [-getElem?_pos, -getElem?_neg]
  refine ⟨by kernel_rfl, AC.mono hnum ?_⟩
  rintro _ G ⟨rfl, rfl⟩
  try simp (disch := first | omega | (simp only [List.length_set, List.length_append, List.length_cons, List.length_nil, iv_length, zl_length]; try omega; done)) [-getElem?_pos, -getElem?_neg]
  refine hK _ _ ?_; clear hK K
  obtain ⟨G, hGe⟩ : ∃ G : AH, G = H.set p (some ⟨[.string (strOfNums l2), .int .i64 e], 83, none⟩) := ⟨_, rfl⟩
  have hGp : hget G p = some ⟨[.string (strOfNums l2), .int .i64 e], 83, none⟩ := by rw [hGe, hget_set_eq hpl]
  have hGl : G.length = H.length := by rw [hGe]; simp
  rw [← hGe]
  refine aw_seq ?_
  refine aw_seq ?_
  (refine aw_ops (by kernel_rfl) (fun K hK => ?_); simp (disch := first | omega | (simp only [List.length_set, List.length_append, List.length_cons, List.length_nil, iv_length, zl_length]; try omega; done)) [-getElem?_pos, -getElem?_neg]; refine hK _ _ ?_; clear hK K)
  refine aw_f (by (first | (simp [eval_tmp, put_at]; done) | (simp [eval_tmp, put_at]; omega))) (by kernel_rfl) ?_
  refine aw_skip ?_
  refine aw_seq ?_
  refine aw_seq ?_
  by_cases he : e = 0
  · subst he
    rw [if_neg (by simp)] at hc
    by_cases hm : (60000 : Int) < n
    · rw [if_pos hm] at hc
      have hmn : 60000 < n := by omega
      (refine aw_ops (by kernel_rfl) (fun K hK => ?_); simp (disch := first | omega | (simp only [List.length_set, List.length_append, List.length_cons, List.length_nil, iv_length, zl_length]; try omega; done)) [-getElem?_pos, -getElem?_neg, hGp, hm, hmn]; refine hK _ _ ?_; clear hK K)
      refine aw_t (by (first | (simp [eval_tmp, put_at, hm, hmn]; done) | (simp [eval_tmp, put_at, hm, hmn]; omega))) (by kernel_rfl) ?_
      have hGpl := hget_lt hGp
      (refine aw_ops (by kernel_rfl) (fun K hK => ?_); simp (disch := first | omega | (simp only [List.length_set, List.length_append, List.length_cons, List.length_nil, iv_length, zl_length]; try omega; done)) [-getElem?_pos, -getElem?_neg, hGp]; refine hK _ _ ?_; clear hK K)
      refine aw_seq ?_
      refine aw_seq ?_
      (refine aw_ops (by kernel_rfl) (fun K hK => ?_); simp (disch := first | omega | (simp only [List.length_set, List.length_append, List.length_cons, List.length_nil, iv_length, zl_length]; try omega; done)) [-getElem?_pos, -getElem?_neg]; refine hK _ _ ?_; clear hK K)
      refine aw_t (by (first | (simp [eval_tmp, put_at]; done) | (simp [eval_tmp, put_at]; omega))) (by kernel_rfl) ?_
      refine aw_seq ?_
      (refine aw_ops (by kernel_rfl) (fun K hK => ?_); simp (disch := first | omega | (simp only [List.length_set, List.length_append, List.length_cons, List.length_nil, iv_length, zl_length]; try omega; done)) [-getElem?_pos, -getElem?_neg]; refine hK _ _ ?_; clear hK K)
      (refine aw_ret ?_; simp (disch := first | omega | (simp only [List.length_set, List.length_append, List.length_cons, List.length_nil, iv_length, zl_length]; try omega; done)) [-getElem?_pos, -getElem?_neg, thenQ_ret, scopeQ_ret, inBlockQ_ret, RQ, resL, resV, hc])
      rw [hGe, List.set_set]
    · rw [if_neg hm] at hc
      have hmn : ¬ 60000 < n := by omega
      (refine aw_ops (by kernel_rfl) (fun K hK => ?_); simp (disch := first | omega | (simp only [List.length_set, List.length_append, List.length_cons, List.length_nil, iv_length, zl_length]; try omega; done)) [-getElem?_pos, -getElem?_neg, hGp, hm, hmn]; refine hK _ _ ?_; clear hK K)
      refine aw_f (by (first | (simp [eval_tmp, put_at, hm, hmn]; done) | (simp [eval_tmp, put_at, hm, hmn]; omega))) (by kernel_rfl) ?_
      refine aw_skip ?_
      refine aw_seq ?_
      refine aw_seq ?_
      (refine aw_ops (by kernel_rfl) (fun K hK => ?_); simp (disch := first | omega | (simp only [List.length_set, List.length_append, List.length_cons, List.length_nil, iv_length, zl_length]; try omega; done)) [-getElem?_pos, -getElem?_neg, hGp]; refine hK _ _ ?_; clear hK K)
      refine aw_f (by (first | (simp [eval_tmp, put_at]; done) | (simp [eval_tmp, put_at]; omega))) (by kernel_rfl) ?_
      refine aw_skip ?_
      refine aw_seq ?_
      (refine aw_ops (by kernel_rfl) (fun K hK => ?_); simp (disch := first | omega | (simp only [List.length_set, List.length_append, List.length_cons, List.length_nil, iv_length, zl_length]; try omega; done)) [-getElem?_pos, -getElem?_neg]; refine hK _ _ ?_; clear hK K)
      (refine aw_ret ?_; simp (disch := first | omega | (simp only [List.length_set, List.length_append, List.length_cons, List.length_nil, iv_length, zl_length]; try omega; done)) [-getElem?_pos, -getElem?_neg, thenQ_ret, scopeQ_ret, inBlockQ_ret, RQ, resL, resV, hc])
      exact hGe
  · rw [if_pos he] at hc
    have := hbad he
    cases this
    (refine aw_ops (by kernel_rfl) (fun K hK => ?_); simp (disch := first | omega | (simp only [List.length_set, List.length_append, List.length_cons, List.length_nil, iv_length, zl_length]; try omega; done)) [-getElem?_pos, -getElem?_neg, hGp, he]; refine hK _ _ ?_; clear hK K)
    refine aw_f (by (first | (simp [eval_tmp, put_at, he]; done) | (simp [eval_tmp, put_at, he]; omega))) (by kernel_rfl) ?_
    refine aw_skip ?_
    refine aw_seq ?_
    refine aw_seq ?_
    (refine aw_ops (by kernel_rfl) (fun K hK => ?_); simp (disch := first | omega | (simp only [List.length_set, List.length_append, List.length_cons, List.length_nil, iv_length, zl_length]; try omega; done)) [-getElem?_pos, -getElem?_neg, hGp, he]; refine hK _ _ ?_; clear hK K)
    refine aw_t (by (first | (simp [eval_tmp, put_at, he]; done) | (simp [eval_tmp, put_at, he]; omega))) (by kernel_rfl) ?_
    refine aw_seq ?_
    (refine aw_ops (by kernel_rfl) (fun K hK => ?_); simp (disch := first | omega | (simp only [List.length_set, List.length_append, List.length_cons, List.length_nil, iv_length, zl_length]; try omega; done)) [-getElem?_pos, -getElem?_neg]; refine hK _ _ ?_; clear hK K)
    (refine aw_ret ?_; simp (disch := first | omega | (simp only [List.length_set, List.length_append, List.length_cons, List.length_nil, iv_length, zl_length]; try omega; done)) [-getElem?_pos, -getElem?_neg, thenQ_ret, scopeQ_ret, inBlockQ_ret, RQ, resL, resV, hc])
    exact hGe
attribute [local irreducible] rfCount
theorem rfCount_text {l : List Int} : rdText 60000 l = if (rfCount 60000 l).2.2 ≠ 0 then ([], l, (rfCount 60000 l).2.2) else if (rfCount 60000 l).2.1.length < (rfCount 60000 l).1 then ([], l, 3) else ((rfCount 60000 l).2.1.take (rfCount 60000 l).1, (rfCount 60000 l).2.1.drop (rfCount 60000 l).1, 0) := by
  with_unfolding_all unfold rdText rdCount rfCount
  have hm : max (60000 : Int) 0 = 60000 := by omega
  rw [hm]
  by_cases h1 : (rdNum l).2.2 ≠ 0
  · simp only [if_pos h1]
  · simp only [if_neg h1]
    by_cases h2 : (60000 : Int) < (rdNum l).1
    · simp [if_pos h2]
    · simp only [if_neg h2]
theorem rfCount_by {l : List Int} (h : By l) : By (rfCount 60000 l).2.1 ∧ (rfCount 60000 l).2.1.length ≤ l.length ∧ (rfCount 60000 l).1 ≤ 4294967295 := by
  with_unfolding_all unfold rfCount
  have h1 := rdNum_by h
  have h2 := rdNum_val (l := l)
  split
  · exact ⟨h, Nat.le_refl _, by simp⟩
  · split
    · exact ⟨h1.1, h1.2, by simp⟩
    · exact ⟨h1.1, h1.2, h2⟩
theorem rtext_ac {H : AH} {γ : Nat → Option Nat} {nro p : Nat} {l : List Int} (hp : nro ≤ p) (h : hget H p = some (rrC l 0)) (hb : By l) (hl : l.length ≤ 1000000) :
    AC Tryd.prog nro γ 38 #[.pointer (some ⟨p, 0, none⟩), .int .i64 60000] H (fun v' H' => v' = .string (strOfNums (rdText 60000 l).1) ∧ H' = H.set p (some (rrC (rdText 60000 l).2.1 (rdText 60000 l).2.2))) := by
  have hct := rcount_ac (γ := γ) hp h hb hl
  have hpl := hget_lt h
  have htx := rfCount_text (l := l)
  have hby := rfCount_by hb
  obtain ⟨n, l2, e, hr⟩ : ∃ n l2 e, rfCount 60000 l = (n, l2, e) := ⟨_, _, _, rfl⟩
  rw [hr] at hct htx hby
  simp only at hct htx hby
  have hs2 := sn_size l2
  unfold rrC at h hct ⊢
  refine ac_of_aw Tryd.func38 rfl Tryd.ntmps38 Tryd.results38 (by simp) ?_
  refine aw_seq ?_
  (refine aw_ops (by kernel_rfl) (fun K hK => ?_); simp (disch := first | omega | (simp only [List.length_set, List.length_append, List.length_cons, List.length_nil, iv_length, zl_length]; try omega; done)) [-getElem?_pos, -getElem?_neg]; refine hK _ _ ?_; clear hK K)
  refine aw_seq ?_
  (refine aw_ops (by kernel_rfl) (fun K hK => ?_); simp (disch := first | omega | (simp only [List.length_set, List.length_append, List.length_cons, List.length_nil, iv_length, zl_length]; try omega; done)) [-getElem?_pos, -getElem?_neg, h]; refine hK _ _ ?_; clear hK K)
  refine aw_seq ?_
  refine aw_ops (by kernel_rfl) (fun K hK => ?_)
  simp (disch := first | omega | (simp only [List.length_set, List.length_append, List.length_cons, List.length_nil, iv_length, zl_length]; try omega; done)) [-getElem?_pos, -getElem?_neg]
  refine ⟨by kernel_rfl, AC.mono hct ?_⟩
  rintro _ G ⟨rfl, rfl⟩
  try simp (disch := first | omega | (simp only [List.length_set, List.length_append, List.length_cons, List.length_nil, iv_length, zl_length]; try omega; done)) [-getElem?_pos, -getElem?_neg]
  refine hK _ _ ?_; clear hK K
  obtain ⟨G, hGe⟩ : ∃ G : AH, G = H.set p (some ⟨[.string (strOfNums l2), .int .i64 e], 83, none⟩) := ⟨_, rfl⟩
  have hGp : hget G p = some ⟨[.string (strOfNums l2), .int .i64 e], 83, none⟩ := by rw [hGe, hget_set_eq hpl]
  have hGpl := hget_lt hGp
  rw [← hGe]
  refine aw_seq ?_
  refine aw_seq ?_
  by_cases he : e = 0
  · subst he
    rw [if_neg (by simp)] at htx
    by_cases hm : l2.length < n
    · rw [if_pos hm] at htx
      (refine aw_ops (by kernel_rfl) (fun K hK => ?_); simp (disch := first | omega | (simp only [List.length_set, List.length_append, List.length_cons, List.length_nil, iv_length, zl_length]; try omega; done)) [-getElem?_pos, -getElem?_neg, hGp, hs2, hm]; refine hK _ _ ?_; clear hK K)
      refine aw_t (by (first | (simp [eval_tmp, put_at, hm]; done) | (simp [eval_tmp, put_at, hm]; omega))) (by kernel_rfl) ?_
      (refine aw_ops (by kernel_rfl) (fun K hK => ?_); simp (disch := first | omega | (simp only [List.length_set, List.length_append, List.length_cons, List.length_nil, iv_length, zl_length]; try omega; done)) [-getElem?_pos, -getElem?_neg, hGp]; refine hK _ _ ?_; clear hK K)
      have hst := rstay_ac (γ := γ) (nro := nro) (was := l) (e := 3) (l := l2) (H := G.set p (some ⟨[.string (strOfNums l2), .int .i64 3], 83, none⟩)) hp (by rw [hget_set_eq hGpl]; rfl) (by omega)
      refine aw_seq ?_
      refine aw_seq ?_
      (refine aw_ops (by kernel_rfl) (fun K hK => ?_); simp (disch := first | omega | (simp only [List.length_set, List.length_append, List.length_cons, List.length_nil, iv_length, zl_length]; try omega; done)) [-getElem?_pos, -getElem?_neg]; refine hK _ _ ?_; clear hK K)
      refine aw_t (by (first | (simp [eval_tmp, put_at]; done) | (simp [eval_tmp, put_at]; omega))) (by kernel_rfl) ?_
      refine aw_seq ?_
      refine aw_ops (by kernel_rfl) (fun K hK => ?_)
      simp (disch := first | omega | (simp only [List.length_set, List.length_append, List.length_cons, List.length_nil, iv_length, zl_length]; try omega; done)) [-getElem?_pos, -getElem?_neg]
      refine ⟨by kernel_rfl, AC.mono hst ?_⟩
      rintro _ G2 rfl
      try simp (disch := first | omega | (simp only [List.length_set, List.length_append, List.length_cons, List.length_nil, iv_length, zl_length]; try omega; done)) [-getElem?_pos, -getElem?_neg]
      refine hK _ _ ?_; clear hK K
      refine aw_seq ?_
      (refine aw_ops (by kernel_rfl) (fun K hK => ?_); simp (disch := first | omega | (simp only [List.length_set, List.length_append, List.length_cons, List.length_nil, iv_length, zl_length]; try omega; done)) [-getElem?_pos, -getElem?_neg]; refine hK _ _ ?_; clear hK K)
      (refine aw_ret ?_; simp (disch := first | omega | (simp only [List.length_set, List.length_append, List.length_cons, List.length_nil, iv_length, zl_length]; try omega; done)) [-getElem?_pos, -getElem?_neg, thenQ_ret, scopeQ_ret, inBlockQ_ret, RQ, resL, resV, htx])
      rw [hGe]
      simp [rrC]
      rfl
    · rw [if_neg hm] at htx
      (refine aw_ops (by kernel_rfl) (fun K hK => ?_); simp (disch := first | omega | (simp only [List.length_set, List.length_append, List.length_cons, List.length_nil, iv_length, zl_length]; try omega; done)) [-getElem?_pos, -getElem?_neg, hGp, hs2, hm]; refine hK _ _ ?_; clear hK K)
      refine aw_f (by (first | (simp [eval_tmp, put_at, hm]; done) | (simp [eval_tmp, put_at, hm]; omega))) (by kernel_rfl) ?_
      refine aw_skip ?_
      refine aw_seq ?_
      refine aw_seq ?_
      (refine aw_ops (by kernel_rfl) (fun K hK => ?_); simp (disch := first | omega | (simp only [List.length_set, List.length_append, List.length_cons, List.length_nil, iv_length, zl_length]; try omega; done)) [-getElem?_pos, -getElem?_neg, hGp]; refine hK _ _ ?_; clear hK K)
      refine aw_f (by (first | (simp [eval_tmp, put_at]; done) | (simp [eval_tmp, put_at]; omega))) (by kernel_rfl) ?_
      refine aw_skip ?_
      refine aw_seq ?_
      have x1 := ex_take l2 n
      have x2 := ex_drop l2 n
      (refine aw_ops (by kernel_rfl) (fun K hK => ?_); simp (disch := first | omega | (simp only [List.length_set, List.length_append, List.length_cons, List.length_nil, iv_length, zl_length]; try omega; done)) [-getElem?_pos, -getElem?_neg, hGp, hs2, x1]; refine hK _ _ ?_; clear hK K)
      refine aw_seq ?_
      (refine aw_ops (by kernel_rfl) (fun K hK => ?_); simp (disch := first | omega | (simp only [List.length_set, List.length_append, List.length_cons, List.length_nil, iv_length, zl_length]; try omega; done)) [-getElem?_pos, -getElem?_neg, hGp, hs2, x2]; refine hK _ _ ?_; clear hK K)
      refine aw_seq ?_
      (refine aw_ops (by kernel_rfl) (fun K hK => ?_); simp (disch := first | omega | (simp only [List.length_set, List.length_append, List.length_cons, List.length_nil, iv_length, zl_length]; try omega; done)) [-getElem?_pos, -getElem?_neg]; refine hK _ _ ?_; clear hK K)
      (refine aw_ret ?_; simp (disch := first | omega | (simp only [List.length_set, List.length_append, List.length_cons, List.length_nil, iv_length, zl_length]; try omega; done)) [-getElem?_pos, -getElem?_neg, thenQ_ret, scopeQ_ret, inBlockQ_ret, RQ, resL, resV, htx])
      rw [hGe]
      simp
  · rw [if_pos he] at htx
    (refine aw_ops (by kernel_rfl) (fun K hK => ?_); simp (disch := first | omega | (simp only [List.length_set, List.length_append, List.length_cons, List.length_nil, iv_length, zl_length]; try omega; done)) [-getElem?_pos, -getElem?_neg, hGp, he]; refine hK _ _ ?_; clear hK K)
    refine aw_f (by (first | (simp [eval_tmp, put_at, he]; done) | (simp [eval_tmp, put_at, he]; omega))) (by kernel_rfl) ?_
    refine aw_skip ?_
    refine aw_seq ?_
    refine aw_seq ?_
    (refine aw_ops (by kernel_rfl) (fun K hK => ?_); simp (disch := first | omega | (simp only [List.length_set, List.length_append, List.length_cons, List.length_nil, iv_length, zl_length]; try omega; done)) [-getElem?_pos, -getElem?_neg, hGp, he]; refine hK _ _ ?_; clear hK K)
    refine aw_t (by (first | (simp [eval_tmp, put_at, he]; done) | (simp [eval_tmp, put_at, he]; omega))) (by kernel_rfl) ?_
    have hst := rstay_ac (γ := γ) (nro := nro) (was := l) (e := e) (l := l2) (H := G) hp hGp he
    refine aw_seq ?_
    refine aw_ops (by kernel_rfl) (fun K hK => ?_)
    simp (disch := first | omega | (simp only [List.length_set, List.length_append, List.length_cons, List.length_nil, iv_length, zl_length]; try omega; done)) [-getElem?_pos, -getElem?_neg]
    refine ⟨by kernel_rfl, AC.mono hst ?_⟩
    rintro _ G2 rfl
    try simp (disch := first | omega | (simp only [List.length_set, List.length_append, List.length_cons, List.length_nil, iv_length, zl_length]; try omega; done)) [-getElem?_pos, -getElem?_neg]
    refine hK _ _ ?_; clear hK K
    refine aw_seq ?_
    (refine aw_ops (by kernel_rfl) (fun K hK => ?_); simp (disch := first | omega | (simp only [List.length_set, List.length_append, List.length_cons, List.length_nil, iv_length, zl_length]; try omega; done)) [-getElem?_pos, -getElem?_neg]; refine hK _ _ ?_; clear hK K)
    (refine aw_ret ?_; simp (disch := first | omega | (simp only [List.length_set, List.length_append, List.length_cons, List.length_nil, iv_length, zl_length]; try omega; done)) [-getElem?_pos, -getElem?_neg, thenQ_ret, scopeQ_ret, inBlockQ_ret, RQ, resL, resV, htx])
    rw [hGe]
    simp [rrC]
    rfl
end

section
open Go Go.RowKit
set_option linter.unusedSimpArgs false
set_option linter.unusedVariables false
set_option maxRecDepth 100000
set_option maxHeartbeats 4000000

/-- A journal of the reference, where it lies. -/
structure RJ (H : AH) (q d : Nat) (rv : Value) (FR : List Nat) (J : JM) : Prop where
  hq : hget H q = some ⟨[.pointer (some ⟨d, 0, none⟩), .int .i64 (J.area : Nat), rv], 51, none⟩
  hr : OwnF H rv 9 1 (J.recs.map .string) FR
  qr : q ∉ FR
def ROpenQ (H : AH) (d : Nat) (o : Option JM × Int) (v' : Value) (H' : AH) : Prop :=
  Low H.length H H' ∧ match o with
    | (none, e) => v' = .tuple #[.pointer none, .int .i64 e]
    | (some J, e) => ∃ q rv FR, v' = .tuple #[.pointer (some ⟨q, 0, none⟩), .int .i64 e] ∧ RJ H' q d rv FR J ∧ H.length ≤ q ∧ ∀ j ∈ FR, H.length ≤ j
theorem recsR_nil {f : Nat} {acc : List ByteArray} : recsR f [] acc = some acc := by
  cases f <;> simp [recsR]
attribute [local irreducible] markL catK rdText openJ
attribute [local simp] wb_bool wb_undef XL_nil XL_cons XLc_val XLc_call step1_eq stepW_t stepW_f stepC_n stepC_s stepX_s stepX_n stepN_s calleeX oneV xop_eq xopR_s xopR_n wantedA_eq wantedG_n wantedG_s plain1_int plain1_bool plain1_string bits_i64 bits_u64 bits_u32 bits_u16 bits_u8 xeqA xagg xcmp xarr allK_iv num_iv calleeOf xread xeff xbin xint xnil xun xstr xload xconv xpart xfield xfieldAddr xindexAddr xindex bnd asInt? xslice xlen xmin xmax xbuild xfill xappend xapp2 xappstr xappmk xcap xcopy xcells eval_tmp eval_const put_at put_none fr0_at cells_agg cells_int cells_bool cells_string cells_ptr cells_slice notTuple tab iv_all hget_app hget_app0 hget_cons0 hget_cons set_app set_app0 setR setR_one QL_nil QL_cons QLc_val stepQ_t stepQ_f stepQC_n stepQC_s stepQX_s SL_nil SL_cons SLc_val stepS_t stepS_f ltT ltF leT leF eqT eqF ltTn ltFn leTn leFn eqTn eqFn beqT beqF bneT bneF wi64 wu64 wu32 wu16 wu8 tmodP tdivP hgetL hgetNe hgetEq setL nums_def nums_len Nat.succ_le_of_lt List.getElem?_cons_zero List.getElem?_cons_succ Option.getD_some Int.toNat_add Int.toNat_mul agB agI agS agP agL agA okB okI okS okP okSl okA
theorem ropen_ac {nro : Nat} {H : AH} {γ : Nat → Option Nat} (hnl : nro ≤ H.length) {d : Nat} {FD : List Nat} {D : DM} (hd : Rk H d FD D) :
    AC Tryd.prog nro γ 14 #[.pointer (some ⟨d, 0, none⟩)] H (ROpenQ H d (openJ D)) := by
  have h1 := hd.1.one
  have h2 := hd.1.most
  have hlate : ∀ r ∈ D.late, r.size = 256 := late_rows hd.1.rows (fun w hw => (hd.1.uns w hw).2)
  have hll : D.late.length = D.firm.length := late_len _ _
  have hopen : openJ D = openJ D := rfl
  generalize ho : openJ D = o at hopen ⊢
  unfold openJ at ho
  have hdl : ∀ j ∈ FD, j < H.length := hd.lt
  have hrd : ∀ (G : AH) (k : Nat), (∀ j ∈ FD, hget G j = hget H j) → k < D.firm.length → AC Tryd.prog nro γ 37 #[.pointer (some ⟨d, 0, none⟩), .int .i64 (k : Nat)] G (fun v' H' => v' = .string (D.late.getD k ⟨#[]⟩) ∧ H' = G) := by
    intro G k hG hk
    have := rread_ac (nro := nro) (γ := γ) (hd.low hG) hd.1.few hk
    have e : readV D.late (k : Nat) = D.late.getD k ⟨#[]⟩ := by
      unfold readV
      rw [if_pos (by simp [hasB]; omega)]
      simp
    rw [e] at this
    exact this
  have hhalf : ∀ (G : AH), (∀ j ∈ FD, hget G j = hget H j) → AC Tryd.prog G.length γ 12 #[.pointer (some ⟨d, 0, none⟩)] G (fun v' _ => v' = .int .i64 (((D.firm.length - 1) / 2 : Nat) : Int)) := fun G hG => rhalf_rc (hd.low hG)
  obtain ⟨f, A, B, FA, FB, hFD, hR⟩ := hd.2
  have hq := hR.hq
  refine ac_of_aw Tryd.func14 rfl Tryd.ntmps14 Tryd.results14 (by simp) ?_
  refine aw_seq ?_
  (refine aw_ops (by kernel_rfl) (fun K hK => ?_); simp (disch := first | omega | (simp only [List.length_set, List.length_append, List.length_cons, List.length_nil, iv_length, zl_length]; try omega; done)) [-getElem?_pos, -getElem?_neg]; refine hK _ _ ?_; clear hK K)
  refine aw_seq ?_
  refine aw_seq ?_
  by_cases hs3 : D.firm.length < 3
  · rw [if_pos hs3] at ho
    (refine aw_ops (by kernel_rfl) (fun K hK => ?_); simp (disch := first | omega | (simp only [List.length_set, List.length_append, List.length_cons, List.length_nil, iv_length, zl_length]; try omega; done)) [-getElem?_pos, -getElem?_neg, hq, hs3]; refine hK _ _ ?_; clear hK K)
    refine aw_t (by (first | (simp [eval_tmp, put_at]; done) | (simp [eval_tmp, put_at]; omega))) (by kernel_rfl) ?_
    refine aw_seq ?_
    (refine aw_ops (by kernel_rfl) (fun K hK => ?_); simp (disch := first | omega | (simp only [List.length_set, List.length_append, List.length_cons, List.length_nil, iv_length, zl_length]; try omega; done)) [-getElem?_pos, -getElem?_neg]; refine hK _ _ ?_; clear hK K)
    (refine aw_ret ?_; simp (disch := first | omega | (simp only [List.length_set, List.length_append, List.length_cons, List.length_nil, iv_length, zl_length]; try omega; done)) [-getElem?_pos, -getElem?_neg, thenQ_ret, scopeQ_ret, inBlockQ_ret, RQ, resL, resV])
    subst ho
    exact ⟨Low.refl (Nat.le_refl _), rfl⟩
  rw [if_neg hs3] at ho
  (refine aw_ops (by kernel_rfl) (fun K hK => ?_); simp (disch := first | omega | (simp only [List.length_set, List.length_append, List.length_cons, List.length_nil, iv_length, zl_length]; try omega; done)) [-getElem?_pos, -getElem?_neg, hq, hs3]; refine hK _ _ ?_; clear hK K)
  refine aw_f (by (first | (simp [eval_tmp, put_at]; done) | (simp [eval_tmp, put_at]; omega))) (by kernel_rfl) ?_
  refine aw_skip ?_
  have hrs : (D.late.getD 0 ⟨#[]⟩).size = 256 := by
    rw [List.getD_eq_getElem?_getD, List.getElem?_eq_getElem (by omega)]
    exact hlate _ (List.getElem_mem _)
  have hF : firstL D = (nums (D.late.getD 0 ⟨#[]⟩)).take 64 := rfl
  have hrd0 := hrd H 0 (fun _ _ => rfl) (by omega)
  generalize D.late.getD 0 ⟨#[]⟩ = r at *
  have hx : r.extract 0 64 = strOfNums (firstL D) := by rw [hF, ← ex_take, of_nums']
  have hFl : (firstL D).length = 64 := by rw [hF, List.length_take, nums_len, hrs]; rfl
  have hFb : By (firstL D) := by
    rw [hF]
    exact By.take (fun x hx => nums_bd r x hx) 64
  clear hF
  generalize firstL D = F at *
  refine aw_seq ?_
  refine aw_ops (by kernel_rfl) (fun K hK => ?_)
  simp (disch := first | omega | (simp only [List.length_set, List.length_append, List.length_cons, List.length_nil, iv_length, zl_length]; try omega; done)) [-getElem?_pos, -getElem?_neg]
  refine ⟨by kernel_rfl, AC.mono (by simpa using hrd0) ?_⟩
  rintro _ G ⟨rfl, e⟩
  rw [e]
  clear e G
  simp (disch := first | omega | (simp only [List.length_set, List.length_append, List.length_cons, List.length_nil, iv_length, zl_length]; try omega; done)) [-getElem?_pos, -getElem?_neg, hrs, hx]
  refine hK _ _ ?_; clear hK K
  refine aw_seq ?_
  refine aw_seq ?_
  have hz64 := rfilled_rc (γ := γ) (H := H) [] 64 (by omega) (by simp)
  have e64 : rfill [] 64 = zl 64 := by simp [rfill]
  have es : strOfNums [] = ⟨#[]⟩ := rfl
  rw [e64, es] at hz64
  have he := sn_eq hFb (zl_by 64)
  refine aw_ops (by kernel_rfl) (fun K hK => ?_)
  simp (disch := first | omega | (simp only [List.length_set, List.length_append, List.length_cons, List.length_nil, iv_length, zl_length]; try omega; done)) [-getElem?_pos, -getElem?_neg]
  refine ⟨by kernel_rfl, ac_of_rc hz64 (by simp [pv_iv, pv_int, pv_bool, pv_string, pv_tup2, pv_tup3, iv_plain, p2_int, p2_bool, p2_string]) ?_⟩
  by_cases hz : F = zl 64
  · rw [if_pos hz] at ho
    simp (disch := first | omega | (simp only [List.length_set, List.length_append, List.length_cons, List.length_nil, iv_length, zl_length]; try omega; done)) [-getElem?_pos, -getElem?_neg, he, hz]
    refine hK _ _ ?_; clear hK K
    refine aw_t (by (first | (simp [eval_tmp, put_at]; done) | (simp [eval_tmp, put_at]; omega))) (by kernel_rfl) ?_
    refine aw_seq ?_
    have r3 : List.range 3 = [0, 1, 2] := rfl
    (refine aw_ops (by kernel_rfl) (fun K hK => ?_); simp (disch := first | omega | (simp only [List.length_set, List.length_append, List.length_cons, List.length_nil, iv_length, zl_length]; try omega; done)) [-getElem?_pos, -getElem?_neg, r3, plain_nil]; refine hK _ _ ?_; clear hK K)
    (refine aw_ret ?_; simp (disch := first | omega | (simp only [List.length_set, List.length_append, List.length_cons, List.length_nil, iv_length, zl_length]; try omega; done)) [-getElem?_pos, -getElem?_neg, thenQ_ret, scopeQ_ret, inBlockQ_ret, RQ, resL, resV])
    subst ho
    exact ⟨Low.push (Nat.le_refl _) _, H.length, .slice none 0 0, [], rfl, ⟨by rw [hget_app0]; rfl, .inl ⟨rfl, rfl, rfl⟩, by simp⟩, Nat.le_refl _, by simp⟩
  rw [if_neg hz] at ho
  have hb : ((strOfNums F).toList == (strOfNums (zl 64)).toList) = false := by
    rw [beq_eq_false_iff_ne]
    exact fun h => hz (he.1 h)
  simp (disch := first | omega | (simp only [List.length_set, List.length_append, List.length_cons, List.length_nil, iv_length, zl_length]; try omega; done)) [-getElem?_pos, -getElem?_neg, he, hz, hb]
  refine hK _ _ ?_; clear hK K
  refine aw_f (by (first | (simp [eval_tmp, put_at]; done) | (simp [eval_tmp, put_at]; omega))) (by kernel_rfl) ?_
  refine aw_skip ?_
  have hsF : (strOfNums F).size = 64 := by rw [sn_size, hFl]
  have hgd : ∀ k, 0 ≤ F.getD k 0 ∧ F.getD k 0 ≤ 255 := fun k => by
    rw [List.getD_eq_getElem?_getD]
    cases hk : F[k]? with
    | none => simp
    | some x => have := hFb x (List.mem_of_getElem? hk); simpa using this
  have g4 := gb_sn hFb 4
  have g5 := gb_sn hFb 5
  have g6 := gb_sn hFb 6
  have g7 := gb_sn hFb 7
  have g8 := gb_sn hFb 8
  have hAd : mArea F = (F.getD 4 0).toNat := rfl
  have hSd : mSize F = (F.getD 5 0 * 16777216 + F.getD 6 0 * 65536 + F.getD 7 0 * 256 + F.getD 8 0).toNat := rfl
  have b4 := hgd 4
  have b5 := hgd 5
  have b6 := hgd 6
  have b7 := hgd 7
  have b8 := hgd 8
  have hMk : isMark F = (decide (mArea F < 2) && decide (markL (mArea F) (mSize F) = F)) := rfl
  generalize F.getD 4 0 = f4 at *
  generalize F.getD 5 0 = f5 at *
  generalize F.getD 6 0 = f6 at *
  generalize F.getD 7 0 = f7 at *
  generalize F.getD 8 0 = f8 at *
  generalize mArea F = a at *
  generalize mSize F = n at *
  generalize isMark F = M at *
  have ha4 : f4 = (a : Nat) := by omega
  have hn4 : f5 * 16777216 + f6 * 65536 + f7 * 256 + f8 = (n : Nat) := by omega
  have ha255 : a ≤ 255 := by omega
  have hn32 : n < 4294967296 := by omega
  refine aw_seq ?_
  (refine aw_ops (by kernel_rfl) (fun K hK => ?_); simp (disch := first | omega | (simp only [List.length_set, List.length_append, List.length_cons, List.length_nil, iv_length, zl_length]; try omega; done)) [-getElem?_pos, -getElem?_neg, hsF, g4, ha4]; refine hK _ _ ?_; clear hK K)
  refine aw_seq ?_
  (refine aw_plan [] [] [0, 1, 2, 3, 4, 5, 6, 7, 8, 9, 10, 11, 12, 13, 14, 15, 16, 17, 18] 19 0 (by kernel_rfl) (by kernel_rfl) (by kernel_rfl) (fun K hK => ?_)); simp only [sel, List.getElem?_cons_succ, List.getElem?_cons_zero, List.drop_succ_cons, List.drop_zero]; simp (disch := first | omega | (simp only [List.length_set, List.length_append, List.length_cons, List.length_nil, iv_length, zl_length]; try omega; done)) [-getElem?_pos, -getElem?_neg, hsF, g5, g6, g7, g8, hn4, PL_nil, PL_cons, PLc_val, PLc_new, stepP_t, stepP_f, stepPC_n, stepPC_s, stepPX_s, stepPX_n, stepPA_t, stepPA_c, stepPA_l, stepPN_s, allocOp, reloc_sl, reloc_ptr, List.map_cons, List.map_nil, List.nil_append, List.append_assoc, List.cons_append, Nat.add_assoc]
  refine hK _ _ ?_; clear hK K
  obtain ⟨Hf, hHf⟩ : ∃ Hf, Hf = (D.firm.length - 1) / 2 := ⟨_, rfl⟩
  have hhalf0 := hhalf H (fun _ _ => rfl)
  rw [← hHf] at ho hhalf0
  have hHfb : Hf ≤ 512 := by omega
  refine aw_seq ?_
  refine aw_seq ?_
  refine aw_cut (fun α G => α 63 = .bool (decide (1 < a ∨ markL a n ≠ F ∨ Hf * 256 < n)) ∧ H = G ∧ α 0 = .pointer (some ⟨d, 0, none⟩) ∧ α 5 = .int .i64 (a : Nat) ∧ α 6 = .int .i64 (n : Nat)) ?_ ?_
  · by_cases c1 : 1 < a
    · (refine aw_ops (by kernel_rfl) (fun K hK => ?_); simp (disch := first | omega | (simp only [List.length_set, List.length_append, List.length_cons, List.length_nil, iv_length, zl_length]; try omega; done)) [-getElem?_pos, -getElem?_neg, c1]; refine hK _ _ ?_; clear hK K)
      exact ⟨by (first | (simp [put_at, put_none, fr0_at, c1]; done) | rfl), rfl, by (first | (simp [put_at, put_none, fr0_at]; done) | rfl), by (first | (simp [put_at, put_none, fr0_at]; done) | rfl), by (first | (simp [put_at, put_none, fr0_at]; done) | rfl)⟩
    · have hmk := rmark_rc (γ := γ) (H := H) a n ha255 hn32
      have hml := markL_by a n
      generalize markL a n = Mk at *
      have heq := sn_eq hFb hml
      refine aw_ops (by kernel_rfl) (fun K hK => ?_)
      simp (disch := first | omega | (simp only [List.length_set, List.length_append, List.length_cons, List.length_nil, iv_length, zl_length]; try omega; done)) [-getElem?_pos, -getElem?_neg, c1]
      refine ⟨by kernel_rfl, ac_of_rc hmk (by simp [pv_iv, pv_int, pv_bool, pv_string, pv_tup2, pv_tup3, iv_plain, p2_int, p2_bool, p2_string]) ?_⟩
      by_cases c2 : F = Mk
      · have hbq : ((strOfNums F).toList == (strOfNums Mk).toList) = true := by rw [c2]; simp
        simp (disch := first | omega | (simp only [List.length_set, List.length_append, List.length_cons, List.length_nil, iv_length, zl_length]; try omega; done)) [-getElem?_pos, -getElem?_neg, heq, c2, hbq]
        refine ⟨by kernel_rfl, ac_of_rc hhalf0 (by simp [pv_iv, pv_int, pv_bool, pv_string, pv_tup2, pv_tup3, iv_plain, p2_int, p2_bool, p2_string]) ?_⟩
        by_cases c3 : Hf * 256 < n
        · have c3i : (Hf : Int) * 256 < (n : Nat) := by omega
          simp (disch := first | omega | (simp only [List.length_set, List.length_append, List.length_cons, List.length_nil, iv_length, zl_length]; try omega; done)) [-getElem?_pos, -getElem?_neg, c3, c3i]
          refine hK _ _ ?_; clear hK K
          exact ⟨by (first | (simp [put_at, put_none, fr0_at, c2, c3]; done) | rfl), rfl, by (first | (simp [put_at, put_none, fr0_at]; done) | rfl), by (first | (simp [put_at, put_none, fr0_at]; done) | rfl), by (first | (simp [put_at, put_none, fr0_at]; done) | rfl)⟩
        · have c3i : ¬ (Hf : Int) * 256 < (n : Nat) := by omega
          simp (disch := first | omega | (simp only [List.length_set, List.length_append, List.length_cons, List.length_nil, iv_length, zl_length]; try omega; done)) [-getElem?_pos, -getElem?_neg, c3, c3i]
          refine hK _ _ ?_; clear hK K
          exact ⟨by (first | (simp [put_at, put_none, fr0_at, c1, c2, c3]; done) | rfl), rfl, by (first | (simp [put_at, put_none, fr0_at]; done) | rfl), by (first | (simp [put_at, put_none, fr0_at]; done) | rfl), by (first | (simp [put_at, put_none, fr0_at]; done) | rfl)⟩
      · have c2' : ¬ Mk = F := fun h => c2 h.symm
        have hbq : ((strOfNums F).toList == (strOfNums Mk).toList) = false := by
          rw [beq_eq_false_iff_ne]
          exact fun h => c2 (heq.1 h)
        simp (disch := first | omega | (simp only [List.length_set, List.length_append, List.length_cons, List.length_nil, iv_length, zl_length]; try omega; done)) [-getElem?_pos, -getElem?_neg, heq, c2, c2', hbq]
        refine hK _ _ ?_; clear hK K
        exact ⟨by (first | (simp [put_at, put_none, fr0_at, c2']; done) | rfl), rfl, by (first | (simp [put_at, put_none, fr0_at]; done) | rfl), by (first | (simp [put_at, put_none, fr0_at]; done) | rfl), by (first | (simp [put_at, put_none, fr0_at]; done) | rfl)⟩
  rintro α G ⟨h63, rfl, h0, h5, h6⟩
  by_cases hbad : 1 < a ∨ markL a n ≠ F ∨ Hf * 256 < n
  · refine aw_t (by (first | (simp [eval_tmp, put_at, h63, hbad]; done) | (simp [eval_tmp, put_at, h63, hbad]; omega))) (by kernel_rfl) ?_
    refine aw_seq ?_
    (refine aw_ops (by kernel_rfl) (fun K hK => ?_); simp (disch := first | omega | (simp only [List.length_set, List.length_append, List.length_cons, List.length_nil, iv_length, zl_length]; try omega; done)) [-getElem?_pos, -getElem?_neg]; refine hK _ _ ?_; clear hK K)
    (refine aw_ret ?_; simp (disch := first | omega | (simp only [List.length_set, List.length_append, List.length_cons, List.length_nil, iv_length, zl_length]; try omega; done)) [-getElem?_pos, -getElem?_neg, thenQ_ret, scopeQ_ret, inBlockQ_ret, RQ, resL, resV])
    have hcond : M = false ∨ Hf * 256 < n := by
      rw [hMk]
      rcases hbad with h | h | h
      · exact .inl (by rw [decide_eq_false (by omega), Bool.false_and])
      · exact .inl (by rw [decide_eq_false h, Bool.and_false])
      · exact .inr h
    rw [if_pos hcond] at ho
    subst ho
    exact ⟨Low.refl (Nat.le_refl _), rfl⟩
  have hcond : ¬ (M = false ∨ Hf * 256 < n) := by
    rw [hMk]
    have q1 : markL a n = F := Classical.not_not.1 fun h => hbad (.inr (.inl h))
    rintro (h | h)
    · rw [decide_eq_true q1, decide_eq_true (show a < 2 by omega)] at h
      cases h
    · omega
  rw [if_neg hcond] at ho
  refine aw_f (by (first | (simp [eval_tmp, put_at, h63, hbad]; done) | (simp [eval_tmp, put_at, h63, hbad]; omega))) (by kernel_rfl) ?_
  refine aw_skip ?_
  have ha1 : a ≤ 1 := by omega
  have hn1 : n ≤ Hf * 256 := by omega
  obtain ⟨S, hS⟩ : ∃ S, S = 1 + a * Hf := ⟨_, rfl⟩
  have hSb : S + Hf ≤ D.firm.length := by
    rcases Nat.le_one_iff_eq_zero_or_eq_one.1 ha1 with e | e <;> rw [e] at hS <;> omega
  have hB : JM.bytes ⟨D, [], a, n⟩ = (catK D.late S Hf).take n := by
    unfold JM.bytes JM.start JM.half
    rw [hS, hHf]
  rw [hB] at ho
  obtain ⟨Bs, hBs⟩ : ∃ Bs, Bs = (catK D.late S Hf).take n := ⟨_, rfl⟩
  have hBl : Bs.length ≤ 131072 := by rw [hBs, List.length_take]; omega
  have hBb : By Bs := by rw [hBs]; exact (catK_by _ _ _).take _
  refine aw_seq ?_
  (refine aw_ops (by kernel_rfl) (fun K hK => ?_); simp (disch := first | omega | (simp only [List.length_set, List.length_append, List.length_cons, List.length_nil, iv_length, zl_length]; try omega; done)) [-getElem?_pos, -getElem?_neg]; refine hK _ _ ?_; clear hK K)
  refine aw_seq ?_
  refine aw_cut (fun α G => ∃ i : Nat, α 7 = .string (strOfNums (catK D.late S i)) ∧ i ≤ Hf ∧ n ≤ 256 * i ∧ H = G ∧ α 0 = .pointer (some ⟨d, 0, none⟩) ∧ α 5 = .int .i64 (a : Nat) ∧ α 6 = .int .i64 (n : Nat)) ?_ ?_
  · refine aw_seq ?_
    (refine aw_ops (by kernel_rfl) (fun K hK => ?_); simp (disch := first | omega | (simp only [List.length_set, List.length_append, List.length_cons, List.length_nil, iv_length, zl_length]; try omega; done)) [-getElem?_pos, -getElem?_neg]; refine hK _ _ ?_; clear hK K)
    refine aw_block ?_
    refine aw_loop (fun c α G => ∃ i : Nat, i + c = Hf ∧ α 7 = .string (strOfNums (catK D.late S i)) ∧ α 8 = .int .i64 (i : Nat) ∧ H = G ∧ α 0 = .pointer (some ⟨d, 0, none⟩) ∧ α 5 = .int .i64 (a : Nat) ∧ α 6 = .int .i64 (n : Nat)) Hf ?_ ?_
    · exact ⟨0, by omega, by with_unfolding_all (first | (simp [put_at, put_none, fr0_at]; done) | rfl), by (first | (simp [put_at, put_none, fr0_at]; done) | rfl), rfl, by (first | (simp [put_at, put_none, fr0_at, h0]; done) | rfl), by (first | (simp [put_at, put_none, fr0_at, h5]; done) | rfl), by (first | (simp [put_at, put_none, fr0_at, h6]; done) | rfl)⟩
    clear h0 h5 h6 h63
    rintro c α G ⟨i, hic, h7, h8, rfl, h0, h5, h6⟩
    have hcl : (strOfNums (catK D.late S i)).size = 256 * i := by rw [sn_size, catK_len hlate S i (by omega)]
    refine aw_seq ?_
    refine aw_seq ?_
    refine aw_ops (by kernel_rfl) (fun K hK => ?_)
    simp (disch := first | omega | (simp only [List.length_set, List.length_append, List.length_cons, List.length_nil, iv_length, zl_length]; try omega; done)) [-getElem?_pos, -getElem?_neg, h0, h8]
    refine ⟨by kernel_rfl, ac_of_rc hhalf0 (by simp [pv_iv, pv_int, pv_bool, pv_string, pv_tup2, pv_tup3, iv_plain, p2_int, p2_bool, p2_string]) ?_⟩
    by_cases hi : i < Hf
    case neg =>
      simp (disch := first | omega | (simp only [List.length_set, List.length_append, List.length_cons, List.length_nil, iv_length, zl_length]; try omega; done)) [-getElem?_pos, -getElem?_neg, hi]
      refine hK _ _ ?_; clear hK K
      refine aw_f (by (first | (simp [eval_tmp, put_at]; done) | (simp [eval_tmp, put_at]; omega))) (by kernel_rfl) ?_
      refine aw_exit ?_
      exact ⟨i, by (first | (simp [put_at, put_none, fr0_at, h7]; done) | rfl), by omega, by omega, rfl, by (first | (simp [put_at, put_none, fr0_at, h0]; done) | rfl), by (first | (simp [put_at, put_none, fr0_at, h5]; done) | rfl), by (first | (simp [put_at, put_none, fr0_at, h6]; done) | rfl)⟩
    by_cases hlt : 256 * i < n
    case neg =>
      simp (disch := first | omega | (simp only [List.length_set, List.length_append, List.length_cons, List.length_nil, iv_length, zl_length]; try omega; done)) [-getElem?_pos, -getElem?_neg, hi, h7, h6, hcl, hlt]
      refine hK _ _ ?_; clear hK K
      refine aw_f (by (first | (simp [eval_tmp, put_at]; done) | (simp [eval_tmp, put_at]; omega))) (by kernel_rfl) ?_
      refine aw_exit ?_
      exact ⟨i, by (first | (simp [put_at, put_none, fr0_at, h7]; done) | rfl), by omega, by omega, rfl, by (first | (simp [put_at, put_none, fr0_at, h0]; done) | rfl), by (first | (simp [put_at, put_none, fr0_at, h5]; done) | rfl), by (first | (simp [put_at, put_none, fr0_at, h6]; done) | rfl)⟩
    simp (disch := first | omega | (simp only [List.length_set, List.length_append, List.length_cons, List.length_nil, iv_length, zl_length]; try omega; done)) [-getElem?_pos, -getElem?_neg, hi, h7, h6, hcl, hlt]
    refine hK _ _ ?_; clear hK K
    refine aw_t (by (first | (simp [eval_tmp, put_at]; done) | (simp [eval_tmp, put_at]; omega))) (by kernel_rfl) ?_
    refine aw_skip ?_
    refine aw_seq ?_
    refine aw_block ?_
    have hmul : (a : Int) * (Hf : Int) = ((a * Hf : Nat) : Int) := by simp
    have haH : a * Hf ≤ 512 := by
      have := Nat.mul_le_mul ha1 hHfb
      omega
    have hidx : (1 : Int) + ((a * Hf : Nat) : Int) + (i : Nat) = ((S + i : Nat) : Int) := by rw [hS]; omega
    have hrdi := hrd H (S + i) (fun _ _ => rfl) (by omega)
    have hrz : (D.late.getD (S + i) ⟨#[]⟩).size = 256 := by
      rw [List.getD_eq_getElem?_getD, List.getElem?_eq_getElem (by omega)]
      exact hlate _ (List.getElem_mem _)
    have hnx : catK D.late S (i + 1) = catK D.late S i ++ nums (D.late.getD (S + i) ⟨#[]⟩) := by with_unfolding_all rfl
    have happ : strOfNums (catK D.late S i) ++ D.late.getD (S + i) ⟨#[]⟩ = strOfNums (catK D.late S (i + 1)) := by
      rw [hnx, ← sn_app, of_nums']
    generalize a * Hf = aH at *
    generalize D.late.getD (S + i) ⟨#[]⟩ = blk at *
    refine aw_ops (by kernel_rfl) (fun K hK => ?_)
    simp (disch := first | omega | (simp only [List.length_set, List.length_append, List.length_cons, List.length_nil, iv_length, zl_length]; try omega; done)) [-getElem?_pos, -getElem?_neg, h0, h5, h7, h8]
    refine ⟨by kernel_rfl, ac_of_rc hhalf0 (by simp [pv_iv, pv_int, pv_bool, pv_string, pv_tup2, pv_tup3, iv_plain, p2_int, p2_bool, p2_string]) ?_⟩
    simp (disch := first | omega | (simp only [List.length_set, List.length_append, List.length_cons, List.length_nil, iv_length, zl_length]; try omega; done)) [-getElem?_pos, -getElem?_neg, hmul, hidx, h0, h5, h7, h8]
    refine ⟨by kernel_rfl, AC.mono hrdi ?_⟩
    rintro _ G' ⟨rfl, e⟩
    rw [e]
    clear e G'
    simp (disch := first | omega | (simp only [List.length_set, List.length_append, List.length_cons, List.length_nil, iv_length, zl_length]; try omega; done)) [-getElem?_pos, -getElem?_neg, hcl, hrz, happ]
    refine hK _ _ ?_; clear hK K
    (refine aw_ops (by kernel_rfl) (fun K hK => ?_); simp (disch := first | omega | (simp only [List.length_set, List.length_append, List.length_cons, List.length_nil, iv_length, zl_length]; try omega; done)) [-getElem?_pos, -getElem?_neg, h8]; refine hK _ _ ?_; clear hK K)
    exact ⟨c - 1, by omega, i + 1, by omega, by (first | (simp [put_at, put_none, fr0_at]; done) | rfl), by (first | (simp [put_at, put_none, fr0_at]; done) | rfl), rfl, by (first | (simp [put_at, put_none, fr0_at, h0]; done) | rfl), by (first | (simp [put_at, put_none, fr0_at, h5]; done) | rfl), by (first | (simp [put_at, put_none, fr0_at, h6]; done) | rfl)⟩
  clear h0 h5 h6 h63
  rintro α G ⟨i, h7, hiH, hin, rfl, h0, h5, h6⟩
  have hcl : (strOfNums (catK D.late S i)).size = 256 * i := by rw [sn_size, catK_len hlate S i (by omega)]
  have htk : (catK D.late S i).take n = Bs := by
    rw [hBs, show Hf = i + (Hf - i) by omega, catK_take hlate S i (Hf - i) n (by omega) hin]
  have hext : (strOfNums (catK D.late S i)).extract 0 n = strOfNums Bs := by rw [ex_take, htk]
  rw [← hBs] at ho
  generalize catK D.late S i = cs at *
  refine aw_seq ?_
  have r2 : List.range 2 = [0, 1] := rfl
  (refine aw_ops (by kernel_rfl) (fun K hK => ?_); simp (disch := first | omega | (simp only [List.length_set, List.length_append, List.length_cons, List.length_nil, iv_length, zl_length]; try omega; done)) [-getElem?_pos, -getElem?_neg, h6, h7, hcl, hext, r2, nt_strJ]; refine hK _ _ ?_; clear hK K)
  refine aw_seq ?_
  (refine aw_ops (by kernel_rfl) (fun K hK => ?_); simp (disch := first | omega | (simp only [List.length_set, List.length_append, List.length_cons, List.length_nil, iv_length, zl_length]; try omega; done)) [-getElem?_pos, -getElem?_neg]; refine hK _ _ ?_; clear hK K)
  obtain ⟨G0, hG0⟩ : ∃ G0 : AH, G0 = H ++ [some ⟨[.string (strOfNums Bs), .int .i64 0], 83, none⟩] := ⟨_, rfl⟩
  rw [← hG0]
  have hg0 : hget G0 H.length = some (rrC Bs 0) := by rw [hG0, hget_app0]; rfl
  have hl0 : Low H.length H G0 := by rw [hG0]; exact Low.push (Nat.le_refl _) _
  obtain ⟨T, hT⟩ : ∃ T, T = recsR Bs.length Bs [] := ⟨_, rfl⟩
  rw [← hT] at ho
  clear hG0 h6 h7 hcl hext htk
  refine aw_seq ?_
  refine aw_block ?_
  refine aw_loop (fun c α G => ∃ (l : List Int) (e : Int) (acc : List ByteArray) (va : Value) (Fa : List Nat), α 9 = .pointer (some ⟨H.length, 0, none⟩) ∧ α 10 = va ∧ α 0 = .pointer (some ⟨d, 0, none⟩) ∧ α 5 = .int .i64 (a : Nat) ∧ hget G H.length = some (rrC l e) ∧ OwnF G va 9 1 (acc.map .string) Fa ∧ (∀ j ∈ Fa, H.length < j) ∧ Low H.length H G ∧ By l ∧
    ((e = 0 ∧ c = l.length + 1 ∧ acc.length + l.length ≤ 131072 ∧ ∃ f, l.length ≤ f ∧ recsR f l acc = T) ∨ (e ≠ 0 ∧ T = none ∧ c = 0))) (Bs.length + 1) ?_ ?_
  · exact ⟨Bs, 0, [], .slice none 0 0, [], by (first | (simp [put_at, put_none, fr0_at]; done) | rfl), by (first | (simp [put_at, put_none, fr0_at]; done) | rfl), by (first | (simp [put_at, put_none, fr0_at, h0]; done) | rfl), by (first | (simp [put_at, put_none, fr0_at, h5]; done) | rfl), hg0, .inl ⟨rfl, rfl, rfl⟩, by simp, hl0, hBb, .inl ⟨rfl, rfl, by simp; omega, Bs.length, Nat.le_refl _, hT.symm⟩⟩
  clear h0 h5 hg0 hl0 hT hBb hBl hBs hB
  rintro c α G ⟨l, e, acc, va, Fa, h9, h10, h0, h5, hg, hown, hFa, hlow, hlb, hst⟩
  have hgc := hg
  unfold rrC at hgc
  have hsl := sn_size l
  have hgl := hget_lt hg
  have hsh := own_shape hown
  refine aw_seq ?_
  refine aw_seq ?_
  by_cases hgo : 0 < l.length ∧ e = 0
  case neg =>
    have hex : AW Tryd.prog nro 121 γ (.skip) (fun _ _ _ => True) α G := aw_skip trivial
    clear hex
    refine aw_cut (fun α G' => α 104 = .bool false ∧ G = G' ∧ α 0 = .pointer (some ⟨d, 0, none⟩) ∧ α 5 = .int .i64 (a : Nat) ∧ α 9 = .pointer (some ⟨H.length, 0, none⟩) ∧ α 10 = va) ?_ ?_
    · by_cases q1 : 0 < l.length
      · have q2 : ¬ e = 0 := fun h => hgo ⟨q1, h⟩
        (refine aw_ops (by kernel_rfl) (fun K hK => ?_); simp (disch := first | omega | (simp only [List.length_set, List.length_append, List.length_cons, List.length_nil, iv_length, zl_length]; try omega; done)) [-getElem?_pos, -getElem?_neg, h9, hgc, hsl, q1, q2]; refine hK _ _ ?_; clear hK K)
        exact ⟨by (first | (simp [put_at, put_none, fr0_at]; done) | rfl), rfl, by (first | (simp [put_at, put_none, fr0_at, h0]; done) | rfl), by (first | (simp [put_at, put_none, fr0_at, h5]; done) | rfl), by (first | (simp [put_at, put_none, fr0_at, h9]; done) | rfl), by (first | (simp [put_at, put_none, fr0_at, h10]; done) | rfl)⟩
      · (refine aw_ops (by kernel_rfl) (fun K hK => ?_); simp (disch := first | omega | (simp only [List.length_set, List.length_append, List.length_cons, List.length_nil, iv_length, zl_length]; try omega; done)) [-getElem?_pos, -getElem?_neg, h9, hgc, hsl, q1]; refine hK _ _ ?_; clear hK K)
        exact ⟨by (first | (simp [put_at, put_none, fr0_at]; done) | rfl), rfl, by (first | (simp [put_at, put_none, fr0_at, h0]; done) | rfl), by (first | (simp [put_at, put_none, fr0_at, h5]; done) | rfl), by (first | (simp [put_at, put_none, fr0_at, h9]; done) | rfl), by (first | (simp [put_at, put_none, fr0_at, h10]; done) | rfl)⟩
    clear h0 h5 h9 h10
    rintro α G' ⟨h104, rfl, h0, h5, h9, h10⟩
    refine aw_f (by (first | (simp [eval_tmp, put_at, h104]; done) | (simp [eval_tmp, put_at, h104]; omega))) (by kernel_rfl) ?_
    refine aw_exit ?_
    refine aw_seq ?_
    refine aw_seq ?_
    rcases hst with ⟨he, _, _, f, hf, hrec⟩ | ⟨he, hTn, _⟩
    · have hl : l = [] := by
        have : ¬ 0 < l.length := fun h => hgo ⟨h, he⟩
        exact List.length_eq_zero_iff.1 (by omega)
      subst hl
      rw [recsR_nil] at hrec
      rw [← hrec] at ho
      subst he
      (refine aw_ops (by kernel_rfl) (fun K hK => ?_); simp (disch := first | omega | (simp only [List.length_set, List.length_append, List.length_cons, List.length_nil, iv_length, zl_length]; try omega; done)) [-getElem?_pos, -getElem?_neg, h9, hgc]; refine hK _ _ ?_; clear hK K)
      refine aw_f (by (first | (simp [eval_tmp, put_at]; done) | (simp [eval_tmp, put_at]; omega))) (by kernel_rfl) ?_
      refine aw_skip ?_
      refine aw_seq ?_
      have r3 : List.range 3 = [0, 1, 2] := rfl
      (refine aw_ops (by kernel_rfl) (fun K hK => ?_); simp (disch := first | omega | (simp only [List.length_set, List.length_append, List.length_cons, List.length_nil, iv_length, zl_length]; try omega; done)) [-getElem?_pos, -getElem?_neg, h0, h5, h10, r3, plain_nil, -notTuple, nt_intJ, nt_ptrJ, nt_slJ, nt_aggJ, hsh.1, hsh.2]; refine hK _ _ ?_; clear hK K)
      (refine aw_ret ?_; simp (disch := first | omega | (simp only [List.length_set, List.length_append, List.length_cons, List.length_nil, iv_length, zl_length]; try omega; done)) [-getElem?_pos, -getElem?_neg, thenQ_ret, scopeQ_ret, inBlockQ_ret, RQ, resL, resV])
      subst ho
      refine ⟨hlow.trans (Low.push (by have := hlow.2; omega) _), G.length, va, Fa, rfl, ⟨by rw [hget_app0]; rfl, hown.low (fun j hj => hget_left (hown.lt j hj)), fun hm => by have := hown.lt _ hm; omega⟩, hlow.2, fun j hj => by have := hFa j hj; omega⟩
    · rw [hTn] at ho
      (refine aw_ops (by kernel_rfl) (fun K hK => ?_); simp (disch := first | omega | (simp only [List.length_set, List.length_append, List.length_cons, List.length_nil, iv_length, zl_length]; try omega; done)) [-getElem?_pos, -getElem?_neg, h9, hgc, he]; refine hK _ _ ?_; clear hK K)
      refine aw_t (by (first | (simp [eval_tmp, put_at, he]; done) | (simp [eval_tmp, put_at, he]; omega))) (by kernel_rfl) ?_
      refine aw_seq ?_
      (refine aw_ops (by kernel_rfl) (fun K hK => ?_); simp (disch := first | omega | (simp only [List.length_set, List.length_append, List.length_cons, List.length_nil, iv_length, zl_length]; try omega; done)) [-getElem?_pos, -getElem?_neg]; refine hK _ _ ?_; clear hK K)
      (refine aw_ret ?_; simp (disch := first | omega | (simp only [List.length_set, List.length_append, List.length_cons, List.length_nil, iv_length, zl_length]; try omega; done)) [-getElem?_pos, -getElem?_neg, thenQ_ret, scopeQ_ret, inBlockQ_ret, RQ, resL, resV])
      subst ho
      exact ⟨hlow, rfl⟩
  obtain ⟨q1, rfl⟩ := hgo
  have hll2 : acc.length + l.length ≤ 131072 := by
    rcases hst with ⟨_, _, h, _⟩ | ⟨h, _⟩
    · exact h
    · exact absurd rfl h
  (refine aw_ops (by kernel_rfl) (fun K hK => ?_); simp (disch := first | omega | (simp only [List.length_set, List.length_append, List.length_cons, List.length_nil, iv_length, zl_length]; try omega; done)) [-getElem?_pos, -getElem?_neg, h9, hgc, hsl, q1]; refine hK _ _ ?_; clear hK K)
  refine aw_t (by (first | (simp [eval_tmp, put_at]; done) | (simp [eval_tmp, put_at]; omega))) (by kernel_rfl) ?_
  refine aw_skip ?_
  refine aw_block ?_
  refine aw_seq ?_
  have htx := rtext_ac (γ := γ) (nro := nro) hnl hg hlb (by omega)
  have hsho := rdText_short (most := 60000) (l := l)
  have hrb := rdText_by (most := 60000) hlb
  obtain ⟨tx, l', e', hr⟩ : ∃ tx l' e', rdText 60000 l = (tx, l', e') := ⟨_, _, _, rfl⟩
  have hstep : ∀ f, l.length ≤ f → recsR f l acc = T → if e' ≠ 0 then T = none else ∃ f', f = f' + 1 ∧ recsR f' l' (acc ++ [strOfNums tx]) = T := fun f hf h => by
    obtain ⟨f', rfl⟩ : ∃ f', f = f' + 1 := ⟨f - 1, by omega⟩
    rw [recsR, if_neg (fun h => by rw [h] at q1; simp at q1), hr] at h
    simp only at h
    by_cases he : e' ≠ 0
    · rw [if_pos he] at h ⊢
      exact h.symm
    · rw [if_neg he] at h ⊢
      exact ⟨f', rfl, h⟩
  rw [hr] at htx hsho hrb
  simp only at htx hsho hrb
  refine aw_ops (by kernel_rfl) (fun K hK => ?_)
  simp (disch := first | omega | (simp only [List.length_set, List.length_append, List.length_cons, List.length_nil, iv_length, zl_length]; try omega; done)) [-getElem?_pos, -getElem?_neg, h9]
  refine ⟨by kernel_rfl, AC.mono htx ?_⟩
  rintro _ G1 ⟨rfl, hG1⟩
  have hg1 : hget G1 H.length = some (rrC l' e') := by rw [hG1, hget_set_eq hgl]
  have hk1 : ∀ j, j ≠ H.length → hget G1 j = hget G j := fun j hj => by rw [hG1, hget_set_ne (Ne.symm hj)]
  have hl1 : G1.length = G.length := by rw [hG1]; simp
  clear hG1 htx
  try simp (disch := first | omega | (simp only [List.length_set, List.length_append, List.length_cons, List.length_nil, iv_length, zl_length]; try omega; done)) [-getElem?_pos, -getElem?_neg]
  refine hK _ _ ?_; clear hK K
  have hown1 := hown.low (H' := G1 ++ [some ⟨[.string (strOfNums tx)], 9, some 1⟩]) (fun j hj => by
    have := hown.lt j hj
    rw [hget_left (by omega), hk1 j (by have := hFa j hj; omega)])
  obtain ⟨v', G3, F', hxa, ho3, hl3, hk3, hn3⟩ := ownF_appendS (P := Tryd.prog) (nro := nro) (t := 22) (e := 9) (H := G1 ++ [some ⟨[.string (strOfNums tx)], 9, some 1⟩]) (v := va) (x := .slice (some ⟨G1.length, 0, none⟩) 1 1) (news := [.string (strOfNums tx)]) (by simp) (by simp) (by simp) (by simp) hown1 (fun j hj => by have := hFa j hj; omega) (fun s h => by cases h) (by simp [xcells, hget_app0, hget_cons0]) (by simp; omega)
  have hsh3 := own_shape ho3
  (refine aw_ops (by kernel_rfl) (fun K hK => ?_); simp (disch := first | omega | (simp only [List.length_set, List.length_append, List.length_cons, List.length_nil, iv_length, zl_length]; try omega; done)) [-getElem?_pos, -getElem?_neg, h10, -notTuple, nt_strJ, nt_slJ, hsh.1, hsh3.1, -xappend, hxa]; refine hK _ _ ?_; clear hK K)
  simp only [List.length_append, List.length_cons, List.length_nil] at hl3 hk3 hn3
  have hg3 : hget G3 H.length = some (rrC l' e') := by
    rw [hk3 H.length (by omega) (fun hm => by have := hFa _ hm; omega), hget_left (by omega), hg1]
  have hlow3 : Low H.length H G3 := ⟨fun j hj => by
    rw [hk3 j (by have := hlow.2; omega) (fun hm => by have := hFa _ hm; omega), hget_left (by have := hlow.2; omega), hk1 j (by omega)]
    exact hlow.1 j hj, by have := hlow.2; omega⟩
  have ho4 : OwnF G3 v' 9 1 ((acc ++ [strOfNums tx]).map .string) F' := by rw [List.map_append]; exact ho3
  rcases hst with ⟨_, hc, _, f, hf, hrec⟩ | ⟨hne, _⟩
  · have hs := hstep f hf hrec
    by_cases he : e' = 0
    · subst he
      rw [if_neg (by simp)] at hs
      obtain ⟨f', hff, hrec'⟩ := hs
      have hshort : l'.length < l.length := by
        rcases hsho with h | h
        · exact h.2
        · exact absurd rfl h.1
      exact ⟨l'.length + 1, by omega, l', 0, acc ++ [strOfNums tx], v', F', by (first | (simp [put_at, put_none, fr0_at, h9]; done) | rfl), by (first | (simp [put_at, put_none, fr0_at]; done) | rfl), by (first | (simp [put_at, put_none, fr0_at, h0]; done) | rfl), by (first | (simp [put_at, put_none, fr0_at, h5]; done) | rfl), hg3, ho4, fun j hj => by have := hn3 j hj; omega, hlow3, hrb, .inl ⟨rfl, rfl, by simp; omega, f', by omega, hrec'⟩⟩
    · rw [if_pos he] at hs
      have hsame : l' = l := by
        rcases hsho with h | h
        · exact absurd h.1 he
        · exact h.2
      subst hsame
      exact ⟨0, by omega, l', e', acc ++ [strOfNums tx], v', F', by (first | (simp [put_at, put_none, fr0_at, h9]; done) | rfl), by (first | (simp [put_at, put_none, fr0_at]; done) | rfl), by (first | (simp [put_at, put_none, fr0_at, h0]; done) | rfl), by (first | (simp [put_at, put_none, fr0_at, h5]; done) | rfl), hg3, ho4, fun j hj => by have := hn3 j hj; omega, hlow3, hrb, .inr ⟨he, hs, rfl⟩⟩
  · exact absurd rfl hne
end

section
open Go Go.RowKit
set_option linter.unusedSimpArgs false
set_option linter.unusedVariables false
set_option maxRecDepth 100000
set_option maxHeartbeats 4000000

theorem rdCount_oneJ {most : Int} {n : Nat} {l l' : List Int} (hb : By l) (h : rdCount most l = (n, l', 0)) : l = numB n ++ l' ∧ (n : Int) ≤ max most 0 := by
  unfold rdCount at h
  split at h
  · rename_i e; simp only [Prod.mk.injEq] at h; exact absurd h.2.2 e
  split at h
  · simp at h
  · rename_i e
    rw [h] at e
    exact ⟨rdNum_one hb h, by simp only at e; omega⟩
theorem rdText_oneJ {most : Int} {t l l' : List Int} (hb : By l) (h : rdText most l = (t, l', 0)) : l = numB t.length ++ t ++ l' ∧ By t ∧ (t.length : Int) ≤ max most 0 := by
  unfold rdText at h
  split at h
  · rename_i e; simp only [Prod.mk.injEq] at h; exact absurd h.2.2 e
  split at h
  · simp at h
  · rename_i e1 e2
    simp only [Prod.mk.injEq, and_true] at h
    obtain ⟨h3, h4⟩ := h
    have e : rdCount most l = ((rdCount most l).1, (rdCount most l).2.1, 0) := by
      have : (rdCount most l).2.2 = 0 := by simpa using e1
      rw [← this]
    obtain ⟨h5, h6⟩ := rdCount_oneJ hb e
    have hby := (rdCount_by (most := most) hb).1
    generalize (rdCount most l).1 = n at *
    generalize (rdCount most l).2.1 = r at *
    have hl : t.length = n := by rw [← h3, List.length_take]; omega
    refine ⟨?_, ?_, by rw [hl]; exact h6⟩
    · rw [hl, h5, List.append_assoc, ← h3, ← h4, List.take_append_drop]
    · rw [← h3]; exact fun x hx => hby x (List.mem_of_mem_take hx)
theorem recs_one : ∀ (f : Nat) (l : List Int) (acc rs : List ByteArray), By l → recsR f l acc = some rs → ∃ ps, rs = acc ++ ps ∧ l = textsB ps ∧ ∀ s ∈ ps, s.size ≤ 60000
  | 0, l, acc, rs, hb, h => by
    unfold recsR at h
    split at h
    · rename_i e
      cases h
      exact ⟨[], by simp, by rw [e]; simp [textsB], by simp⟩
    · cases h
  | f + 1, l, acc, rs, hb, h => by
    unfold recsR at h
    split at h
    · rename_i e
      cases h
      exact ⟨[], by simp, by rw [e]; simp [textsB], by simp⟩
    · split at h
      · cases h
      · rename_i e1 e2
        obtain ⟨t, l', e', hr⟩ : ∃ t l' e', rdText 60000 l = (t, l', e') := ⟨_, _, _, rfl⟩
        rw [hr] at h e2
        simp only [ne_eq, Classical.not_not] at e2 h
        subst e2
        obtain ⟨h1, h2, h3⟩ := rdText_oneJ hb hr
        have hb' : By l' := fun x hx => hb x (by rw [h1]; simp [hx])
        obtain ⟨ps, rfl, h5, h6⟩ := recs_one f l' _ rs hb' h
        have hsz : (strOfNums t).size = t.length := sn_size t
        have hts : textB (strOfNums t) = numB t.length ++ t := by
          unfold textB
          rw [hsz, nums_of t h2]
        refine ⟨strOfNums t :: ps, by simp, ?_, fun s hs => ?_⟩
        · have e : textsB (strOfNums t :: ps) = textB (strOfNums t) ++ textsB ps := by simp [textsB]
          rw [e, hts, ← h5]
          exact h1
        · rcases List.mem_cons.1 hs with rfl | hs
          · rw [hsz]; omega
          · exact h6 s hs
/-- What is opened has just the bytes of its records. -/
theorem open_size {D : DM} {J : JM} {e : Int} (hrows : ∀ r ∈ D.late, r.size = 256) (h3 : D.firm.length ≤ 1024) (h : openJ D = (some J, e)) : e = 0 ∧ J.D = D ∧ J.size = (textsB J.recs).length ∧ J.area ≤ 1 ∧ J.size ≤ (D.firm.length - 1) / 2 * 256 ∧
    (catK D.late (1 + J.area * ((D.firm.length - 1) / 2)) ((D.firm.length - 1) / 2)).take J.size = textsB J.recs ∧ 3 ≤ D.firm.length ∧ ∀ s ∈ J.recs, s.size ≤ 60000 := by
  unfold openJ at h
  split at h
  · cases h
  rename_i h0
  split at h
  · cases h
    exact ⟨rfl, rfl, by simp [textsB], by simp, by simp, by simp [textsB], by omega, by simp⟩
  split at h
  · cases h
  rename_i e1 e2
  split at h
  · cases h
  · rename_i rs hrs
    cases h
    have hm : isMark (firstL D) = true ∧ ¬ (D.firm.length - 1) / 2 * 256 < mSize (firstL D) := by
      constructor
      · cases hq : isMark (firstL D) with
        | true => rfl
        | false => exact absurd (.inl hq) e2
      · exact fun hq => e2 (.inr hq)
    have ha : mArea (firstL D) < 2 := by
      have := hm.1
      unfold isMark at this
      simp only [Bool.and_eq_true, decide_eq_true_eq] at this
      exact this.1
    obtain ⟨ps, hps, hl, hsm⟩ := recs_one _ _ _ _ (JM.bytes_by _) hrs
    rw [List.nil_append] at hps
    subst hps
    have hll : D.late.length = D.firm.length := late_len _ _
    have hbd : (JM.bytes ⟨D, [], mArea (firstL D), mSize (firstL D)⟩) = (catK D.late (1 + mArea (firstL D) * ((D.firm.length - 1) / 2)) ((D.firm.length - 1) / 2)).take (mSize (firstL D)) := rfl
    have hlen : (JM.bytes ⟨D, [], mArea (firstL D), mSize (firstL D)⟩).length = mSize (firstL D) := by
      rw [hbd, List.length_take, catK_len hrows]
      · omega
      · rcases Nat.le_one_iff_eq_zero_or_eq_one.1 (show mArea (firstL D) ≤ 1 by omega) with e | e <;> rw [e] <;> omega
    exact ⟨rfl, rfl, by show mSize (firstL D) = _; rw [← hl, hlen], by show mArea (firstL D) ≤ 1; omega, by show mSize (firstL D) ≤ _; omega, by rw [← hl, hbd], by omega, hsm⟩
end

section
open Go Go.RowKit
set_option linter.unusedSimpArgs false
set_option linter.unusedVariables false
set_option maxRecDepth 100000
set_option maxHeartbeats 4000000

attribute [local irreducible] textsB
attribute [local simp] wb_bool wb_undef XL_nil XL_cons XLc_val XLc_call step1_eq stepW_t stepW_f stepC_n stepC_s stepX_s stepX_n stepN_s calleeX oneV xop_eq xopR_s xopR_n wantedA_eq wantedG_n wantedG_s plain1_int plain1_bool plain1_string bits_i64 bits_u64 bits_u32 bits_u16 bits_u8 xeqA xagg xcmp xarr allK_iv num_iv calleeOf xread xeff xbin xint xnil xun xstr xload xconv xpart xfield xfieldAddr xindexAddr xindex bnd asInt? xslice xlen xmin xmax xbuild xfill xappend xapp2 xappstr xappmk xcap xcopy xcells eval_tmp eval_const put_at put_none fr0_at cells_agg cells_int cells_bool cells_string cells_ptr cells_slice notTuple tab iv_all hget_app hget_app0 hget_cons0 hget_cons set_app set_app0 setR setR_one QL_nil QL_cons QLc_val stepQ_t stepQ_f stepQC_n stepQC_s stepQX_s SL_nil SL_cons SLc_val stepS_t stepS_f ltT ltF leT leF eqT eqF ltTn ltFn leTn leFn eqTn eqFn beqT beqF bneT bneF wi64 wu64 wu32 wu16 wu8 tmodP tdivP hgetL hgetNe hgetEq setL nums_def nums_len Nat.succ_le_of_lt List.getElem?_cons_zero List.getElem?_cons_succ Option.getD_some Int.toNat_add Int.toNat_mul agB agI agS agP agL agA okB okI okS okP okSl okA
theorem room_nil {nro : Nat} {γ : Nat → Option Nat} {H : AH} : AC Tryd.prog nro γ 16 #[.pointer none] H (fun v' H' => v' = .int .i64 0 ∧ H' = H) := by
  refine ac_of_aw Tryd.func16 rfl Tryd.ntmps16 Tryd.results16 (by simp) ?_
  refine aw_seq ?_
  (refine aw_ops (by kernel_rfl) (fun K hK => ?_); simp (disch := first | omega | (simp only [List.length_set, List.length_append, List.length_cons, List.length_nil, iv_length, zl_length]; try omega; done)) [-getElem?_pos, -getElem?_neg]; refine hK _ _ ?_; clear hK K)
  refine aw_seq ?_
  refine aw_seq ?_
  (refine aw_ops (by kernel_rfl) (fun K hK => ?_); simp (disch := first | omega | (simp only [List.length_set, List.length_append, List.length_cons, List.length_nil, iv_length, zl_length]; try omega; done)) [-getElem?_pos, -getElem?_neg]; refine hK _ _ ?_; clear hK K)
  refine aw_t (by (first | (simp [eval_tmp, put_at]; done) | (simp [eval_tmp, put_at]; omega))) (by kernel_rfl) ?_
  refine aw_seq ?_
  (refine aw_ops (by kernel_rfl) (fun K hK => ?_); simp (disch := first | omega | (simp only [List.length_set, List.length_append, List.length_cons, List.length_nil, iv_length, zl_length]; try omega; done)) [-getElem?_pos, -getElem?_neg]; refine hK _ _ ?_; clear hK K)
  (refine aw_ret ?_; simp (disch := first | omega | (simp only [List.length_set, List.length_append, List.length_cons, List.length_nil, iv_length, zl_length]; try omega; done)) [-getElem?_pos, -getElem?_neg, thenQ_ret, scopeQ_ret, inBlockQ_ret, RQ, resL, resV])
theorem append_nil' {nro : Nat} {γ : Nat → Option Nat} {H : AH} {v : Value} (hn : notTuple v = true) : AC Tryd.prog nro γ 17 #[.pointer none, v] H (fun v' H' => v' = .int .i64 7 ∧ H' = H) := by
  refine ac_of_aw Tryd.func17 rfl Tryd.ntmps17 Tryd.results17 (by simp) ?_
  refine aw_seq ?_
  (refine aw_ops (by kernel_rfl) (fun K hK => ?_); simp (disch := first | omega | (simp only [List.length_set, List.length_append, List.length_cons, List.length_nil, iv_length, zl_length]; try omega; done)) [-getElem?_pos, -getElem?_neg]; refine hK _ _ ?_; clear hK K)
  refine aw_seq ?_
  refine aw_seq ?_
  (refine aw_ops (by kernel_rfl) (fun K hK => ?_); simp (disch := first | omega | (simp only [List.length_set, List.length_append, List.length_cons, List.length_nil, iv_length, zl_length]; try omega; done)) [-getElem?_pos, -getElem?_neg]; refine hK _ _ ?_; clear hK K)
  refine aw_t (by (first | (simp [eval_tmp, put_at]; done) | (simp [eval_tmp, put_at]; omega))) (by kernel_rfl) ?_
  refine aw_seq ?_
  (refine aw_ops (by kernel_rfl) (fun K hK => ?_); simp (disch := first | omega | (simp only [List.length_set, List.length_append, List.length_cons, List.length_nil, iv_length, zl_length]; try omega; done)) [-getElem?_pos, -getElem?_neg]; refine hK _ _ ?_; clear hK K)
  (refine aw_ret ?_; simp (disch := first | omega | (simp only [List.length_set, List.length_append, List.length_cons, List.length_nil, iv_length, zl_length]; try omega; done)) [-getElem?_pos, -getElem?_neg, thenQ_ret, scopeQ_ret, inBlockQ_ret, RQ, resL, resV])
theorem snap_nil {nro : Nat} {γ : Nat → Option Nat} {H : AH} {s : ByteArray} : AC Tryd.prog nro γ 18 #[.pointer none, .string s] H (fun v' H' => v' = .int .i64 7 ∧ H' = H) := by
  refine ac_of_aw Tryd.func18 rfl Tryd.ntmps18 Tryd.results18 (by simp) ?_
  refine aw_seq ?_
  (refine aw_ops (by kernel_rfl) (fun K hK => ?_); simp (disch := first | omega | (simp only [List.length_set, List.length_append, List.length_cons, List.length_nil, iv_length, zl_length]; try omega; done)) [-getElem?_pos, -getElem?_neg]; refine hK _ _ ?_; clear hK K)
  refine aw_seq ?_
  refine aw_seq ?_
  (refine aw_ops (by kernel_rfl) (fun K hK => ?_); simp (disch := first | omega | (simp only [List.length_set, List.length_append, List.length_cons, List.length_nil, iv_length, zl_length]; try omega; done)) [-getElem?_pos, -getElem?_neg]; refine hK _ _ ?_; clear hK K)
  refine aw_t (by (first | (simp [eval_tmp, put_at]; done) | (simp [eval_tmp, put_at]; omega))) (by kernel_rfl) ?_
  refine aw_seq ?_
  (refine aw_ops (by kernel_rfl) (fun K hK => ?_); simp (disch := first | omega | (simp only [List.length_set, List.length_append, List.length_cons, List.length_nil, iv_length, zl_length]; try omega; done)) [-getElem?_pos, -getElem?_neg]; refine hK _ _ ?_; clear hK K)
  (refine aw_ret ?_; simp (disch := first | omega | (simp only [List.length_set, List.length_append, List.length_cons, List.length_nil, iv_length, zl_length]; try omega; done)) [-getElem?_pos, -getElem?_neg, thenQ_ret, scopeQ_ret, inBlockQ_ret, RQ, resL, resV])
theorem RJ.low {H H' : AH} {q d : Nat} {rv : Value} {FR : List Nat} {J : JM} (h : RJ H q d rv FR J) (hl : ∀ j ∈ q :: FR, hget H' j = hget H j) : RJ H' q d rv FR J :=
  ⟨(hl q (by simp)).trans h.hq, h.hr.low (fun j hj => hl j (by simp [hj])), h.qr⟩
theorem rroom_rc {γ : Nat → Option Nat} {H : AH} {q d : Nat} {rv : Value} {FR F : List Nat} {J : JM} {D : DM} (h : RJ H q d rv FR J) (hd : Rk H d F D) (hps : ∀ s ∈ J.recs, s.size ≤ 2000) (hlen : J.recs.length ≤ 2000) (htl : (textsB J.recs).length ≤ 1000000) :
    AC Tryd.prog H.length γ 20 #[.pointer (some ⟨q, 0, none⟩)] H (fun v' _ => v' = .int .i64 (((D.firm.length - 1) / 2 * 256 : Nat) - ((textsB J.recs).length : Nat) : Int)) := by
  have hq := h.hq
  have hsh := own_shape h.hr
  have hbd := hd.1.most
  have hstr : ∀ L L', StrV ((H ++ L) ++ L') rv J.recs := fun L L' => by
    have h2 := (h.hr.low (H' := (H ++ L) ++ L') (fun j hj => by have := h.hr.lt j hj; rw [hget_left (by simp; omega), hget_left this])).g.part
    exact h2.str
  have hhf : ∀ L, AC Tryd.prog (H ++ L).length γ 12 #[.pointer (some ⟨d, 0, none⟩)] (H ++ L) (fun v' _ => v' = .int .i64 (((D.firm.length - 1) / 2 : Nat) : Int)) := fun L => rhalf_rc (hd.low (fun j hj => hget_left (hd.lt j hj)))
  have hby := fun L => rbytes_rc (γ := γ) (H := H ++ L) (hstr L) hps hlen
  have hsz := sn_size (textsB J.recs)
  obtain ⟨Hf, hHf⟩ : ∃ Hf, Hf = (D.firm.length - 1) / 2 := ⟨_, rfl⟩
  rw [← hHf] at hhf ⊢
  have hHb : Hf ≤ 512 := by omega
  generalize textsB J.recs = TB at *
  refine ac_of_aw Tryd.func20 rfl Tryd.ntmps20 Tryd.results20 (by simp) ?_
  refine aw_seq ?_
  (refine aw_ops (by kernel_rfl) (fun K hK => ?_); simp (disch := first | omega | (simp only [List.length_set, List.length_append, List.length_cons, List.length_nil, iv_length, zl_length]; try omega; done)) [-getElem?_pos, -getElem?_neg]; refine hK _ _ ?_; clear hK K)
  refine aw_seq ?_
  (refine aw_plan [] [] [0, 1, 2, 3, 4, 5, 6, 7, 8, 9, 10, 11, 12, 13] 14 0 (by kernel_rfl) (by kernel_rfl) (by kernel_rfl) (fun K hK => ?_)); simp only [sel, List.getElem?_cons_succ, List.getElem?_cons_zero, List.drop_succ_cons, List.drop_zero]; simp (disch := first | omega | (simp only [List.length_set, List.length_append, List.length_cons, List.length_nil, iv_length, zl_length]; try omega; done)) [-getElem?_pos, -getElem?_neg, hq, -notTuple, nt_ptrJ, nt_intJ, hsh.1, PL_nil, PL_cons, PLc_val, PLc_new, stepP_t, stepP_f, stepPC_n, stepPC_s, stepPX_s, stepPX_n, stepPA_t, stepPA_c, stepPA_l, stepPN_s, allocOp, reloc_sl, reloc_ptr, List.map_cons, List.map_nil, List.nil_append, List.append_assoc, List.cons_append, Nat.add_assoc]
  refine PLc_call (v := .int .i64 (Hf : Nat)) (by kernel_rfl) (fun L hL => hhf L) (by simp [pv_iv, pv_int, pv_bool, pv_string, pv_tup2, pv_tup3, iv_plain, p2_int, p2_bool, p2_string]) ?_
  simp (disch := first | omega | (simp only [List.length_set, List.length_append, List.length_cons, List.length_nil, iv_length, zl_length]; try omega; done)) [-getElem?_pos, -getElem?_neg, hq, -notTuple, nt_ptrJ, nt_intJ, hsh.1, PL_nil, PL_cons, PLc_val, PLc_new, stepP_t, stepP_f, stepPC_n, stepPC_s, stepPX_s, stepPX_n, stepPA_t, stepPA_c, stepPA_l, stepPN_s, allocOp, reloc_sl, reloc_ptr, List.map_cons, List.map_nil, List.nil_append, List.append_assoc, List.cons_append, Nat.add_assoc]
  refine PLc_call (v := .string (strOfNums TB)) (by kernel_rfl) (fun L hL => hby L) (by simp [pv_iv, pv_int, pv_bool, pv_string, pv_tup2, pv_tup3, iv_plain, p2_int, p2_bool, p2_string]) ?_
  simp (disch := first | omega | (simp only [List.length_set, List.length_append, List.length_cons, List.length_nil, iv_length, zl_length]; try omega; done)) [-getElem?_pos, -getElem?_neg, hsz, PL_nil, PL_cons, PLc_val, PLc_new, stepP_t, stepP_f, stepPC_n, stepPC_s, stepPX_s, stepPX_n, stepPA_t, stepPA_c, stepPA_l, stepPN_s, allocOp, reloc_sl, reloc_ptr, List.map_cons, List.map_nil, List.nil_append, List.append_assoc, List.cons_append, Nat.add_assoc]
  refine hK _ _ ?_; clear hK K
  (refine aw_ret ?_; simp (disch := first | omega | (simp only [List.length_set, List.length_append, List.length_cons, List.length_nil, iv_length, zl_length]; try omega; done)) [-getElem?_pos, -getElem?_neg, thenQ_ret, scopeQ_ret, inBlockQ_ret, RQ, resL, resV])
/-- A block laid on both disks, if there is one. -/
theorem lay_ac {nro : Nat} {γ : Nat → Option Nat} {H : AH} (hnl : nro ≤ H.length) {p q : Nat} {FD FR : List Nat} {D : DM} (hd : Dk H p FD D) (hr : Rk H q FR D) (hw : D.Well) (hu : D.uns = []) (hdis : ∀ j ∈ FD, j ∉ FR) (hn1 : ∀ j ∈ FD, nro ≤ j) (hn2 : ∀ j ∈ FR, nro ≤ j) (at_ : Int) (l : List Int) (hb : By l) (hl : l.length ≤ 256) :
    AC Tryd.prog nro γ 11 #[.pointer (some ⟨p, 0, none⟩), .pointer (some ⟨q, 0, none⟩), .int .i64 at_, .string (strOfNums l)] H
      (fun v' H' => ∃ FD' FR' D', Dk H' p FD' D' ∧ Rk H' q FR' D' ∧ D'.Well ∧ D'.uns = [] ∧ D'.firm.length = D.firm.length ∧ (∀ j ∈ FD', j ∉ FR') ∧ H.length ≤ H'.length ∧ (∀ j, j < H.length → j ∉ FD → j ∉ FR → hget H' j = hget H j) ∧ (∀ j ∈ FD', j ∈ FD ∨ H.length ≤ j) ∧ (∀ j ∈ FR', j ∈ FR ∨ H.length ≤ j)) := by
  refine ac_of_aw Tryd.func11 rfl Tryd.ntmps11 Tryd.results11 (by simp) ?_
  refine aw_seq ?_
  refine aw_cut (fun α G => α 0 = .pointer (some ⟨p, 0, none⟩) ∧ α 1 = .pointer (some ⟨q, 0, none⟩) ∧ α 2 = .int .i64 at_ ∧ α 3 = .string (strOfNums (fillB l)) ∧ H = G) ?_ ?_
  · refine aw_block ?_
    refine aw_loop (fun c α G => ∃ i : Nat, l.length + i + c = 256 ∧ α 0 = .pointer (some ⟨p, 0, none⟩) ∧ α 1 = .pointer (some ⟨q, 0, none⟩) ∧ α 2 = .int .i64 at_ ∧ α 3 = .string (strOfNums (l ++ zl i)) ∧ H = G) (256 - l.length) ?_ ?_
    · exact ⟨0, by omega, by (first | (simp [put_at, put_none, fr0_at]; done) | rfl), by (first | (simp [put_at, put_none, fr0_at]; done) | rfl), by (first | (simp [put_at, put_none, fr0_at]; done) | rfl), by simp [zl, fr0_at], rfl⟩
    rintro c α G ⟨i, hic, h0, h1, h2, h3, rfl⟩
    have hsz : (strOfNums (l ++ zl i)).size = l.length + i := by rw [sn_size, List.length_append, zl_length]
    refine aw_seq ?_
    refine aw_seq ?_
    by_cases hc : l.length + i < 256
    · have hone : strOfNums (l ++ zl i) ++ (⟨#[0]⟩ : ByteArray) = strOfNums (l ++ zl (i + 1)) := by
        rw [show (⟨#[0]⟩ : ByteArray) = strOfNums [0] from rfl, sn_app, List.append_assoc]
        congr 2
        unfold zl
        rw [List.replicate_succ']
      have hsz1 : (⟨#[0]⟩ : ByteArray).size = 1 := rfl
      (refine aw_ops (by kernel_rfl) (fun K hK => ?_); simp (disch := first | omega | (simp only [List.length_set, List.length_append, List.length_cons, List.length_nil, iv_length, zl_length]; try omega; done)) [-getElem?_pos, -getElem?_neg, h3, hsz, hc]; refine hK _ _ ?_; clear hK K)
      refine aw_t (by (first | (simp [eval_tmp, put_at]; done) | (simp [eval_tmp, put_at]; omega))) (by kernel_rfl) ?_
      refine aw_skip ?_
      refine aw_block ?_
      (refine aw_ops (by kernel_rfl) (fun K hK => ?_); simp (disch := first | omega | (simp only [List.length_set, List.length_append, List.length_cons, List.length_nil, iv_length, zl_length]; try omega; done)) [-getElem?_pos, -getElem?_neg, h3, hsz, hsz1, hone]; refine hK _ _ ?_; clear hK K)
      exact ⟨c - 1, by omega, i + 1, by omega, by (first | (simp [put_at, put_none, fr0_at, h0]; done) | rfl), by (first | (simp [put_at, put_none, fr0_at, h1]; done) | rfl), by (first | (simp [put_at, put_none, fr0_at, h2]; done) | rfl), by (first | (simp [put_at, put_none, fr0_at]; done) | rfl), rfl⟩
    · have hfb : fillB l = l ++ zl i := by
        unfold fillB
        rw [show 256 - l.length = i by omega]
      (refine aw_ops (by kernel_rfl) (fun K hK => ?_); simp (disch := first | omega | (simp only [List.length_set, List.length_append, List.length_cons, List.length_nil, iv_length, zl_length]; try omega; done)) [-getElem?_pos, -getElem?_neg, h3, hsz, hc]; refine hK _ _ ?_; clear hK K)
      refine aw_f (by (first | (simp [eval_tmp, put_at]; done) | (simp [eval_tmp, put_at]; omega))) (by kernel_rfl) ?_
      refine aw_exit ?_
      exact ⟨by (first | (simp [put_at, put_none, fr0_at, h0]; done) | rfl), by (first | (simp [put_at, put_none, fr0_at, h1]; done) | rfl), by (first | (simp [put_at, put_none, fr0_at, h2]; done) | rfl), by (first | (simp [put_at, put_none, fr0_at, h3, hfb]; done) | rfl), rfl⟩
  rintro α G ⟨h0, h1, h2, h3, rfl⟩
  have hfl := fillB_len hl
  generalize fillB l = fb at *
  have hhas := rhas_ac (nro := nro) (γ := γ) hr at_
  refine aw_seq ?_
  refine aw_seq ?_
  refine aw_ops (by kernel_rfl) (fun K hK => ?_)
  simp (disch := first | omega | (simp only [List.length_set, List.length_append, List.length_cons, List.length_nil, iv_length, zl_length]; try omega; done)) [-getElem?_pos, -getElem?_neg, h1, h2]
  refine ⟨by kernel_rfl, AC.mono hhas ?_⟩
  rintro _ G ⟨rfl, e⟩
  rw [e]
  clear e G
  cases hc : hasB D.firm.length at_ with
  | false =>
    simp (disch := first | omega | (simp only [List.length_set, List.length_append, List.length_cons, List.length_nil, iv_length, zl_length]; try omega; done)) [-getElem?_pos, -getElem?_neg, hc]
    refine hK _ _ ?_; clear hK K
    refine aw_t (by (first | (simp [eval_tmp, put_at]; done) | (simp [eval_tmp, put_at]; omega))) (by kernel_rfl) ?_
    refine aw_ret ?_
    simp only [thenQ_ret, scopeQ_ret, inBlockQ_ret]
    exact ⟨_, _, rfl, rfl, FD, FR, D, hd, hr, hw, hu, rfl, hdis, Nat.le_refl _, fun _ _ _ _ => rfl, fun j hj => .inl hj, fun j hj => .inl hj⟩
  | true =>
    have hok : okW D at_ (strOfNums fb) = true := by
      unfold okW
      rw [hc, sn_size, hfl]
      rfl
    obtain ⟨e1, e2, e3⟩ := write_well hw hok
    obtain ⟨s1, s2, s3⟩ := sync_well e3
    have hl1 : (D.put at_ (strOfNums fb)).late.length = D.firm.length := by
      unfold DM.late
      rw [late_len]
      rfl
    have w1 := dwrite_ac (nro := nro) (γ := γ) hd hn1 (by rw [hu]; simp) at_ (strOfNums fb)
    rw [e1, e2] at w1
    simp (disch := first | omega | (simp only [List.length_set, List.length_append, List.length_cons, List.length_nil, iv_length, zl_length]; try omega; done)) [-getElem?_pos, -getElem?_neg, hc]
    refine hK _ _ ?_; clear hK K
    refine aw_f (by (first | (simp [eval_tmp, put_at]; done) | (simp [eval_tmp, put_at]; omega))) (by kernel_rfl) ?_
    refine aw_skip ?_
    refine aw_seq ?_
    refine aw_ops (by kernel_rfl) (fun K hK => ?_)
    simp (disch := first | omega | (simp only [List.length_set, List.length_append, List.length_cons, List.length_nil, iv_length, zl_length]; try omega; done)) [-getElem?_pos, -getElem?_neg, h0, h2, h3]
    refine ⟨by kernel_rfl, AC.mono w1 ?_⟩
    rintro _ G1 ⟨rfl, F1, d1, f1⟩
    try simp (disch := first | omega | (simp only [List.length_set, List.length_append, List.length_cons, List.length_nil, iv_length, zl_length]; try omega; done)) [-getElem?_pos, -getElem?_neg]
    refine hK _ _ ?_; clear hK K
    generalize D.put at_ (strOfNums fb) = Dp at *
    have hn1' : ∀ j ∈ F1, nro ≤ j := fun j hj => by
      rcases f1.new j hj with h | h
      · exact hn1 j h
      · omega
    have y1 := sync_ac (nro := nro) (γ := γ) d1 hn1' (by have := f1.len; omega)
    rw [s1, s2] at y1
    refine aw_seq ?_
    refine aw_ops (by kernel_rfl) (fun K hK => ?_)
    simp (disch := first | omega | (simp only [List.length_set, List.length_append, List.length_cons, List.length_nil, iv_length, zl_length]; try omega; done)) [-getElem?_pos, -getElem?_neg, h0]
    refine ⟨by kernel_rfl, AC.mono y1 ?_⟩
    rintro _ G2 ⟨rfl, F2, d2, f2⟩
    try simp (disch := first | omega | (simp only [List.length_set, List.length_append, List.length_cons, List.length_nil, iv_length, zl_length]; try omega; done)) [-getElem?_pos, -getElem?_neg]
    refine hK _ _ ?_; clear hK K
    have hr2 := hr.low (H' := G2) (fun j hj => by
      have hjl := hr.lt j hj
      have hjd : j ∉ FD := fun h => hdis j h hj
      rw [f2.out j (by have := f1.len; omega) (fun h => by
        rcases f1.new j h with h | h
        · exact hjd h
        · omega), f1.out j hjl hjd])
    have w2 := rwrite_ac (nro := nro) (γ := γ) hr2 hn2 (by have := f1.len; have := f2.len; omega) (by rw [hu]; simp) at_ (strOfNums fb)
    rw [e1, e2] at w2
    refine aw_seq ?_
    refine aw_ops (by kernel_rfl) (fun K hK => ?_)
    simp (disch := first | omega | (simp only [List.length_set, List.length_append, List.length_cons, List.length_nil, iv_length, zl_length]; try omega; done)) [-getElem?_pos, -getElem?_neg, h1, h2, h3]
    refine ⟨by kernel_rfl, AC.mono w2 ?_⟩
    rintro _ G3 ⟨rfl, F3, d3, f3⟩
    try simp (disch := first | omega | (simp only [List.length_set, List.length_append, List.length_cons, List.length_nil, iv_length, zl_length]; try omega; done)) [-getElem?_pos, -getElem?_neg]
    refine hK _ _ ?_; clear hK K
    have hn3 : ∀ j ∈ F3, nro ≤ j := fun j hj => by
      rcases f3.new j hj with h | h
      · exact hn2 j h
      · have := f1.len; have := f2.len; omega
    have y2 := rsync_ac (nro := nro) (γ := γ) d3 hn3
    rw [s1, s2] at y2
    refine aw_ops (by kernel_rfl) (fun K hK => ?_)
    simp (disch := first | omega | (simp only [List.length_set, List.length_append, List.length_cons, List.length_nil, iv_length, zl_length]; try omega; done)) [-getElem?_pos, -getElem?_neg, h1]
    refine ⟨by kernel_rfl, AC.mono y2 ?_⟩
    rintro _ G4 ⟨rfl, F4, d4, f4⟩
    try simp (disch := first | omega | (simp only [List.length_set, List.length_append, List.length_cons, List.length_nil, iv_length, zl_length]; try omega; done)) [-getElem?_pos, -getElem?_neg]
    refine hK _ _ ?_; clear hK K
    have l1 := f1.len
    have l2 := f2.len
    have l3 := f3.len
    have l4 := f4.len
    have hF2 : ∀ j ∈ F2, j ∈ FD ∨ H.length ≤ j := fun j hj => by
      rcases f2.new j hj with h | h
      · exact f1.new j h
      · exact .inr (by omega)
    have hF2b : ∀ j ∈ F2, j < G2.length ∧ j ∉ FR := fun j hj => ⟨d2.lt j hj, fun h => by
      rcases hF2 j hj with h' | h'
      · exact hdis j h' h
      · have := hr.lt j h; omega⟩
    have hF4 : ∀ j ∈ F4, j ∈ FR ∨ G2.length ≤ j := fun j hj => by
      rcases f4.new j hj with h | h
      · exact f3.new j h
      · exact .inr (by omega)
    have hkeep : ∀ j, j < G2.length → j ∉ FR → hget G4 j = hget G2 j := fun j hj hn => by
      rw [f4.out j (by omega) (fun h => by
        rcases f3.new j h with h | h
        · exact hn h
        · omega), f3.out j hj hn]
    refine ⟨_, _, rfl, rfl, F2, F4, _, d2.low (fun j hj => hkeep j (hF2b j hj).1 (hF2b j hj).2), d4, s3, rfl, hl1, fun j hj hm => ?_, by omega, fun j hj ha hb => ?_, hF2, fun j hj => ?_⟩
    · rcases hF4 j hm with h | h
      · exact (hF2b j hj).2 h
      · have := (hF2b j hj).1; omega
    · rw [hkeep j (by omega) hb, f2.out j (by omega) (fun h => by
        rcases f1.new j h with h | h
        · exact ha h
        · omega), f1.out j hj ha]
    · rcases hF4 j hj with h | h
      · exact .inl h
      · exact .inr (by omega)
end
end Go.Proofs.YtgamobjfeaeddaaDoor
