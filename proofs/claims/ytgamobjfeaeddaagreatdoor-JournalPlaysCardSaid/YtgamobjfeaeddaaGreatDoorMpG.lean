/-
  The document's digest of a text: the text with its end, its blocks, its bytes; and that it is the program's.
  The reference's text and list of numbers.
  The reference's filled, Half, Bytes, Mark.
  The reference's reader.
  The reference's Open.
  What was read is those bytes; Room, lay.
  No journal; the reference's Room; lay.
  JournalOpens.
  Snap.
  What a crash leaves of a disk on which pages and a mark were being written: the records that were there, or those that were to be. Of lists of blocks alone.
  A commit of a journal whose disk may die: what is there then, for Append and Snap.
  The journal over a disk that may die: what each act keeps. Of the model alone.
  The reference's commit.
  The reference's long; small.
  The reference's Snap.
-/
import Derived.Test.YtgamobjfeaeddaaGreatDoorMpF
import Derived.Test.YtgamobjfeaeddaaGreatDoorMpC
import Derived.Test.YtgamobjfeaeddaaGreatDoorMpD
import Derived.Test.YtgamobjfeaeddaaGreatDoorMpB
namespace Go.Proofs.YtgamobjfeaeddaaGreatDoor
open Go Go.RowKit
set_option linter.unusedSimpArgs false
set_option linter.unusedVariables false
set_option maxRecDepth 100000
set_option maxHeartbeats 4000000
section
attribute [local simp] wb_bool wb_undef XL_nil XL_cons XLc_val XLc_call step1_eq stepW_t stepW_f stepC_n stepC_s stepX_s stepX_n stepN_s calleeX oneV xop_eq xopR_s xopR_n wantedA_eq wantedG_n wantedG_s plain1_int plain1_bool plain1_string bits_i64 bits_u64 bits_u32 bits_u16 bits_u8 xeqA xagg xcmp xarr allK_iv num_iv calleeOf xread xeff xbin xint xnil xun xstr xload xconv xpart xfield xfieldAddr xindexAddr xindex bnd asInt? xslice xlen xmin xmax xbuild xfill xappend xapp2 xappstr xappmk xcap xcopy xcells eval_tmp eval_const put_at put_none fr0_at cells_agg cells_int cells_bool cells_string cells_ptr cells_slice notTuple tab iv_all hget_app hget_app0 hget_cons0 hget_cons set_app set_app0 setR setR_one QL_nil QL_cons QLc_val stepQ_t stepQ_f stepQC_n stepQC_s stepQX_s SL_nil SL_cons SLc_val stepS_t stepS_f ltT ltF leT leF eqT eqF ltTn ltFn leTn leFn eqTn eqFn beqT beqF bneT bneF wi64 wu64 wu32 wu16 wu8 tmodP tdivP hgetL hgetNe hgetEq setL nums_def nums_len Nat.succ_le_of_lt List.getElem?_cons_zero List.getElem?_cons_succ Option.getD_some Int.toNat_add Int.toNat_mul agB agI agS agP agL agA okB okI okS okP okSl okA
theorem nums_app (a b : ByteArray) : nums (a ++ b) = nums a ++ nums b := by
  unfold nums
  rw [show (a ++ b).data.toList = a.data.toList ++ b.data.toList by simp [ByteArray.data_append]]
  rw [List.map_append]
/-- A number's eight bytes, the highest first. -/
def d8 (n : Nat) : Nat → List Int
  | 0 => zl 8
  | i + 1 => (d8 n i).set (7 - i) ((n / 256 ^ i % 256 : Nat) : Int)
theorem d8_len (n : Nat) : ∀ i, (d8 n i).length = 8
  | 0 => rfl
  | i + 1 => by simp [d8, d8_len n i]
theorem d8_succ (n i : Nat) : d8 n (i + 1) = (d8 n i).set (7 - i) ((n / 256 ^ i % 256 : Nat) : Int) := rfl
theorem d8_all (n : Nat) : d8 n 8 = [((n / 256 ^ 7 % 256 : Nat) : Int), ((n / 256 ^ 6 % 256 : Nat) : Int), ((n / 256 ^ 5 % 256 : Nat) : Int), ((n / 256 ^ 4 % 256 : Nat) : Int), ((n / 256 ^ 3 % 256 : Nat) : Int), ((n / 256 ^ 2 % 256 : Nat) : Int), ((n / 256 ^ 1 % 256 : Nat) : Int), ((n / 256 ^ 0 % 256 : Nat) : Int)] := rfl
theorem u8_nat (x : Int) (k : Nat) (h : x = (k : Int)) : IntKind.u8.wrap x = ((k % 256 : Nat) : Int) := by
  subst h
  simp only [IntKind.wrap, IntKind.bits, IntKind.signed]
  simp
theorem b4_nat (m : Nat) : b4 (m : Int) = [((m / 16777216 % 256 : Nat) : Int), ((m / 65536 % 256 : Nat) : Int), ((m / 256 % 256 : Nat) : Int), ((m % 256 : Nat) : Int)] := by
  unfold b4
  rw [u8_nat _ (m / 16777216) (by rw [Int.fdiv_eq_ediv_of_nonneg _ (by omega)]; omega), u8_nat _ (m / 65536) (by rw [Int.fdiv_eq_ediv_of_nonneg _ (by omega)]; omega), u8_nat _ (m / 256) (by rw [Int.fdiv_eq_ediv_of_nonneg _ (by omega)]; omega), u8_nat _ m rfl]
theorem len8_d8 (k : Nat) (h : k < 18446744073709551616) : len8 (k : Int) = d8 (k * 8 % 18446744073709551616) 8 := by
  unfold len8
  obtain ⟨n, hn⟩ : ∃ n, n = k * 8 % 18446744073709551616 := ⟨_, rfl⟩
  have e1 : IntKind.u64.wrap ((k : Int) * 8) = (n : Int) := by rw [wrapU64]; omega
  rw [e1, ← hn]
  have e2 : IntKind.u32.wrap ((n : Int).fdiv 4294967296) = ((n / 4294967296 : Nat) : Int) := by
    rw [Int.fdiv_eq_ediv_of_nonneg _ (by omega), wrapU32]; omega
  have e3 : IntKind.u32.wrap (n : Int) = ((n % 4294967296 : Nat) : Int) := by rw [wrapU32]; omega
  rw [e2, e3, b4_nat, b4_nat, d8_all]
  have q7 : n / 4294967296 / 16777216 % 256 = n / 256 ^ 7 % 256 := by omega
  have q6 : n / 4294967296 / 65536 % 256 = n / 256 ^ 6 % 256 := by omega
  have q5 : n / 4294967296 / 256 % 256 = n / 256 ^ 5 % 256 := by omega
  have q4 : n / 4294967296 % 256 = n / 256 ^ 4 % 256 := by omega
  have q3 : n % 4294967296 / 16777216 % 256 = n / 256 ^ 3 % 256 := by omega
  have q2 : n % 4294967296 / 65536 % 256 = n / 256 ^ 2 % 256 := by omega
  have q1 : n % 4294967296 / 256 % 256 = n / 256 ^ 1 % 256 := by omega
  have q0 : n % 4294967296 % 256 = n / 256 ^ 0 % 256 := by omega
  rw [q7, q6, q5, q4, q3, q2, q1, q0]
  rfl
theorem d8_by (n : Nat) : ∀ i, By (d8 n i)
  | 0 => fun x hx => by have := List.eq_of_mem_replicate hx; omega
  | i + 1 => by
    intro x hx
    rw [d8_succ] at hx
    rcases List.mem_or_eq_of_mem_set hx with h | h
    · exact d8_by n i x h
    · subst h; omega
theorem str_app (t : ByteArray) (l : List Int) (h : By l) : t ++ strOfNums l = strOfNums (nums t ++ l) := by
  rw [← of_nums' (t ++ strOfNums l), nums_app, nums_of l h]
/-- A text with its end. -/
def lenF (s : ByteArray) : List Int := nums s ++ padL (s.size : Int)
attribute [local irreducible] d8 zn len8
theorem lengthened_rc {H : AH} {γ : Nat → Option Nat} (s : ByteArray) (hs : s.size ≤ 1000000000000) : AC Tryz.prog H.length γ 80 #[.string s] H (fun v' _ => v' = .string (strOfNums (lenF s))) := by
  refine ac_of_aw Tryz.func80 rfl Tryz.ntmps80 Tryz.results80 (by simp) ?_
  refine aw_seq ?_
  (refine aw_ops (by kernel_rfl) (fun K hK => ?_); simp (disch := first | omega | (simp only [lnS]; try omega; done)) [-getElem?_pos, -getElem?_neg]; refine hK _ _ ?_; clear hK K)
  refine aw_seq ?_
  have h128 : (⟨#[128]⟩ : ByteArray).size = 1 := rfl
  have h1 : (⟨#[0]⟩ : ByteArray).size = 1 := rfl
  (refine aw_ops (by kernel_rfl) (fun K hK => ?_); simp (disch := first | omega | (simp only [lnS]; try omega; done)) [-getElem?_pos, -getElem?_neg, h128]; refine hK _ _ ?_; clear hK K)
  refine aw_seq ?_
  refine aw_block ?_
  have hz : zn (s.size : Int) ≤ 63 ∧ (s.size + 1 + zn (s.size : Int)) % 64 = 56 := by unfold zn; omega
  generalize hzn : zn (s.size : Int) = z at *
  refine aw_loop (fun q α H' => ∃ (i : Nat) (t : ByteArray), i + q = z ∧ nums t = nums s ++ (128 :: List.replicate i 0) ∧ t.size = s.size + 1 + i ∧ α 3 = .string t ∧ α 0 = .string s ∧ H' = H) z ?_ ?_
  · refine ⟨0, s ++ ⟨#[128]⟩, by omega, by rw [nums_app]; rfl, by simp [ByteArray.size_append, h128], by (first | (simp [put_at, put_none, fr0_at]; done) | rfl), by (first | (simp [put_at, put_none, fr0_at]; done) | rfl), rfl⟩
  rintro q α H' ⟨i, t, hi, ht, hts, h3, h0, rfl⟩
  refine aw_seq ?_
  refine aw_seq ?_
  have hm : ((t.size : Int) % 64 = 56) ↔ i = z := by omega
  (refine aw_ops (by kernel_rfl) (fun K hK => ?_); simp (disch := first | omega | (simp only [lnS]; try omega; done)) [-getElem?_pos, -getElem?_neg, h3]; refine hK _ _ ?_; clear hK K)
  by_cases hlt : i = z
  · have hq : (t.size : Int) % 64 = 56 := hm.2 hlt
    refine aw_f (by (first | (simp [eval_tmp, put_at, hq]; done) | (simp [eval_tmp, put_at, hq]; omega))) (by kernel_rfl) ?_
    refine aw_exit ?_
    subst hlt
    refine aw_seq ?_
    have hn : IntKind.u64.wrap ((s.size : Int) * 8) = ((s.size * 8 : Nat) : Int) := by rw [wrapU64]; omega
    (refine aw_ops (by kernel_rfl) (fun K hK => ?_); simp (disch := first | omega | (simp only [lnS]; try omega; done)) [-getElem?_pos, -getElem?_neg, h0, hn]; refine hK _ _ ?_; clear hK K)
    refine aw_seq ?_
    (refine aw_ops (by kernel_rfl) (fun K hK => ?_); simp (disch := first | omega | (simp only [lnS]; try omega; done)) [-getElem?_pos, -getElem?_neg]; refine hK _ _ ?_; clear hK K)
    refine aw_seq ?_
    refine aw_seq ?_
    (refine aw_ops (by kernel_rfl) (fun K hK => ?_); simp (disch := first | omega | (simp only [lnS]; try omega; done)) [-getElem?_pos, -getElem?_neg]; refine hK _ _ ?_; clear hK K)
    refine aw_block ?_
    clear hn hm
    have hl8 := len8_d8 s.size (by omega)
    rw [Nat.mod_eq_of_lt (by omega)] at hl8
    have hlen : lenF s = nums t ++ d8 (s.size * 8) 8 := by
      unfold lenF padL
      rw [hl8, hzn, ht, List.append_assoc]
      rfl
    generalize hnn : s.size * 8 = n at *
    refine aw_loop (fun q α H'' => ∃ (k m : Nat), k + q = 8 ∧ m = n / 256 ^ k ∧ α 6 = .int .i64 (k : Nat) ∧ α 4 = .int .u64 (m : Nat) ∧ α 3 = .string t ∧ α 5 = .pointer (some ⟨H'.length, 0, none⟩) ∧
      H'' = H' ++ [some ⟨iv .u8 (d8 n k), 148, none⟩]) 8 ?_ ?_
    · refine ⟨0, n, rfl, by simp, by (first | (simp [put_at, put_none, fr0_at]; done) | rfl), ?_, by (first | (simp [put_at, put_none, fr0_at, h3]; done) | rfl), by (first | (simp [put_at, put_none, fr0_at]; done) | rfl), by unfold d8; rfl⟩
      have : (s.size : Int) * 8 = (n : Int) := by omega
      (first | (simp [put_at, put_none, fr0_at, this]; done) | rfl)
    rintro q' α H'' ⟨k, m, hk, hm, h6, h4, h3, h5, rfl⟩
    refine aw_seq ?_
    refine aw_seq ?_
    (refine aw_ops (by kernel_rfl) (fun K hK => ?_); simp (disch := first | omega | (simp only [lnS]; try omega; done)) [-getElem?_pos, -getElem?_neg, h6]; refine hK _ _ ?_; clear hK K)
    by_cases hlt : (k : Int) < 8
    · refine aw_t (by (first | (simp [eval_tmp, put_at, hlt]; done) | (simp [eval_tmp, put_at, hlt]; omega))) (by kernel_rfl) ?_
      refine aw_skip ?_
      refine aw_seq ?_
      refine aw_block ?_
      refine aw_seq ?_
      have hds := d8_succ n k
      rw [← hm] at hds
      have hx : (m : Int) % 256 = ((m % 256 : Nat) : Int) := by omega
      obtain ⟨x, hxx⟩ : ∃ x : Int, x = ((m % 256 : Nat) : Int) := ⟨_, rfl⟩
      rw [← hxx] at hds hx
      obtain ⟨o, ho⟩ : ∃ o : Nat, o = 7 - k := ⟨_, rfl⟩
      have ho' : 7 - (k : Int) = o := by omega
      rw [← ho] at hds
      have hdl := d8_len n k
      have hmb : n / 256 ^ k ≤ n := Nat.div_le_self _ _
      have hxb : 0 ≤ x ∧ x ≤ 255 := by omega
      (refine aw_ops (by kernel_rfl) (fun K hK => ?_); simp (disch := first | omega | (simp only [lnS]; try omega; done)) [-getElem?_pos, -getElem?_neg, h6, h4, h5, ho', hx, hdl, iv_set, ← hds]; refine hK _ _ ?_; clear hK K)
      (refine aw_ops (by kernel_rfl) (fun K hK => ?_); simp (disch := first | omega | (simp only [lnS]; try omega; done)) [-getElem?_pos, -getElem?_neg, h4]; refine hK _ _ ?_; clear hK K)
      (refine aw_ops (by kernel_rfl) (fun K hK => ?_); simp (disch := first | omega | (simp only [lnS]; try omega; done)) [-getElem?_pos, -getElem?_neg, h6]; refine hK _ _ ?_; clear hK K)
      refine ⟨q' - 1, by omega, k + 1, m / 256, by omega, ?_, by (first | (simp [put_at, put_none, fr0_at]; done) | rfl), by (first | (simp [put_at, put_none, fr0_at]; done) | rfl), by (first | (simp [put_at, put_none, fr0_at, h3]; done) | rfl), by (first | (simp [put_at, put_none, fr0_at, h5]; done) | rfl), rfl⟩
      rw [hm, Nat.div_div_eq_div_mul, ← Nat.pow_succ]
    · refine aw_f (by (first | (simp [eval_tmp, put_at, hlt]; done) | (simp [eval_tmp, put_at, hlt]; omega))) (by kernel_rfl) ?_
      obtain rfl : k = 8 := by omega
      refine aw_exit ?_
      refine aw_seq ?_
      have hb8 := d8_by n 8
      have hdl := d8_len n 8
      have hsz : (strOfNums (d8 n 8)).size = 8 := by rw [strOfNums_size, hdl]
      rw [hlen, ← str_app t _ hb8]
      generalize d8 n 8 = l8 at *
      (refine aw_ops (by kernel_rfl) (fun K hK => ?_); simp (disch := first | omega | (simp only [lnS]; try omega; done)) [-getElem?_pos, -getElem?_neg, h3, h5, hdl, List.take_of_length_le, byteList_iv, hsz]; refine hK _ _ ?_; clear hK K)
      (refine aw_ret ?_; simp [thenQ_ret, inBlockQ_ret, RQ, resL, resV, xload, tab, okD, isAggD, hget_app, hget_app0, hget_cons0, hget_cons, notTuple, put_at, put_none])
  · have hq : ¬ (t.size : Int) % 64 = 56 := fun h => hlt (hm.1 h)
    refine aw_t (by (first | (simp [eval_tmp, put_at, hq]; done) | (simp [eval_tmp, put_at, hq]; omega))) (by kernel_rfl) ?_
    refine aw_skip ?_
    refine aw_block ?_
    (refine aw_ops (by kernel_rfl) (fun K hK => ?_); simp (disch := first | omega | (simp only [lnS]; try omega; done)) [-getElem?_pos, -getElem?_neg, h3, h1]; refine hK _ _ ?_; clear hK K)
    refine ⟨q - 1, by omega, i + 1, t ++ ⟨#[0]⟩, by omega, ?_, by simp [ByteArray.size_append, h1]; omega, by (first | (simp [put_at, put_none, fr0_at]; done) | rfl), by (first | (simp [put_at, put_none, fr0_at, h0]; done) | rfl), rfl⟩
    rw [nums_app, ht, List.append_assoc]
    show _ ++ ((128 :: List.replicate i 0) ++ [0]) = _
    rw [List.cons_append, ← List.replicate_succ']
theorem lenF_len (s : ByteArray) : (lenF s).length % 64 = 0 ∧ (lenF s).length ≤ s.size + 128 := by
  unfold lenF padL
  have h8 : (len8 (s.size : Int)).length = 8 := by unfold len8; rfl
  rw [List.length_append, nums_len, List.length_cons, List.length_append, h8, List.length_replicate]
  unfold zn
  omega
theorem lenF_by (s : ByteArray) : By (lenF s) := by unfold lenF; exact By.app (nums_bd s) (padL_by _)
theorem takeB_n (l : List Int) : ∀ (s : HS), (0 ≤ s.n ∧ s.n < 18446744073709551616) → (takeB s l).n = IntKind.u64.wrap (s.n + l.length) := by
  induction l with
  | nil => intro s h; show s.n = _; rw [List.length_nil, wrapU64]; omega
  | cons x l ih =>
    intro s h
    have e : (stepB s x).n = IntKind.u64.wrap (s.n + 1) := by unfold stepB; split <;> rfl
    rw [takeB_cons, ih _ (by rw [e, wrapU64]; omega), e]
    simp only [wrapU64, List.length_cons]
    omega
theorem setI_all (xs : List Int) : ∀ (l : List Int), xs.length = l.length → setI l 0 xs = xs := by
  intro l h
  have := setR_all (iv .u8 l) (iv .u8 xs) (by simp [h])
  rw [iv_setI] at this
  have h2 := congrArg (List.map num) this
  rwa [num_iv, num_iv] at h2
/-- The state behind k blocks. -/
def stF (l : List Int) (k : Nat) : List Int := if k = 0 then startL else (takeB hs0 (l.take (64 * k))).st
theorem stF_len (l : List Int) (hb : By l) (k : Nat) : (stF l k).length = 8 := by
  unfold stF
  split
  · exact startL_len
  · exact (takeB_wf _ hs0 hs0_wf fun x hx => hb x (List.mem_of_mem_take hx)).hs
theorem stF_succ (l : List Int) (hb : By l) (k : Nat) (h : 64 * (k + 1) ≤ l.length) (h2 : l.length < 9223372036854775808) : stF l (k + 1) = blockF (stF l k) ((l.drop (64 * k)).take 64) := by
  have hwf := takeB_wf (l.take (64 * k)) hs0 hs0_wf fun x hx => hb x (List.mem_of_mem_take hx)
  have hn := takeB_n (l.take (64 * k)) hs0 hs0_wf.hn
  have hlt : (l.take (64 * k)).length = 64 * k := by rw [List.length_take]; omega
  rw [hlt, show hs0.n = 0 from rfl, wrapU64] at hn
  have hcl : ((l.drop (64 * k)).take 64).length = 64 := by rw [List.length_take, List.length_drop]; omega
  have e : l.take (64 * (k + 1)) = l.take (64 * k) ++ (l.drop (64 * k)).take 64 := by rw [show 64 * (k + 1) = 64 * k + 64 by omega, List.take_add]
  have hl : stF l (k + 1) = (takeB (takeB hs0 (l.take (64 * k))) ((l.drop (64 * k)).take 64)).st := by
    unfold stF
    rw [if_neg (by omega), e, takeB_append]
  rw [hl]
  have hk0 : stF l k = if k = 0 then startL else (takeB hs0 (l.take (64 * k))).st := rfl
  rw [hk0]
  generalize takeB hs0 (l.take (64 * k)) = S at *
  generalize (l.drop (64 * k)).take 64 = c at *
  have ho : (S.n % 64).toNat = 0 := by omega
  have hch := takeB_chunk c S hwf.hn (by omega) (by omega)
  rw [hch, if_pos (by rw [wrapU64]; omega), ho, setI_all c S.rs (by rw [hcl, hwf.hr])]
  show compF S.st c _ = _
  unfold compF st0
  by_cases hk : k = 0
  · subst hk
    rw [if_pos (by rw [wrapU64]; omega), if_pos rfl]
    rfl
  · rw [if_neg (by rw [wrapU64]; omega), if_neg hk]
    rfl
theorem outL_get (st : List Int) : ∀ (q r : Nat), r < 4 → q < st.length → (outL st).getD (4 * q + r) 0 = (b4 (st.getD q 0)).getD r 0 := by
  induction st with
  | nil => intro q r _ h; simp at h
  | cons x st ih =>
    intro q r hr hq
    have e : outL (x :: st) = b4 x ++ outL st := rfl
    rw [e]
    cases q with
    | zero =>
      rw [List.getD_eq_getElem?_getD, List.getElem?_append_left (by rw [b4_len]; omega), List.getD_cons_zero, List.getD_eq_getElem?_getD]
      simp
    | succ q =>
      rw [List.getD_eq_getElem?_getD, List.getElem?_append_right (by rw [b4_len]; omega), b4_len, show 4 * (q + 1) + r - 4 = 4 * q + r by omega, ← List.getD_eq_getElem?_getD, ih q r hr (by simpa using hq), List.getD_cons_succ]
theorem b4_get (x : Int) (r : Nat) (h : r < 4) : (b4 x).getD r 0 = IntKind.u8.wrap (x.fdiv (2 ^ (24 - 8 * r))) := by
  match r, h with
  | 0, _ => rfl
  | 1, _ => rfl
  | 2, _ => rfl
  | 3, _ => show IntKind.u8.wrap x = IntKind.u8.wrap (x.fdiv 1); rw [Int.fdiv_one]
attribute [local irreducible] outL blockF stF lenF startL
theorem refsum_rc {H : AH} {γ : Nat → Option Nat} (s : ByteArray) (hs : s.size ≤ 1000000000000) : AC Tryz.prog H.length γ 58 #[.string s] H (fun v' _ => v' = .agg (iv .u8 (outL (stF (lenF s) ((lenF s).length / 64)))).toArray) := by
  refine ac_of_aw Tryz.func58 rfl Tryz.ntmps58 Tryz.results58 (by simp) ?_
  have hln := lenF_len s
  have hby := lenF_by s
  have hsz := strOfNums_size (lenF s)
  have hnm := nums_of (lenF s) hby
  refine aw_seq ?_
  (refine aw_ops (by kernel_rfl) (fun K hK => ?_); simp (disch := first | omega | (simp only [lnS]; try omega; done)) [-getElem?_pos, -getElem?_neg]; refine hK _ _ ?_; clear hK K)
  refine aw_seq ?_
  refine aw_ops (by kernel_rfl) (fun K hK => ?_)
  simp (disch := first | omega | (simp only [lnS]; try omega; done)) [-getElem?_pos, -getElem?_neg]
  refine ⟨by kernel_rfl, ac_of_rc (lengthened_rc s hs) (by simp [pv_iv, pv_int, pv_bool, pv_string, pv_tup2, pv_tup3, iv_plain, p2_int, p2_bool, p2_string]) ?_⟩
  try simp (disch := first | omega | (simp only [lnS]; try omega; done)) [-getElem?_pos, -getElem?_neg]
  refine hK _ _ ?_; clear hK K
  generalize lenF s = l at *
  generalize strOfNums l = t at *
  refine aw_seq ?_
  have hst0 : ((((((((iv .u32 (zl 8)).set 0 (.int .u32 1779033703)).set 1 (.int .u32 3144134277)).set 2 (.int .u32 1013904242)).set 3 (.int .u32 2773480762)).set 4 (.int .u32 1359893119)).set 5 (.int .u32 2600822924)).set 6 (.int .u32 528734635)).set 7 (.int .u32 1541459225) = iv .u32 startL := by unfold zl startL; rfl
  have hsx : setR (iv .u32 (zl 8)) 0 (iv .u32 startL) = iv .u32 startL := setR_all _ _ (by simp [startL_len])
  have hstl := startL_len
  (refine aw_ops (by kernel_rfl) (fun K hK => ?_); simp (disch := first | omega | (simp only [lnS]; try omega; done)) [-getElem?_pos, -getElem?_neg, hst0, hstl, hsx]; refine hK _ _ ?_; clear hK K)
  refine aw_seq ?_
  refine aw_seq ?_
  (refine aw_ops (by kernel_rfl) (fun K hK => ?_); simp (disch := first | omega | (simp only [lnS]; try omega; done)) [-getElem?_pos, -getElem?_neg]; refine hK _ _ ?_; clear hK K)
  refine aw_block ?_
  obtain ⟨N, hN⟩ : ∃ N, l.length = 64 * N := ⟨l.length / 64, by omega⟩
  have hN2 : l.length / 64 = N := by omega
  rw [hN2]
  refine aw_loop (fun q α H' => ∃ (k : Nat), k + q = N ∧ α 5 = .int .i64 ((64 * k : Nat) : Int) ∧ α 3 = .string t ∧ α 2 = .pointer (some ⟨H.length, 0, none⟩) ∧ α 4 = .pointer (some ⟨H.length + 1, 0, none⟩) ∧
    H' = H ++ [some ⟨iv .u8 (zl 32), 103, none⟩, some ⟨iv .u32 (stF l k), 132, none⟩]) N ?_ ?_
  · refine ⟨0, by omega, by (first | (simp [put_at, put_none, fr0_at]; done) | rfl), by (first | (simp [put_at, put_none, fr0_at]; done) | rfl), by (first | (simp [put_at, put_none, fr0_at]; done) | rfl), by (first | (simp [put_at, put_none, fr0_at]; done) | rfl), by unfold stF; rfl⟩
  rintro q α H' ⟨k, hk, h5, h3, h2, h4, rfl⟩
  have hsl := stF_len l hby k
  refine aw_seq ?_
  refine aw_seq ?_
  obtain ⟨o, ho⟩ : ∃ o : Nat, o = 64 * k := ⟨_, rfl⟩
  rw [← ho] at h5
  (refine aw_ops (by kernel_rfl) (fun K hK => ?_); simp (disch := first | omega | (simp only [lnS]; try omega; done)) [-getElem?_pos, -getElem?_neg, h5, h3]; refine hK _ _ ?_; clear hK K)
  by_cases hlt : k < N
  · have hq : (o : Int) < t.size := by omega
    refine aw_t (by (first | (simp [eval_tmp, put_at, hq]; done) | (simp [eval_tmp, put_at, hq]; omega))) (by kernel_rfl) ?_
    refine aw_skip ?_
    refine aw_seq ?_
    refine aw_block ?_
    have hB := block_rc (H := H ++ [some ⟨iv .u8 (zl 32), 103, none⟩, some ⟨iv .u32 (stF l k), 132, none⟩]) (γ := γ) (stF l k) (t.extract o (o + 64)) hsl (by rw [← nums_len, nums_extract, hnm, List.length_take, List.length_drop]; omega)
    have hnx : nums (t.extract o (o + 64)) = (l.drop (64 * k)).take 64 := by rw [nums_extract, hnm, ho]; congr 1; omega
    have hss := stF_succ l hby k (by omega) (by omega)
    rw [hnx, ← hss] at hB
    have hsl2 := stF_len l hby (k + 1)
    have hsx2 : setR (iv .u32 (stF l k)) 0 (iv .u32 (stF l (k + 1))) = iv .u32 (stF l (k + 1)) := setR_all _ _ (by simp [hsl, hsl2])
    have htk : (iv .u32 (stF l k)).take 8 = iv .u32 (stF l k) := List.take_of_length_le (by simp [hsl])
    (refine aw_floatQ [] [0, 1, 2, 3, 4, 5, 6] 7 0 (by kernel_rfl) (by kernel_rfl) (by kernel_rfl) (fun K hK => ?_)); simp only [sel, List.getElem?_cons_succ, List.getElem?_cons_zero, List.drop_succ_cons, List.drop_zero]; simp (disch := first | omega | (simp only [lnS]; try omega; done)) [-getElem?_pos, -getElem?_neg, h4, h3, h5, hsl, htk, QM_nil, QM_cons, QMc_val]
    refine QMc_call (by kernel_rfl) hB (by simp [pv_iv, pv_int, pv_bool, pv_string, pv_tup2, pv_tup3, iv_plain, p2_int, p2_bool, p2_string]) ?_
    simp (disch := first | omega | (simp only [lnS]; try omega; done)) [-getElem?_pos, -getElem?_neg, h4, hsl, hsl2, hsx2, QM_nil, QM_cons, QMc_val]
    refine hK _ _ ?_; clear hK K
    (refine aw_ops (by kernel_rfl) (fun K hK => ?_); simp (disch := first | omega | (simp only [lnS]; try omega; done)) [-getElem?_pos, -getElem?_neg, h5]; refine hK _ _ ?_; clear hK K)
    refine ⟨q - 1, by omega, k + 1, by omega, ?_, by (first | (simp [put_at, put_none, fr0_at, h3]; done) | rfl), by (first | (simp [put_at, put_none, fr0_at, h2]; done) | rfl), by (first | (simp [put_at, put_none, fr0_at, h4]; done) | rfl), rfl⟩
    have : (o : Int) + 64 = ((64 * (k + 1) : Nat) : Int) := by omega
    (first | (simp [put_at, put_none, fr0_at, this]; done) | rfl)
  · have hq : ¬ (o : Int) < t.size := by omega
    refine aw_f (by (first | (simp [eval_tmp, put_at, hq]; done) | (simp [eval_tmp, put_at, hq]; omega))) (by kernel_rfl) ?_
    obtain rfl : k = N := by omega
    refine aw_exit ?_
    clear h5 h3 hq hlt
    refine aw_seq ?_
    (refine aw_ops (by kernel_rfl) (fun K hK => ?_); simp (disch := first | omega | (simp only [lnS]; try omega; done)) [-getElem?_pos, -getElem?_neg]; refine hK _ _ ?_; clear hK K)
    refine aw_seq ?_
    refine aw_seq ?_
    (refine aw_ops (by kernel_rfl) (fun K hK => ?_); simp (disch := first | omega | (simp only [lnS]; try omega; done)) [-getElem?_pos, -getElem?_neg]; refine hK _ _ ?_; clear hK K)
    refine aw_block ?_
    generalize stF l k = st at *
    have hol : (outL st).length = 32 := by rw [outL_len, hsl]
    refine aw_loop (fun q α H' => ∃ (i : Nat), i + q = 32 ∧ α 7 = .int .i64 (i : Nat) ∧ α 2 = .pointer (some ⟨H.length, 0, none⟩) ∧ α 4 = .pointer (some ⟨H.length + 1, 0, none⟩) ∧ α 6 = .pointer (some ⟨H.length + 2, 0, none⟩) ∧
      H' = H ++ [some ⟨iv .u8 (zl 32), 103, none⟩, some ⟨iv .u32 st, 132, none⟩, some ⟨iv .u8 ((outL st).take i ++ zl (32 - i)), 103, none⟩]) 32 ?_ ?_
    · refine ⟨0, by omega, by (first | (simp [put_at, put_none, fr0_at]; done) | rfl), by (first | (simp [put_at, put_none, fr0_at, h2]; done) | rfl), by (first | (simp [put_at, put_none, fr0_at, h4]; done) | rfl), by (first | (simp [put_at, put_none, fr0_at]; done) | rfl), rfl⟩
    clear h2 h4
    rintro q α H' ⟨i, hi, h7, h2, h4, h6, rfl⟩
    refine aw_seq ?_
    refine aw_seq ?_
    (refine aw_ops (by kernel_rfl) (fun K hK => ?_); simp (disch := first | omega | (simp only [lnS]; try omega; done)) [-getElem?_pos, -getElem?_neg, h7]; refine hK _ _ ?_; clear hK K)
    by_cases hlt : (i : Int) < 32
    · refine aw_t (by (first | (simp [eval_tmp, put_at, hlt]; done) | (simp [eval_tmp, put_at, hlt]; omega))) (by kernel_rfl) ?_
      refine aw_skip ?_
      refine aw_seq ?_
      refine aw_block ?_
      obtain ⟨a, ha⟩ : ∃ a : Nat, a = i / 4 := ⟨_, rfl⟩
      obtain ⟨r, hr⟩ : ∃ r : Nat, r = i % 4 := ⟨_, rfl⟩
      obtain ⟨e, he⟩ : ∃ e : Nat, e = 24 - 8 * r := ⟨_, rfl⟩
      have ha' : (i : Int) / 4 = (a : Int) := by omega
      have hr' : (i : Int) % 4 = (r : Int) := by omega
      have he' : 24 - 8 * (r : Int) = (e : Int) := by omega
      have g := outL_get st a r (by omega) (by omega)
      rw [b4_get _ r (by omega), ← he, show 4 * a + r = i by omega] at g
      have hsn := set_next (outL st) 32 i hol (by omega)
      have hfl := fill_len (outL st) 32 i hol (by omega)
      have ga : (iv .u32 st)[a]? = some (.int .u32 (st.getD a 0)) := iv_get _ _ _ (by omega)
      generalize st.getD a 0 = x at *
      rw [g] at hsn
      generalize (outL st).take i ++ zl (32 - i) = F at *
      (refine aw_ops (by kernel_rfl) (fun K hK => ?_); simp (disch := first | omega | (simp only [lnS]; try omega; done)) [-getElem?_pos, -getElem?_neg, -wu8, h7, h4, h6, ha', hr', he', ga, hsl, hfl, iv_set, hsn]; refine hK _ _ ?_; clear hK K)
      (refine aw_ops (by kernel_rfl) (fun K hK => ?_); simp (disch := first | omega | (simp only [lnS]; try omega; done)) [-getElem?_pos, -getElem?_neg, h7]; refine hK _ _ ?_; clear hK K)
      refine ⟨q - 1, by omega, i + 1, by omega, by (first | (simp [put_at, put_none, fr0_at]; done) | rfl), by (first | (simp [put_at, put_none, fr0_at, h2]; done) | rfl), by (first | (simp [put_at, put_none, fr0_at, h4]; done) | rfl), by (first | (simp [put_at, put_none, fr0_at, h6]; done) | rfl), ?_⟩
      rw [show 32 - (i + 1) = 31 - i by omega]
    · refine aw_f (by (first | (simp [eval_tmp, put_at, hlt]; done) | (simp [eval_tmp, put_at, hlt]; omega))) (by kernel_rfl) ?_
      obtain rfl : i = 32 := by omega
      refine aw_exit ?_
      have e1 : (outL st).take 32 ++ zl (32 - 32) = outL st := by rw [List.take_of_length_le (by omega)]; simp [zl]
      have hsx3 : setR (iv .u8 (zl 32)) 0 (iv .u8 (outL st)) = iv .u8 (outL st) := setR_all _ _ (by simp [hol])
      have htx : (iv .u8 (outL st)).take 32 = iv .u8 (outL st) := List.take_of_length_le (by simp [hol])
      rw [e1]
      refine aw_seq ?_
      (refine aw_ops (by kernel_rfl) (fun K hK => ?_); simp (disch := first | omega | (simp only [lnS]; try omega; done)) [-getElem?_pos, -getElem?_neg, h2, h6, hol, hsx3, htx]; refine hK _ _ ?_; clear hK K)
      (refine aw_ret ?_; simp [thenQ_ret, inBlockQ_ret, RQ, resL, resV, xload, tab, okD, isAggD, hget_app, hget_app0, hget_cons0, hget_cons, notTuple, put_at, put_none, h2, hol, htx])
/-- The document's digest is the program's. -/
theorem dig_eq (s : ByteArray) (hs : s.size ≤ 1000000000000) : outL (stF (lenF s) ((lenF s).length / 64)) = dig (takeB hs0 (nums s)) := by
  have hln := lenF_len s
  have h0 : ¬ (lenF s).length / 64 = 0 := by
    have : 0 < (lenF s).length := by unfold lenF padL; simp; omega
    omega
  unfold stF dig
  rw [if_neg h0, List.take_of_length_le (by omega), ← takeB_append]
  have hn := takeB_n (nums s) hs0 hs0_wf.hn
  rw [nums_len, show hs0.n = 0 from rfl, wrapU64] at hn
  rw [hn, show (0 + (s.size : Int)) % 18446744073709551616 = s.size by omega]
  unfold lenF
  rfl
theorem refsum {H : AH} {γ : Nat → Option Nat} (s : ByteArray) (hs : s.size ≤ 1000000000000) : AC Tryz.prog H.length γ 58 #[.string s] H (fun v' _ => v' = .agg (iv .u8 (dig (takeB hs0 (nums s)))).toArray) := by
  rw [← dig_eq s hs]
  exact refsum_rc s hs
end
section
attribute [local simp] wb_bool wb_undef XL_nil XL_cons XLc_val XLc_call step1_eq stepW_t stepW_f stepC_n stepC_s stepX_s stepX_n stepN_s calleeX oneV xop_eq xopR_s xopR_n wantedA_eq wantedG_n wantedG_s plain1_int plain1_bool plain1_string bits_i64 bits_u64 bits_u32 bits_u16 bits_u8 xeqA xagg xcmp xarr allK_iv num_iv calleeOf xread xeff xbin xint xnil xun xstr xload xconv xpart xfield xfieldAddr xindexAddr xindex bnd asInt? xslice xlen xmin xmax xbuild xfill xappend xapp2 xappstr xappmk xcap xcopy xcells eval_tmp eval_const put_at put_none fr0_at cells_agg cells_int cells_bool cells_string cells_ptr cells_slice notTuple tab iv_all hget_app hget_app0 hget_cons0 hget_cons set_app set_app0 setR setR_one QL_nil QL_cons QLc_val stepQ_t stepQ_f stepQC_n stepQC_s stepQX_s SL_nil SL_cons SLc_val stepS_t stepS_f ltT ltF leT leF eqT eqF ltTn ltFn leTn leFn eqTn eqFn beqT beqF bneT bneF wi64 wu64 wu32 wu16 wu8 tmodP tdivP hgetL hgetNe hgetEq setL nums_def nums_len Nat.succ_le_of_lt List.getElem?_cons_zero List.getElem?_cons_succ Option.getD_some Int.toNat_add Int.toNat_mul agB agI agS agP agL agA okB okI okS okP okSl okA
theorem refText_ac {H : AH} {γ : Nat → Option Nat} {nro : Nat} {s : ByteArray} (hs : s.size ≤ 100000) (hnl : nro ≤ H.length) :
    AC Tryz.prog nro γ 43 #[.string s] H (fun v' H' => v' = .string (strOfNums (numB s.size ++ nums s)) ∧ ∃ L, H' = H ++ L) := by
  have hw : IntKind.u32.wrap (s.size : Nat) = (s.size : Nat) := by simp only [IntKind.wrap_u32']; omega
  have h5 := numB_len s.size
  have hsz : (strOfNums (numB s.size)).size + s.size ≤ 9223372036854775807 := by rw [sn_size]; omega
  have happ : strOfNums (numB s.size) ++ s = strOfNums (numB s.size ++ nums s) := by
    rw [← sn_app, of_nums' s]
  refine ac_of_aw Tryz.func43 rfl Tryz.ntmps43 Tryz.results43 (by simp) ?_
  refine aw_seq ?_
  (refine aw_ops (by kernel_rfl) (fun K hK => ?_); simp (disch := first | omega | (simp only [lnS]; try omega; done)) [-getElem?_pos, -getElem?_neg]; refine hK _ _ ?_; clear hK K)
  refine aw_seq ?_
  refine aw_ops (by kernel_rfl) (fun K hK => ?_)
  simp (disch := first | omega | (simp only [lnS]; try omega; done)) [-getElem?_pos, -getElem?_neg, hw]
  refine ⟨by kernel_rfl, (refNumber_ac (by omega) hnl).mono ?_⟩
  rintro v1 H1 ⟨rfl, L, rfl⟩
  try simp (disch := first | omega | (simp only [lnS]; try omega; done)) [-getElem?_pos, -getElem?_neg, hsz, happ]
  refine hK _ _ ?_; clear hK K
  (refine aw_ret ?_; simp (disch := first | omega | (simp only [lnS]; try omega; done)) [-getElem?_pos, -getElem?_neg, thenQ_ret, scopeQ_ret, inBlockQ_ret, RQ, resL, resV])
end
section
def rfill (l : List Int) (n : Nat) : List Int := l ++ zl (n - l.length)
attribute [local irreducible] markL
attribute [local simp] wb_bool wb_undef XL_nil XL_cons XLc_val XLc_call step1_eq stepW_t stepW_f stepC_n stepC_s stepX_s stepX_n stepN_s calleeX oneV xop_eq xopR_s xopR_n wantedA_eq wantedG_n wantedG_s plain1_int plain1_bool plain1_string bits_i64 bits_u64 bits_u32 bits_u16 bits_u8 xeqA xagg xcmp xarr allK_iv num_iv calleeOf xread xeff xbin xint xnil xun xstr xload xconv xpart xfield xfieldAddr xindexAddr xindex bnd asInt? xslice xlen xmin xmax xbuild xfill xappend xapp2 xappstr xappmk xcap xcopy xcells eval_tmp eval_const put_at put_none fr0_at cells_agg cells_int cells_bool cells_string cells_ptr cells_slice notTuple tab iv_all hget_app hget_app0 hget_cons0 hget_cons set_app set_app0 setR setR_one QL_nil QL_cons QLc_val stepQ_t stepQ_f stepQC_n stepQC_s stepQX_s SL_nil SL_cons SLc_val stepS_t stepS_f ltT ltF leT leF eqT eqF ltTn ltFn leTn leFn eqTn eqFn beqT beqF bneT bneF wi64 wu64 wu32 wu16 wu8 tmodP tdivP hgetL hgetNe hgetEq setL nums_def nums_len Nat.succ_le_of_lt List.getElem?_cons_zero List.getElem?_cons_succ Option.getD_some Int.toNat_add Int.toNat_mul agB agI agS agP agL agA okB okI okS okP okSl okA
theorem rfilled_rc {γ : Nat → Option Nat} {H : AH} (l : List Int) (n : Nat) (hn : n ≤ 256) (hl : l.length ≤ 1000000) : AC Tryz.prog H.length γ 32 #[.string (strOfNums l), .int .i64 (n : Nat)] H (fun v' _ => v' = .string (strOfNums (rfill l n))) := by
  have hs := sn_size l
  refine ac_of_aw Tryz.func32 rfl Tryz.ntmps32 Tryz.results32 (by simp) ?_
  refine aw_seq ?_
  (refine aw_ops (by kernel_rfl) (fun K hK => ?_); simp (disch := first | omega | (simp only [lnS]; try omega; done)) [-getElem?_pos, -getElem?_neg]; refine hK _ _ ?_; clear hK K)
  refine aw_seq ?_
  refine aw_seq ?_
  by_cases hc : n ≤ l.length
  · (refine aw_ops (by kernel_rfl) (fun K hK => ?_); simp (disch := first | omega | (simp only [lnS]; try omega; done)) [-getElem?_pos, -getElem?_neg, hs, hc]; refine hK _ _ ?_; clear hK K)
    refine aw_t (by (first | (simp [eval_tmp, put_at]; done) | (simp [eval_tmp, put_at]; omega))) (by kernel_rfl) ?_
    refine aw_seq ?_
    (refine aw_ops (by kernel_rfl) (fun K hK => ?_); simp (disch := first | omega | (simp only [lnS]; try omega; done)) [-getElem?_pos, -getElem?_neg]; refine hK _ _ ?_; clear hK K)
    have e : rfill l n = l := by
      unfold rfill
      rw [show n - l.length = 0 by omega]
      simp [zl]
    (refine aw_ret ?_; simp (disch := first | omega | (simp only [lnS]; try omega; done)) [-getElem?_pos, -getElem?_neg, thenQ_ret, scopeQ_ret, inBlockQ_ret, RQ, resL, resV])
    rw [e]
  · (refine aw_ops (by kernel_rfl) (fun K hK => ?_); simp (disch := first | omega | (simp only [lnS]; try omega; done)) [-getElem?_pos, -getElem?_neg, hs, hc]; refine hK _ _ ?_; clear hK K)
    refine aw_f (by (first | (simp [eval_tmp, put_at]; done) | (simp [eval_tmp, put_at]; omega))) (by kernel_rfl) ?_
    refine aw_skip ?_
    refine aw_seq ?_
    have e : ((n : Nat) : Int) - (l.length : Nat) = ((n - l.length : Nat) : Int) := by omega
    have hz := zeros_u8 (n - l.length)
    have hbl := byteList_iv (zl (n - l.length))
    have hml : n ≤ maxLen + l.length := by simp only [maxLen]; omega
    have hz2 : (strOfNums (zl (n - l.length))).size = n - l.length := by rw [sn_size, zl_length]
    have hz3 : (iv .u8 (zl (n - l.length))).take (n - l.length) = iv .u8 (zl (n - l.length)) := List.take_of_length_le (by simp)
    (refine aw_ops (by kernel_rfl) (fun K hK => ?_); simp (disch := first | omega | (simp only [lnS]; try omega; done)) [-getElem?_pos, -getElem?_neg, hs, e, hz, hbl, sn_app, hml, hz2, hz3]; refine hK _ _ ?_; clear hK K)
    (refine aw_ret ?_; simp (disch := first | omega | (simp only [lnS]; try omega; done)) [-getElem?_pos, -getElem?_neg, thenQ_ret, scopeQ_ret, inBlockQ_ret, RQ, resL, resV])
    rfl
theorem rhalf_rc {γ : Nat → Option Nat} {H : AH} {q : Nat} {F : List Nat} {D : DM} (h : Rk H q F D) : AC Tryz.prog H.length γ 34 #[.pointer (some ⟨q, 0, none⟩)] H (fun v' _ => v' = .int .i64 (((D.firm.length - 1) / 2 : Nat) : Int)) := by
  obtain ⟨ho, f, A, B, FA, FB, rfl, h⟩ := h
  have hq := h.hq
  have h1 := ho.one
  have h2 := ho.most
  have hh : ((D.firm.length : Nat) - 1 : Int).tdiv 2 = (((D.firm.length - 1) / 2 : Nat) : Int) := by
    rw [Int.tdiv_eq_ediv_of_nonneg (by omega)]
    omega
  refine ac_of_aw Tryz.func34 rfl Tryz.ntmps34 Tryz.results34 (by simp) ?_
  refine aw_seq ?_
  (refine aw_ops (by kernel_rfl) (fun K hK => ?_); simp (disch := first | omega | (simp only [lnS]; try omega; done)) [-getElem?_pos, -getElem?_neg]; refine hK _ _ ?_; clear hK K)
  refine aw_seq ?_
  (refine aw_ops (by kernel_rfl) (fun K hK => ?_); simp (disch := first | omega | (simp only [lnS]; try omega; done)) [-getElem?_pos, -getElem?_neg, hq, hh, -tdivP]; refine hK _ _ ?_; clear hK K)
  (refine aw_ret ?_; simp (disch := first | omega | (simp only [lnS]; try omega; done)) [-getElem?_pos, -getElem?_neg, thenQ_ret, scopeQ_ret, inBlockQ_ret, RQ, resL, resV])
theorem rbytes_rc {γ : Nat → Option Nat} {H : AH} {v : Value} {ps : List ByteArray} (hv : ∀ L, StrV (H ++ L) v ps) (hps : ∀ s ∈ ps, s.size ≤ 2000) (hlen : ps.length ≤ 2000) :
    AC Tryz.prog H.length γ 41 #[v] H (fun v' _ => v' = .string (strOfNums (textsB ps))) := by
  have hno := (hv []).nt
  have hxl := (hv []).len
  refine ac_of_aw Tryz.func41 rfl Tryz.ntmps41 Tryz.results41 (by simp) ?_
  refine aw_seq ?_
  (refine aw_ops (by kernel_rfl) (fun K hK => ?_); simp (disch := first | omega | (simp only [lnS]; try omega; done)) [-getElem?_pos, -getElem?_neg]; refine hK _ _ ?_; clear hK K)
  refine aw_seq ?_
  (refine aw_ops (by kernel_rfl) (fun K hK => ?_); simp (disch := first | omega | (simp only [lnS]; try omega; done)) [-getElem?_pos, -getElem?_neg]; refine hK _ _ ?_; clear hK K)
  refine aw_seq ?_
  refine aw_seq ?_
  (refine aw_ops (by kernel_rfl) (fun K hK => ?_); simp (disch := first | omega | (simp only [lnS]; try omega; done)) [-getElem?_pos, -getElem?_neg]; refine hK _ _ ?_; clear hK K)
  refine aw_block ?_
  refine aw_loop (fun c α G => ∃ i : Nat, i + c = ps.length ∧ α 0 = v ∧ α 3 = .string (strOfNums (textsB (ps.take i))) ∧ α 4 = .int .i64 (i : Nat) ∧ ∃ L, G = H ++ L) ps.length ?_ ?_
  · exact ⟨0, by omega, by (first | (simp [put_at, put_none, fr0_at]; done) | rfl), by (first | (simp [put_at, put_none, fr0_at]; done) | rfl), by (first | (simp [put_at, put_none, fr0_at]; done) | rfl), [], by simp⟩
  rintro c α G ⟨i, hic, h0, h3, h4, L, rfl⟩
  refine aw_seq ?_
  refine aw_seq ?_
  by_cases hi : i < ps.length
  · (refine aw_ops (by kernel_rfl) (fun K hK => ?_); simp (disch := first | omega | (simp only [lnS]; try omega; done)) [-getElem?_pos, -getElem?_neg, h0, h4, -notTuple, hno, -xlen, hxl, hi]; refine hK _ _ ?_; clear hK K)
    refine aw_t (by (first | (simp [eval_tmp, put_at]; done) | (simp [eval_tmp, put_at]; omega))) (by kernel_rfl) ?_
    refine aw_skip ?_
    refine aw_seq ?_
    refine aw_block ?_
    obtain ⟨s, hs⟩ : ∃ s, ps[i]? = some s := ⟨_, List.getElem?_eq_getElem hi⟩
    obtain ⟨p, hp1, hp2⟩ := (hv L).at_ i s hs
    have hsz := hps s (List.mem_of_getElem? hs)
    have hnx := textsB_next hs
    have htl : (textsB (ps.take i)).length ≤ 3005 * (ps.take i).length := textsB_len (fun x hx => by have := hps x (List.mem_of_mem_take hx); omega)
    rw [List.length_take] at htl
    have htx := textB_len s
    have hsum : (strOfNums (textsB (ps.take i))).size + (strOfNums (textB s)).size ≤ 9223372036854775807 := by rw [sn_size, sn_size]; omega
    have happ : strOfNums (textsB (ps.take i)) ++ strOfNums (textB s) = strOfNums (textsB (ps.take (i + 1))) := by rw [sn_app, hnx]
    have htb : numB s.size ++ nums s = textB s := rfl
    refine aw_ops (by kernel_rfl) (fun K hK => ?_)
    simp (disch := first | omega | (simp only [lnS]; try omega; done)) [-getElem?_pos, -getElem?_neg, h0, h3, h4, -notTuple, hno, nt_strJ, nt_intJ, -xindexAddr, hp1, -xload, hp2]
    refine ⟨by kernel_rfl, (refText_ac (by omega) (by simp)).mono ?_⟩
    rw [htb]
    rintro v1 H1 ⟨rfl, L1, rfl⟩
    try simp (disch := first | omega | (simp only [lnS]; try omega; done)) [-getElem?_pos, -getElem?_neg, hsum, happ]
    refine hK _ _ ?_; clear hK K
    (refine aw_ops (by kernel_rfl) (fun K hK => ?_); simp (disch := first | omega | (simp only [lnS]; try omega; done)) [-getElem?_pos, -getElem?_neg, h4]; refine hK _ _ ?_; clear hK K)
    exact ⟨c - 1, by omega, i + 1, by omega, by (first | (simp [put_at, put_none, fr0_at, h0]; done) | rfl), by (first | (simp [put_at, put_none, fr0_at]; done) | rfl), by (first | (simp [put_at, put_none, fr0_at]; done) | rfl), L ++ L1, by simp⟩
  · (refine aw_ops (by kernel_rfl) (fun K hK => ?_); simp (disch := first | omega | (simp only [lnS]; try omega; done)) [-getElem?_pos, -getElem?_neg, h0, h4, -notTuple, hno, -xlen, hxl, hi]; refine hK _ _ ?_; clear hK K)
    refine aw_f (by (first | (simp [eval_tmp, put_at]; done) | (simp [eval_tmp, put_at]; omega))) (by kernel_rfl) ?_
    refine aw_exit ?_
    refine aw_seq ?_
    have hall : ps.take i = ps := List.take_of_length_le (by omega)
    rw [hall] at h3
    (refine aw_ops (by kernel_rfl) (fun K hK => ?_); simp (disch := first | omega | (simp only [lnS]; try omega; done)) [-getElem?_pos, -getElem?_neg, h3]; refine hK _ _ ?_; clear hK K)
    (refine aw_ret ?_; simp (disch := first | omega | (simp only [lnS]; try omega; done)) [-getElem?_pos, -getElem?_neg, thenQ_ret, scopeQ_ret, inBlockQ_ret, RQ, resL, resV])
theorem rmark_rc {γ : Nat → Option Nat} {H : AH} (a n : Nat) (ha : a ≤ 255) (hn : n < 4294967296) : AC Tryz.prog H.length γ 33 #[.int .i64 (a : Nat), .int .i64 (n : Nat)] H (fun v' _ => v' = .string (strOfNums (markL a n))) := by
  have w1 : IntKind.u8.wrap (a : Nat) = (a : Int) % 256 := by simp only [IntKind.wrap_u8']
  have q1 : ((n : Nat) : Int).tdiv 16777216 = (n : Int) / 16777216 := Int.tdiv_eq_ediv_of_nonneg (by omega)
  have q2 : ((n : Nat) : Int).tdiv 65536 = (n : Int) / 65536 := Int.tdiv_eq_ediv_of_nonneg (by omega)
  have q3 : ((n : Nat) : Int).tdiv 256 = (n : Int) / 256 := Int.tdiv_eq_ediv_of_nonneg (by omega)
  have m2 : ((n : Int) / 65536).tmod 256 = (n : Int) / 65536 % 256 := Int.tmod_eq_emod_of_nonneg (by omega)
  have m3 : ((n : Int) / 256).tmod 256 = (n : Int) / 256 % 256 := Int.tmod_eq_emod_of_nonneg (by omega)
  have m4 : ((n : Nat) : Int).tmod 256 = (n : Int) % 256 := Int.tmod_eq_emod_of_nonneg (by omega)
  have w2 : IntKind.u8.wrap ((n : Int) / 16777216) = (n : Int) / 16777216 % 256 := by simp only [IntKind.wrap_u8']
  have w3 : IntKind.u8.wrap ((n : Int) / 65536 % 256) = (n : Int) / 65536 % 256 := by simp only [IntKind.wrap_u8']; omega
  have w4 : IntKind.u8.wrap ((n : Int) / 256 % 256) = (n : Int) / 256 % 256 := by simp only [IntKind.wrap_u8']; omega
  have w5 : IntKind.u8.wrap ((n : Int) % 256) = (n : Int) % 256 := by simp only [IntKind.wrap_u8']; omega
  have r5 : List.range 5 = [0, 1, 2, 3, 4] := rfl
  have hh : (⟨#[109, 97, 114, 107]⟩ : ByteArray) ++ strOfNums [(a : Int) % 256, (n : Int) / 16777216 % 256, (n : Int) / 65536 % 256, (n : Int) / 256 % 256, (n : Int) % 256] = strOfNums (headL a n) := by
    rw [show (⟨#[109, 97, 114, 107]⟩ : ByteArray) = strOfNums [109, 97, 114, 107] from rfl, sn_app]
    rfl
  have hm : markL a n = headL a n ++ ((dig (takeB hs0 (headL a n))).take 8 ++ zl 47) := by with_unfolding_all rfl
  have hb := headL_by a n
  have hl := headL_len a n
  have hdl := dig_len _ (takeB_wf (headL a n) hs0 hs0_wf (headL_by a n))
  have hnh : nums (strOfNums (headL a n)) = headL a n := nums_of _ hb
  generalize headL a n = h at *
  have hsum := fun (G : AH) => refsum (H := G) (γ := γ) (strOfNums h) (by rw [sn_size, hl]; omega)
  rw [hnh] at hsum
  generalize dig (takeB hs0 h) = D at *
  have hfl := fun (G : AH) => rfilled_rc (γ := γ) (H := G) (h ++ D.take 8) 64 (by omega) (by rw [List.length_append, List.length_take]; omega)
  have hrf : rfill (h ++ D.take 8) 64 = markL a n := by
    rw [hm]
    unfold rfill
    rw [List.append_assoc, List.length_append, List.length_take, hl, hdl]
    rfl
  rw [hrf] at hfl
  generalize markL a n = M at *
  refine ac_of_aw Tryz.func33 rfl Tryz.ntmps33 Tryz.results33 (by simp) ?_
  refine aw_seq ?_
  (refine aw_ops (by kernel_rfl) (fun K hK => ?_); simp (disch := first | omega | (simp only [lnS]; try omega; done)) [-getElem?_pos, -getElem?_neg]; refine hK _ _ ?_; clear hK K)
  refine aw_seq ?_
  have hbb := byteList_iv [(a : Int) % 256, (n : Int) / 16777216 % 256, (n : Int) / 65536 % 256, (n : Int) / 256 % 256, (n : Int) % 256]
  simp only [iv, List.map_cons, List.map_nil] at hbb
  (refine aw_ops (by kernel_rfl) (fun K hK => ?_); simp (disch := first | omega | (simp only [lnS]; try omega; done)) [-getElem?_pos, -getElem?_neg, q1, q2, q3, -tdivP, -tmodP, m2, m3, m4, w1, w2, w3, w4, w5, -wu8, r5, hbb, hh, num_int]; refine hK _ _ ?_; clear hK K)
  refine aw_seq ?_
  have hsx : setR (iv .u8 (zl 32)) 0 (iv .u8 D) = iv .u8 D := setR_all _ _ (by simp [hdl])
  refine aw_ops (by kernel_rfl) (fun K hK => ?_)
  try simp (disch := first | omega | (simp only [lnS]; try omega; done)) [-getElem?_pos, -getElem?_neg]
  refine ⟨by kernel_rfl, ac_of_rc (hsum _) (by simp [pv_iv, pv_int, pv_bool, pv_string, pv_tup2, pv_tup3, iv_plain, p2_int, p2_bool, p2_string]) ?_⟩
  simp (disch := first | omega | (simp only [lnS]; try omega; done)) [-getElem?_pos, -getElem?_neg, hdl, hsx]
  refine hK _ _ ?_; clear hK K
  refine aw_seq ?_
  have htk : (iv .u8 D).take 8 = iv .u8 (D.take 8) := by rw [iv_take]
  have z2 : (strOfNums (D.take 8)).size = 8 := by rw [sn_size, List.length_take, hdl]; omega
  have z3 : (strOfNums h).size = 9 := by rw [sn_size, hl]
  refine aw_ops (by kernel_rfl) (fun K hK => ?_)
  simp (disch := first | omega | (simp only [lnS]; try omega; done)) [-getElem?_pos, -getElem?_neg, hdl, htk, byteList_iv, z2, z3, sn_app]
  refine ⟨by kernel_rfl, ac_of_rc (hfl _) (by simp [pv_iv, pv_int, pv_bool, pv_string, pv_tup2, pv_tup3, iv_plain, p2_int, p2_bool, p2_string]) ?_⟩
  try simp (disch := first | omega | (simp only [lnS]; try omega; done)) [-getElem?_pos, -getElem?_neg]
  refine hK _ _ ?_; clear hK K
  (refine aw_ret ?_; simp (disch := first | omega | (simp only [lnS]; try omega; done)) [-getElem?_pos, -getElem?_neg, thenQ_ret, scopeQ_ret, inBlockQ_ret, RQ, resL, resV])
end
section
def rrC (l : List Int) (e : Int) : Blk := ⟨[.string (strOfNums l), .int .i64 e], 77, none⟩
attribute [local irreducible] rdN
attribute [local simp] wb_bool wb_undef XL_nil XL_cons XLc_val XLc_call step1_eq stepW_t stepW_f stepC_n stepC_s stepX_s stepX_n stepN_s calleeX oneV xop_eq xopR_s xopR_n wantedA_eq wantedG_n wantedG_s plain1_int plain1_bool plain1_string bits_i64 bits_u64 bits_u32 bits_u16 bits_u8 xeqA xagg xcmp xarr allK_iv num_iv calleeOf xread xeff xbin xint xnil xun xstr xload xconv xpart xfield xfieldAddr xindexAddr xindex bnd asInt? xslice xlen xmin xmax xbuild xfill xappend xapp2 xappstr xappmk xcap xcopy xcells eval_tmp eval_const put_at put_none fr0_at cells_agg cells_int cells_bool cells_string cells_ptr cells_slice notTuple tab iv_all hget_app hget_app0 hget_cons0 hget_cons set_app set_app0 setR setR_one QL_nil QL_cons QLc_val stepQ_t stepQ_f stepQC_n stepQC_s stepQX_s SL_nil SL_cons SLc_val stepS_t stepS_f ltT ltF leT leF eqT eqF ltTn ltFn leTn leFn eqTn eqFn beqT beqF bneT bneF wi64 wu64 wu32 wu16 wu8 tmodP tdivP hgetL hgetNe hgetEq setL nums_def nums_len Nat.succ_le_of_lt List.getElem?_cons_zero List.getElem?_cons_succ Option.getD_some Int.toNat_add Int.toNat_mul agB agI agS agP agL agA okB okI okS okP okSl okA
theorem rnum_ac {H : AH} {γ : Nat → Option Nat} {nro p : Nat} {l : List Int} (hp : nro ≤ p) (h : hget H p = some (rrC l 0)) (hb : By l) (hl : l.length ≤ 1000000) :
    AC Tryz.prog nro γ 82 #[.pointer (some ⟨p, 0, none⟩)] H (fun v' H' => v' = .int .u32 ((rdNum l).1 : Nat) ∧ H' = H.set p (some (rrC (rdNum l).2.1 (rdNum l).2.2))) := by
  have hpl := hget_lt h
  unfold rrC at h ⊢
  have hsz := sn_size l
  refine ac_of_aw Tryz.func82 rfl Tryz.ntmps82 Tryz.results82 (by simp) ?_
  refine aw_seq ?_
  (refine aw_ops (by kernel_rfl) (fun K hK => ?_); simp (disch := first | omega | (simp only [lnS]; try omega; done)) [-getElem?_pos, -getElem?_neg]; refine hK _ _ ?_; clear hK K)
  refine aw_seq ?_
  refine aw_seq ?_
  (refine aw_ops (by kernel_rfl) (fun K hK => ?_); simp (disch := first | omega | (simp only [lnS]; try omega; done)) [-getElem?_pos, -getElem?_neg, h]; refine hK _ _ ?_; clear hK K)
  refine aw_f (by (first | (simp [eval_tmp, put_at]; done) | (simp [eval_tmp, put_at]; omega))) (by kernel_rfl) ?_
  refine aw_skip ?_
  refine aw_seq ?_
  (refine aw_ops (by kernel_rfl) (fun K hK => ?_); simp (disch := first | omega | (simp only [lnS]; try omega; done)) [-getElem?_pos, -getElem?_neg]; refine hK _ _ ?_; clear hK K)
  refine aw_seq ?_
  refine aw_seq ?_
  (refine aw_ops (by kernel_rfl) (fun K hK => ?_); simp (disch := first | omega | (simp only [lnS]; try omega; done)) [-getElem?_pos, -getElem?_neg]; refine hK _ _ ?_; clear hK K)
  refine aw_block ?_
  refine aw_loop (fun c α G => ∃ (i n : Nat), i + c = 5 ∧ 0 < c ∧ i ≤ l.length ∧ n ≤ 4294967295 ∧ α 0 = .pointer (some ⟨p, 0, none⟩) ∧ α 3 = .int .u64 (n : Nat) ∧ α 4 = .int .i64 (i : Nat) ∧ G = H ∧ rdN 5 0 l = rdN c n (l.drop i)) 5 ?_ ?_
  · exact ⟨0, 0, by omega, by omega, by omega, by omega, by (first | (simp [put_at, put_none, fr0_at]; done) | rfl), by (first | (simp [put_at, put_none, fr0_at]; done) | rfl), by (first | (simp [put_at, put_none, fr0_at]; done) | rfl), rfl, by simp⟩
  rintro c α G0 ⟨i, n, hic, hc0, hil, hn, h0, h3, h4, rfl, hrd⟩
  refine aw_seq ?_
  refine aw_seq ?_
  by_cases hlt : i < l.length
  case neg =>
    (refine aw_ops (by kernel_rfl) (fun K hK => ?_); simp (disch := first | omega | (simp only [lnS]; try omega; done)) [-getElem?_pos, -getElem?_neg, h0, h4, h, hsz, hlt]; refine hK _ _ ?_; clear hK K)
    refine aw_f (by (first | (simp [eval_tmp, put_at]; done) | (simp [eval_tmp, put_at]; omega))) (by kernel_rfl) ?_
    refine aw_exit ?_
    refine aw_seq ?_
    (refine aw_ops (by kernel_rfl) (fun K hK => ?_); simp (disch := first | omega | (simp only [lnS]; try omega; done)) [-getElem?_pos, -getElem?_neg, h0, h]; refine hK _ _ ?_; clear hK K)
    refine aw_seq ?_
    (refine aw_ops (by kernel_rfl) (fun K hK => ?_); simp (disch := first | omega | (simp only [lnS]; try omega; done)) [-getElem?_pos, -getElem?_neg]; refine hK _ _ ?_; clear hK K)
    have hd : l.drop i = [] := List.drop_of_length_le (by omega)
    obtain ⟨c', rfl⟩ : ∃ c', c = c' + 1 := ⟨c - 1, by omega⟩
    have e : rdN 5 0 l = (0, [], 3) := by rw [hrd, hd]; unfold rdN; rfl
    have e2 : rdNum l = (0, l, 3) := by unfold rdNum; rw [e]; rfl
    (refine aw_ret ?_; simp (disch := first | omega | (simp only [lnS]; try omega; done)) [-getElem?_pos, -getElem?_neg, thenQ_ret, scopeQ_ret, inBlockQ_ret, RQ, resL, resV, e2])
  (refine aw_ops (by kernel_rfl) (fun K hK => ?_); simp (disch := first | omega | (simp only [lnS]; try omega; done)) [-getElem?_pos, -getElem?_neg, h0, h4, h, hsz, hlt]; refine hK _ _ ?_; clear hK K)
  refine aw_t (by (first | (simp [eval_tmp, put_at]; done) | (simp [eval_tmp, put_at]; omega))) (by kernel_rfl) ?_
  refine aw_skip ?_
  refine aw_seq ?_
  refine aw_block ?_
  obtain ⟨b, hbb⟩ : ∃ b, l[i]? = some b := ⟨_, List.getElem?_eq_getElem hlt⟩
  have hbr := hb b (List.mem_of_getElem? hbb)
  obtain ⟨bn, rfl⟩ : ∃ bn : Nat, b = (bn : Nat) := ⟨b.toNat, by omega⟩
  have hgb : gb (strOfNums l) i = (bn : Nat) := by rw [gb_sn hb, List.getD_eq_getElem?_getD, hbb]; rfl
  refine aw_seq ?_
  (refine aw_ops (by kernel_rfl) (fun K hK => ?_); simp (disch := first | omega | (simp only [lnS]; try omega; done)) [-getElem?_pos, -getElem?_neg, h0, h4, h, hsz, hlt, hgb]; refine hK _ _ ?_; clear hK K)
  refine aw_seq ?_
  obtain ⟨m, hm⟩ : ∃ m : Nat, m = n * 128 + bn % 128 := ⟨_, rfl⟩
  have hmi : (n : Int) * 128 + (bn : Int) % 128 = (m : Nat) := by omega
  (refine aw_ops (by kernel_rfl) (fun K hK => ?_); simp (disch := first | omega | (simp only [lnS]; try omega; done)) [-getElem?_pos, -getElem?_neg, h3, hmi]; refine hK _ _ ?_; clear hK K)
  refine aw_seq ?_
  have hrc : rdN 5 0 l = if (i = 0 ∧ bn = 128) ∨ 4294967295 < m then (0, l.drop (i + 1), 4) else if bn < 128 then (m, l.drop (i + 1), 0) else rdN (c - 1) m (l.drop (i + 1)) := by
    obtain ⟨c', rfl⟩ : ∃ c', c = c' + 1 := ⟨c - 1, by omega⟩
    rw [hrd, rdN_cons hbb]
    have e1 : (n * 128 + ((bn : Nat) : Int).toNat % 128) = m := by rw [hm]; simp
    rw [e1]
    have e2 : (c' = 4 ∧ ((bn : Nat) : Int) = 128) ↔ (i = 0 ∧ bn = 128) := by omega
    have e3 : (((bn : Nat) : Int) < 128) ↔ bn < 128 := by omega
    simp only [e2, e3]
    rfl
  refine aw_seq ?_
  refine aw_cut (fun α G => α 49 = .bool (decide ((i = 0 ∧ bn = 128) ∨ 4294967295 < m ∨ (i = 4 ∧ 127 < bn))) ∧ α 0 = .pointer (some ⟨p, 0, none⟩) ∧ α 3 = .int .u64 (m : Nat) ∧ α 4 = .int .i64 (i : Nat) ∧ α 5 = .int .u8 (bn : Nat) ∧ G = G0) ?_ ?_
  · by_cases a1 : i = 0
    · by_cases a2 : bn = 128
      · have a2i : (bn : Int) = 128 := by omega
        (refine aw_ops (by kernel_rfl) (fun K hK => ?_); simp (disch := first | omega | (simp only [lnS]; try omega; done)) [-getElem?_pos, -getElem?_neg, h0, h3, h4, a1, a2, a2i]; refine hK _ _ ?_; clear hK K)
        exact ⟨by (first | (simp [put_at, put_none, fr0_at, a1, a2]; done) | rfl), by (first | (simp [put_at, put_none, fr0_at, h0]; done) | rfl), by (first | (simp [put_at, put_none, fr0_at, a2]; done) | rfl), by (first | (simp [put_at, put_none, fr0_at, h4, a1]; done) | rfl), by (first | (simp [put_at, put_none, fr0_at, a2]; done) | rfl), rfl⟩
      · have a2i : ¬ (bn : Int) = 128 := by omega
        by_cases a3 : 4294967295 < m
        · (refine aw_ops (by kernel_rfl) (fun K hK => ?_); simp (disch := first | omega | (simp only [lnS]; try omega; done)) [-getElem?_pos, -getElem?_neg, h0, h3, h4, a1, a2, a2i, a3]; refine hK _ _ ?_; clear hK K)
          exact ⟨by (first | (simp [put_at, put_none, fr0_at, a1, a2, a3]; done) | rfl), by (first | (simp [put_at, put_none, fr0_at, h0]; done) | rfl), by (first | (simp [put_at, put_none, fr0_at]; done) | rfl), by (first | (simp [put_at, put_none, fr0_at, h4, a1]; done) | rfl), by (first | (simp [put_at, put_none, fr0_at]; done) | rfl), rfl⟩
        · (refine aw_ops (by kernel_rfl) (fun K hK => ?_); simp (disch := first | omega | (simp only [lnS]; try omega; done)) [-getElem?_pos, -getElem?_neg, h0, h3, h4, a1, a2, a2i, a3]; refine hK _ _ ?_; clear hK K)
          exact ⟨by (first | (simp [put_at, put_none, fr0_at, a1, a2, a3]; done) | rfl), by (first | (simp [put_at, put_none, fr0_at, h0]; done) | rfl), by (first | (simp [put_at, put_none, fr0_at]; done) | rfl), by (first | (simp [put_at, put_none, fr0_at, h4, a1]; done) | rfl), by (first | (simp [put_at, put_none, fr0_at]; done) | rfl), rfl⟩
    · have a1i : ¬ (i : Int) = 0 := by omega
      by_cases a3 : 4294967295 < m
      · (refine aw_ops (by kernel_rfl) (fun K hK => ?_); simp (disch := first | omega | (simp only [lnS]; try omega; done)) [-getElem?_pos, -getElem?_neg, h0, h3, h4, a1, a1i, a3]; refine hK _ _ ?_; clear hK K)
        exact ⟨by (first | (simp [put_at, put_none, fr0_at, a1, a3]; done) | rfl), by (first | (simp [put_at, put_none, fr0_at, h0]; done) | rfl), by (first | (simp [put_at, put_none, fr0_at]; done) | rfl), by (first | (simp [put_at, put_none, fr0_at, h4]; done) | rfl), by (first | (simp [put_at, put_none, fr0_at]; done) | rfl), rfl⟩
      · by_cases a4 : i = 4
        · by_cases a5 : 127 < bn
          · (refine aw_ops (by kernel_rfl) (fun K hK => ?_); simp (disch := first | omega | (simp only [lnS]; try omega; done)) [-getElem?_pos, -getElem?_neg, h0, h3, h4, a1, a1i, a3, a4, a5]; refine hK _ _ ?_; clear hK K)
            exact ⟨by (first | (simp [put_at, put_none, fr0_at, a1, a3, a4, a5]; done) | rfl), by (first | (simp [put_at, put_none, fr0_at, h0]; done) | rfl), by (first | (simp [put_at, put_none, fr0_at]; done) | rfl), by (first | (simp [put_at, put_none, fr0_at, h4, a4]; done) | rfl), by (first | (simp [put_at, put_none, fr0_at]; done) | rfl), rfl⟩
          · (refine aw_ops (by kernel_rfl) (fun K hK => ?_); simp (disch := first | omega | (simp only [lnS]; try omega; done)) [-getElem?_pos, -getElem?_neg, h0, h3, h4, a1, a1i, a3, a4, a5]; refine hK _ _ ?_; clear hK K)
            exact ⟨by (first | (simp [put_at, put_none, fr0_at, a1, a3, a4, a5]; done) | rfl), by (first | (simp [put_at, put_none, fr0_at, h0]; done) | rfl), by (first | (simp [put_at, put_none, fr0_at]; done) | rfl), by (first | (simp [put_at, put_none, fr0_at, h4, a4]; done) | rfl), by (first | (simp [put_at, put_none, fr0_at]; done) | rfl), rfl⟩
        · have a4i : ¬ (i : Int) = 4 := by omega
          (refine aw_ops (by kernel_rfl) (fun K hK => ?_); simp (disch := first | omega | (simp only [lnS]; try omega; done)) [-getElem?_pos, -getElem?_neg, h0, h3, h4, a1, a1i, a3, a4, a4i]; refine hK _ _ ?_; clear hK K)
          exact ⟨by (first | (simp [put_at, put_none, fr0_at, a1, a3, a4]; done) | rfl), by (first | (simp [put_at, put_none, fr0_at, h0]; done) | rfl), by (first | (simp [put_at, put_none, fr0_at]; done) | rfl), by (first | (simp [put_at, put_none, fr0_at, h4]; done) | rfl), by (first | (simp [put_at, put_none, fr0_at]; done) | rfl), rfl⟩
  clear h0 h3 h4
  rintro α G ⟨h49, h0, h3, h4, h5, rfl⟩
  by_cases hbad : (i = 0 ∧ bn = 128) ∨ 4294967295 < m ∨ (i = 4 ∧ 127 < bn)
  · refine aw_t (by (first | (simp [eval_tmp, put_at, h49, hbad]; done) | (simp [eval_tmp, put_at, h49, hbad]; omega))) (by kernel_rfl) ?_
    refine aw_seq ?_
    (refine aw_ops (by kernel_rfl) (fun K hK => ?_); simp (disch := first | omega | (simp only [lnS]; try omega; done)) [-getElem?_pos, -getElem?_neg, h0, h]; refine hK _ _ ?_; clear hK K)
    refine aw_seq ?_
    (refine aw_ops (by kernel_rfl) (fun K hK => ?_); simp (disch := first | omega | (simp only [lnS]; try omega; done)) [-getElem?_pos, -getElem?_neg]; refine hK _ _ ?_; clear hK K)
    have e2 : rdNum l = (0, l, 4) := by
      have : (rdN 5 0 l).2.2 = 4 := by
        rw [hrc]
        by_cases q1 : (i = 0 ∧ bn = 128) ∨ 4294967295 < m
        · rw [if_pos q1]
        · rw [if_neg q1, if_neg (by omega), show c - 1 = 0 by omega]
          unfold rdN; rfl
      unfold rdNum
      rw [this]
      rfl
    (refine aw_ret ?_; simp (disch := first | omega | (simp only [lnS]; try omega; done)) [-getElem?_pos, -getElem?_neg, thenQ_ret, scopeQ_ret, inBlockQ_ret, RQ, resL, resV, e2])
  · refine aw_f (by (first | (simp [eval_tmp, put_at, h49, hbad]; done) | (simp [eval_tmp, put_at, h49, hbad]; omega))) (by kernel_rfl) ?_
    refine aw_skip ?_
    refine aw_seq ?_
    by_cases hlow : bn < 128
    · (refine aw_ops (by kernel_rfl) (fun K hK => ?_); simp (disch := first | omega | (simp only [lnS]; try omega; done)) [-getElem?_pos, -getElem?_neg, h5, hlow]; refine hK _ _ ?_; clear hK K)
      refine aw_t (by (first | (simp [eval_tmp, put_at]; done) | (simp [eval_tmp, put_at]; omega))) (by kernel_rfl) ?_
      refine aw_seq ?_
      have hex := ex_drop l (i + 1)
      (refine aw_ops (by kernel_rfl) (fun K hK => ?_); simp (disch := first | omega | (simp only [lnS]; try omega; done)) [-getElem?_pos, -getElem?_neg, h0, h4, h, hsz, hex]; refine hK _ _ ?_; clear hK K)
      refine aw_seq ?_
      (refine aw_ops (by kernel_rfl) (fun K hK => ?_); simp (disch := first | omega | (simp only [lnS]; try omega; done)) [-getElem?_pos, -getElem?_neg, h3]; refine hK _ _ ?_; clear hK K)
      have e2 : rdNum l = (m, l.drop (i + 1), 0) := by
        have : rdN 5 0 l = (m, l.drop (i + 1), 0) := by rw [hrc, if_neg (by omega), if_pos hlow]
        unfold rdNum
        rw [this]
        rfl
      (refine aw_ret ?_; simp (disch := first | omega | (simp only [lnS]; try omega; done)) [-getElem?_pos, -getElem?_neg, thenQ_ret, scopeQ_ret, inBlockQ_ret, RQ, resL, resV, e2])
    · (refine aw_ops (by kernel_rfl) (fun K hK => ?_); simp (disch := first | omega | (simp only [lnS]; try omega; done)) [-getElem?_pos, -getElem?_neg, h5, hlow]; refine hK _ _ ?_; clear hK K)
      refine aw_f (by (first | (simp [eval_tmp, put_at]; done) | (simp [eval_tmp, put_at]; omega))) (by kernel_rfl) ?_
      refine aw_skip ?_
      (refine aw_ops (by kernel_rfl) (fun K hK => ?_); simp (disch := first | omega | (simp only [lnS]; try omega; done)) [-getElem?_pos, -getElem?_neg, h4]; refine hK _ _ ?_; clear hK K)
      refine ⟨c - 1, by omega, i + 1, m, by omega, by omega, by omega, by omega, by (first | (simp [put_at, put_none, fr0_at, h0]; done) | rfl), by (first | (simp [put_at, put_none, fr0_at, h3]; done) | rfl), by (first | (simp [put_at, put_none, fr0_at]; done) | rfl), rfl, ?_⟩
      rw [hrc, if_neg (by omega), if_neg hlow]
theorem rstay_ac {H : AH} {γ : Nat → Option Nat} {nro p : Nat} {l was : List Int} {e : Int} (hp : nro ≤ p) (h : hget H p = some (rrC l e)) (he : e ≠ 0) :
    AC Tryz.prog nro γ 60 #[.pointer (some ⟨p, 0, none⟩), .string (strOfNums was)] H (fun v' H' => H' = H.set p (some (rrC was e))) := by
  have hpl := hget_lt h
  unfold rrC at h ⊢
  refine ac_of_aw Tryz.func60 rfl Tryz.ntmps60 Tryz.results60 (by simp) ?_
  refine aw_seq ?_
  (refine aw_ops (by kernel_rfl) (fun K hK => ?_); simp (disch := first | omega | (simp only [lnS]; try omega; done)) [-getElem?_pos, -getElem?_neg, h, he]; refine hK _ _ ?_; clear hK K)
  refine aw_t (by (first | (simp [eval_tmp, put_at, he]; done) | (simp [eval_tmp, put_at, he]; omega))) (by kernel_rfl) ?_
  (refine aw_ops (by kernel_rfl) (fun K hK => ?_); simp (disch := first | omega | (simp only [lnS]; try omega; done)) [-getElem?_pos, -getElem?_neg, h]; refine hK _ _ ?_; clear hK K)
  exact ⟨_, _, rfl, rfl, rfl⟩
/-- What the reference's count leaves: the number, what is left, the error. -/
def rfCount (most : Int) (l : List Int) : Nat × List Int × Int :=
  if (rdNum l).2.2 ≠ 0 then (0, l, (rdNum l).2.2) else if most < (rdNum l).1 then (0, (rdNum l).2.1, 5) else rdNum l
attribute [local irreducible] rdNum
theorem rcount_ac {H : AH} {γ : Nat → Option Nat} {nro p : Nat} {l : List Int} (hp : nro ≤ p) (h : hget H p = some (rrC l 0)) (hb : By l) (hl : l.length ≤ 1000000) :
    AC Tryz.prog nro γ 59 #[.pointer (some ⟨p, 0, none⟩), .int .i64 60000] H (fun v' H' => v' = .int .i64 ((rfCount 60000 l).1 : Nat) ∧ H' = H.set p (some (rrC (rfCount 60000 l).2.1 (rfCount 60000 l).2.2))) := by
  have hnum := rnum_ac (γ := γ) hp h hb hl
  have hpl := hget_lt h
  obtain ⟨n, l2, e, hr⟩ : ∃ n l2 e, rdNum l = (n, l2, e) := ⟨_, _, _, rfl⟩
  have hv := rdNum_val (l := l)
  have hbad := rdNum_bad (l := l)
  have hc : rfCount 60000 l = if e ≠ 0 then (0, l, e) else if (60000 : Int) < n then (0, l2, 5) else (n, l2, e) := by unfold rfCount; rw [hr]
  rw [hr] at hnum hv hbad
  simp only at hnum hv hbad
  unfold rrC at h hnum ⊢
  refine ac_of_aw Tryz.func59 rfl Tryz.ntmps59 Tryz.results59 (by simp) ?_
  refine aw_seq ?_
  (refine aw_ops (by kernel_rfl) (fun K hK => ?_); simp (disch := first | omega | (simp only [lnS]; try omega; done)) [-getElem?_pos, -getElem?_neg]; refine hK _ _ ?_; clear hK K)
  refine aw_seq ?_
  refine aw_ops (by kernel_rfl) (fun K hK => ?_)
  simp (disch := first | omega | (simp only [lnS]; try omega; done)) [-getElem?_pos, -getElem?_neg]
  refine ⟨by kernel_rfl, AC.mono hnum ?_⟩
  rintro _ G ⟨rfl, rfl⟩
  try simp (disch := first | omega | (simp only [lnS]; try omega; done)) [-getElem?_pos, -getElem?_neg]
  refine hK _ _ ?_; clear hK K
  obtain ⟨G, hGe⟩ : ∃ G : AH, G = H.set p (some ⟨[.string (strOfNums l2), .int .i64 e], 77, none⟩) := ⟨_, rfl⟩
  have hGp : hget G p = some ⟨[.string (strOfNums l2), .int .i64 e], 77, none⟩ := by rw [hGe, hget_set_eq hpl]
  have hGl : G.length = H.length := by rw [hGe]; simp
  rw [← hGe]
  refine aw_seq ?_
  refine aw_seq ?_
  (refine aw_ops (by kernel_rfl) (fun K hK => ?_); simp (disch := first | omega | (simp only [lnS]; try omega; done)) [-getElem?_pos, -getElem?_neg]; refine hK _ _ ?_; clear hK K)
  refine aw_f (by (first | (simp [eval_tmp, put_at]; done) | (simp [eval_tmp, put_at]; omega))) (by kernel_rfl) ?_
  refine aw_skip ?_
  refine aw_seq ?_
  refine aw_seq ?_
  by_cases he : e = 0
  · subst he
    rw [if_neg (by simp)] at hc
    by_cases hm : (60000 : Int) < n
    · rw [if_pos hm] at hc
      have hmn : 60000 < n := by omega
      (refine aw_ops (by kernel_rfl) (fun K hK => ?_); simp (disch := first | omega | (simp only [lnS]; try omega; done)) [-getElem?_pos, -getElem?_neg, hGp, hm, hmn]; refine hK _ _ ?_; clear hK K)
      refine aw_t (by (first | (simp [eval_tmp, put_at, hm, hmn]; done) | (simp [eval_tmp, put_at, hm, hmn]; omega))) (by kernel_rfl) ?_
      have hGpl := hget_lt hGp
      (refine aw_ops (by kernel_rfl) (fun K hK => ?_); simp (disch := first | omega | (simp only [lnS]; try omega; done)) [-getElem?_pos, -getElem?_neg, hGp]; refine hK _ _ ?_; clear hK K)
      refine aw_seq ?_
      refine aw_seq ?_
      (refine aw_ops (by kernel_rfl) (fun K hK => ?_); simp (disch := first | omega | (simp only [lnS]; try omega; done)) [-getElem?_pos, -getElem?_neg]; refine hK _ _ ?_; clear hK K)
      refine aw_t (by (first | (simp [eval_tmp, put_at]; done) | (simp [eval_tmp, put_at]; omega))) (by kernel_rfl) ?_
      refine aw_seq ?_
      (refine aw_ops (by kernel_rfl) (fun K hK => ?_); simp (disch := first | omega | (simp only [lnS]; try omega; done)) [-getElem?_pos, -getElem?_neg]; refine hK _ _ ?_; clear hK K)
      (refine aw_ret ?_; simp (disch := first | omega | (simp only [lnS]; try omega; done)) [-getElem?_pos, -getElem?_neg, thenQ_ret, scopeQ_ret, inBlockQ_ret, RQ, resL, resV, hc])
      rw [hGe, List.set_set]
    · rw [if_neg hm] at hc
      have hmn : ¬ 60000 < n := by omega
      (refine aw_ops (by kernel_rfl) (fun K hK => ?_); simp (disch := first | omega | (simp only [lnS]; try omega; done)) [-getElem?_pos, -getElem?_neg, hGp, hm, hmn]; refine hK _ _ ?_; clear hK K)
      refine aw_f (by (first | (simp [eval_tmp, put_at, hm, hmn]; done) | (simp [eval_tmp, put_at, hm, hmn]; omega))) (by kernel_rfl) ?_
      refine aw_skip ?_
      refine aw_seq ?_
      refine aw_seq ?_
      (refine aw_ops (by kernel_rfl) (fun K hK => ?_); simp (disch := first | omega | (simp only [lnS]; try omega; done)) [-getElem?_pos, -getElem?_neg, hGp]; refine hK _ _ ?_; clear hK K)
      refine aw_f (by (first | (simp [eval_tmp, put_at]; done) | (simp [eval_tmp, put_at]; omega))) (by kernel_rfl) ?_
      refine aw_skip ?_
      refine aw_seq ?_
      (refine aw_ops (by kernel_rfl) (fun K hK => ?_); simp (disch := first | omega | (simp only [lnS]; try omega; done)) [-getElem?_pos, -getElem?_neg]; refine hK _ _ ?_; clear hK K)
      (refine aw_ret ?_; simp (disch := first | omega | (simp only [lnS]; try omega; done)) [-getElem?_pos, -getElem?_neg, thenQ_ret, scopeQ_ret, inBlockQ_ret, RQ, resL, resV, hc])
      exact hGe
  · rw [if_pos he] at hc
    have := hbad he
    cases this
    (refine aw_ops (by kernel_rfl) (fun K hK => ?_); simp (disch := first | omega | (simp only [lnS]; try omega; done)) [-getElem?_pos, -getElem?_neg, hGp, he]; refine hK _ _ ?_; clear hK K)
    refine aw_f (by (first | (simp [eval_tmp, put_at, he]; done) | (simp [eval_tmp, put_at, he]; omega))) (by kernel_rfl) ?_
    refine aw_skip ?_
    refine aw_seq ?_
    refine aw_seq ?_
    (refine aw_ops (by kernel_rfl) (fun K hK => ?_); simp (disch := first | omega | (simp only [lnS]; try omega; done)) [-getElem?_pos, -getElem?_neg, hGp, he]; refine hK _ _ ?_; clear hK K)
    refine aw_t (by (first | (simp [eval_tmp, put_at, he]; done) | (simp [eval_tmp, put_at, he]; omega))) (by kernel_rfl) ?_
    refine aw_seq ?_
    (refine aw_ops (by kernel_rfl) (fun K hK => ?_); simp (disch := first | omega | (simp only [lnS]; try omega; done)) [-getElem?_pos, -getElem?_neg]; refine hK _ _ ?_; clear hK K)
    (refine aw_ret ?_; simp (disch := first | omega | (simp only [lnS]; try omega; done)) [-getElem?_pos, -getElem?_neg, thenQ_ret, scopeQ_ret, inBlockQ_ret, RQ, resL, resV, hc])
    exact hGe
attribute [local irreducible] rfCount
theorem rfCount_text {l : List Int} : rdText 60000 l = if (rfCount 60000 l).2.2 ≠ 0 then ([], l, (rfCount 60000 l).2.2) else if (rfCount 60000 l).2.1.length < (rfCount 60000 l).1 then ([], l, 3) else ((rfCount 60000 l).2.1.take (rfCount 60000 l).1, (rfCount 60000 l).2.1.drop (rfCount 60000 l).1, 0) := by
  with_unfolding_all unfold rdText rdCount rfCount
  have hm : max (60000 : Int) 0 = 60000 := by omega
  rw [hm]
  by_cases h1 : (rdNum l).2.2 ≠ 0
  · simp only [if_pos h1]
  · simp only [if_neg h1]
    by_cases h2 : (60000 : Int) < (rdNum l).1
    · simp [if_pos h2]
    · simp only [if_neg h2]
theorem rfCount_by {l : List Int} (h : By l) : By (rfCount 60000 l).2.1 ∧ (rfCount 60000 l).2.1.length ≤ l.length ∧ (rfCount 60000 l).1 ≤ 4294967295 := by
  with_unfolding_all unfold rfCount
  have h1 := rdNum_by h
  have h2 := rdNum_val (l := l)
  split
  · exact ⟨h, Nat.le_refl _, by simp⟩
  · split
    · exact ⟨h1.1, h1.2, by simp⟩
    · exact ⟨h1.1, h1.2, h2⟩
theorem rtext_ac {H : AH} {γ : Nat → Option Nat} {nro p : Nat} {l : List Int} (hp : nro ≤ p) (h : hget H p = some (rrC l 0)) (hb : By l) (hl : l.length ≤ 1000000) :
    AC Tryz.prog nro γ 35 #[.pointer (some ⟨p, 0, none⟩), .int .i64 60000] H (fun v' H' => v' = .string (strOfNums (rdText 60000 l).1) ∧ H' = H.set p (some (rrC (rdText 60000 l).2.1 (rdText 60000 l).2.2))) := by
  have hct := rcount_ac (γ := γ) hp h hb hl
  have hpl := hget_lt h
  have htx := rfCount_text (l := l)
  have hby := rfCount_by hb
  obtain ⟨n, l2, e, hr⟩ : ∃ n l2 e, rfCount 60000 l = (n, l2, e) := ⟨_, _, _, rfl⟩
  rw [hr] at hct htx hby
  simp only at hct htx hby
  have hs2 := sn_size l2
  unfold rrC at h hct ⊢
  refine ac_of_aw Tryz.func35 rfl Tryz.ntmps35 Tryz.results35 (by simp) ?_
  refine aw_seq ?_
  (refine aw_ops (by kernel_rfl) (fun K hK => ?_); simp (disch := first | omega | (simp only [lnS]; try omega; done)) [-getElem?_pos, -getElem?_neg]; refine hK _ _ ?_; clear hK K)
  refine aw_seq ?_
  (refine aw_ops (by kernel_rfl) (fun K hK => ?_); simp (disch := first | omega | (simp only [lnS]; try omega; done)) [-getElem?_pos, -getElem?_neg, h]; refine hK _ _ ?_; clear hK K)
  refine aw_seq ?_
  refine aw_ops (by kernel_rfl) (fun K hK => ?_)
  simp (disch := first | omega | (simp only [lnS]; try omega; done)) [-getElem?_pos, -getElem?_neg]
  refine ⟨by kernel_rfl, AC.mono hct ?_⟩
  rintro _ G ⟨rfl, rfl⟩
  try simp (disch := first | omega | (simp only [lnS]; try omega; done)) [-getElem?_pos, -getElem?_neg]
  refine hK _ _ ?_; clear hK K
  obtain ⟨G, hGe⟩ : ∃ G : AH, G = H.set p (some ⟨[.string (strOfNums l2), .int .i64 e], 77, none⟩) := ⟨_, rfl⟩
  have hGp : hget G p = some ⟨[.string (strOfNums l2), .int .i64 e], 77, none⟩ := by rw [hGe, hget_set_eq hpl]
  have hGpl := hget_lt hGp
  rw [← hGe]
  refine aw_seq ?_
  refine aw_seq ?_
  by_cases he : e = 0
  · subst he
    rw [if_neg (by simp)] at htx
    by_cases hm : l2.length < n
    · rw [if_pos hm] at htx
      (refine aw_ops (by kernel_rfl) (fun K hK => ?_); simp (disch := first | omega | (simp only [lnS]; try omega; done)) [-getElem?_pos, -getElem?_neg, hGp, hs2, hm]; refine hK _ _ ?_; clear hK K)
      refine aw_t (by (first | (simp [eval_tmp, put_at, hm]; done) | (simp [eval_tmp, put_at, hm]; omega))) (by kernel_rfl) ?_
      (refine aw_ops (by kernel_rfl) (fun K hK => ?_); simp (disch := first | omega | (simp only [lnS]; try omega; done)) [-getElem?_pos, -getElem?_neg, hGp]; refine hK _ _ ?_; clear hK K)
      have hst := rstay_ac (γ := γ) (nro := nro) (was := l) (e := 3) (l := l2) (H := G.set p (some ⟨[.string (strOfNums l2), .int .i64 3], 77, none⟩)) hp (by rw [hget_set_eq hGpl]; rfl) (by omega)
      refine aw_seq ?_
      refine aw_seq ?_
      (refine aw_ops (by kernel_rfl) (fun K hK => ?_); simp (disch := first | omega | (simp only [lnS]; try omega; done)) [-getElem?_pos, -getElem?_neg]; refine hK _ _ ?_; clear hK K)
      refine aw_t (by (first | (simp [eval_tmp, put_at]; done) | (simp [eval_tmp, put_at]; omega))) (by kernel_rfl) ?_
      refine aw_seq ?_
      refine aw_ops (by kernel_rfl) (fun K hK => ?_)
      simp (disch := first | omega | (simp only [lnS]; try omega; done)) [-getElem?_pos, -getElem?_neg]
      refine ⟨by kernel_rfl, AC.mono hst ?_⟩
      rintro _ G2 rfl
      try simp (disch := first | omega | (simp only [lnS]; try omega; done)) [-getElem?_pos, -getElem?_neg]
      refine hK _ _ ?_; clear hK K
      refine aw_seq ?_
      (refine aw_ops (by kernel_rfl) (fun K hK => ?_); simp (disch := first | omega | (simp only [lnS]; try omega; done)) [-getElem?_pos, -getElem?_neg]; refine hK _ _ ?_; clear hK K)
      (refine aw_ret ?_; simp (disch := first | omega | (simp only [lnS]; try omega; done)) [-getElem?_pos, -getElem?_neg, thenQ_ret, scopeQ_ret, inBlockQ_ret, RQ, resL, resV, htx])
      rw [hGe]
      simp [rrC]
      rfl
    · rw [if_neg hm] at htx
      (refine aw_ops (by kernel_rfl) (fun K hK => ?_); simp (disch := first | omega | (simp only [lnS]; try omega; done)) [-getElem?_pos, -getElem?_neg, hGp, hs2, hm]; refine hK _ _ ?_; clear hK K)
      refine aw_f (by (first | (simp [eval_tmp, put_at, hm]; done) | (simp [eval_tmp, put_at, hm]; omega))) (by kernel_rfl) ?_
      refine aw_skip ?_
      refine aw_seq ?_
      refine aw_seq ?_
      (refine aw_ops (by kernel_rfl) (fun K hK => ?_); simp (disch := first | omega | (simp only [lnS]; try omega; done)) [-getElem?_pos, -getElem?_neg, hGp]; refine hK _ _ ?_; clear hK K)
      refine aw_f (by (first | (simp [eval_tmp, put_at]; done) | (simp [eval_tmp, put_at]; omega))) (by kernel_rfl) ?_
      refine aw_skip ?_
      refine aw_seq ?_
      have x1 := ex_take l2 n
      have x2 := ex_drop l2 n
      (refine aw_ops (by kernel_rfl) (fun K hK => ?_); simp (disch := first | omega | (simp only [lnS]; try omega; done)) [-getElem?_pos, -getElem?_neg, hGp, hs2, x1]; refine hK _ _ ?_; clear hK K)
      refine aw_seq ?_
      (refine aw_ops (by kernel_rfl) (fun K hK => ?_); simp (disch := first | omega | (simp only [lnS]; try omega; done)) [-getElem?_pos, -getElem?_neg, hGp, hs2, x2]; refine hK _ _ ?_; clear hK K)
      refine aw_seq ?_
      (refine aw_ops (by kernel_rfl) (fun K hK => ?_); simp (disch := first | omega | (simp only [lnS]; try omega; done)) [-getElem?_pos, -getElem?_neg]; refine hK _ _ ?_; clear hK K)
      (refine aw_ret ?_; simp (disch := first | omega | (simp only [lnS]; try omega; done)) [-getElem?_pos, -getElem?_neg, thenQ_ret, scopeQ_ret, inBlockQ_ret, RQ, resL, resV, htx])
      rw [hGe]
      simp
  · rw [if_pos he] at htx
    (refine aw_ops (by kernel_rfl) (fun K hK => ?_); simp (disch := first | omega | (simp only [lnS]; try omega; done)) [-getElem?_pos, -getElem?_neg, hGp, he]; refine hK _ _ ?_; clear hK K)
    refine aw_f (by (first | (simp [eval_tmp, put_at, he]; done) | (simp [eval_tmp, put_at, he]; omega))) (by kernel_rfl) ?_
    refine aw_skip ?_
    refine aw_seq ?_
    refine aw_seq ?_
    (refine aw_ops (by kernel_rfl) (fun K hK => ?_); simp (disch := first | omega | (simp only [lnS]; try omega; done)) [-getElem?_pos, -getElem?_neg, hGp, he]; refine hK _ _ ?_; clear hK K)
    refine aw_t (by (first | (simp [eval_tmp, put_at, he]; done) | (simp [eval_tmp, put_at, he]; omega))) (by kernel_rfl) ?_
    have hst := rstay_ac (γ := γ) (nro := nro) (was := l) (e := e) (l := l2) (H := G) hp hGp he
    refine aw_seq ?_
    refine aw_ops (by kernel_rfl) (fun K hK => ?_)
    simp (disch := first | omega | (simp only [lnS]; try omega; done)) [-getElem?_pos, -getElem?_neg]
    refine ⟨by kernel_rfl, AC.mono hst ?_⟩
    rintro _ G2 rfl
    try simp (disch := first | omega | (simp only [lnS]; try omega; done)) [-getElem?_pos, -getElem?_neg]
    refine hK _ _ ?_; clear hK K
    refine aw_seq ?_
    (refine aw_ops (by kernel_rfl) (fun K hK => ?_); simp (disch := first | omega | (simp only [lnS]; try omega; done)) [-getElem?_pos, -getElem?_neg]; refine hK _ _ ?_; clear hK K)
    (refine aw_ret ?_; simp (disch := first | omega | (simp only [lnS]; try omega; done)) [-getElem?_pos, -getElem?_neg, thenQ_ret, scopeQ_ret, inBlockQ_ret, RQ, resL, resV, htx])
    rw [hGe]
    simp [rrC]
    rfl
end
section
/-- A journal of the reference, where it lies. -/
structure RJ (H : AH) (q d : Nat) (rv : Value) (FR : List Nat) (J : JM) : Prop where
  hq : hget H q = some ⟨[.pointer (some ⟨d, 0, none⟩), .int .i64 (J.area : Nat), rv], 51, none⟩
  hr : OwnF H rv 9 1 (J.recs.map .string) FR
  qr : q ∉ FR
def ROpenQ (H : AH) (d : Nat) (o : Option JM × Int) (v' : Value) (H' : AH) : Prop :=
  Low H.length H H' ∧ match o with
    | (none, e) => v' = .tuple #[.pointer none, .int .i64 e]
    | (some J, e) => ∃ q rv FR, v' = .tuple #[.pointer (some ⟨q, 0, none⟩), .int .i64 e] ∧ RJ H' q d rv FR J ∧ H.length ≤ q ∧ ∀ j ∈ FR, H.length ≤ j
theorem recsR_nil {f : Nat} {acc : List ByteArray} : recsR f [] acc = some acc := by
  cases f <;> simp [recsR]
attribute [local irreducible] markL catK rdText openJ
attribute [local simp] wb_bool wb_undef XL_nil XL_cons XLc_val XLc_call step1_eq stepW_t stepW_f stepC_n stepC_s stepX_s stepX_n stepN_s calleeX oneV xop_eq xopR_s xopR_n wantedA_eq wantedG_n wantedG_s plain1_int plain1_bool plain1_string bits_i64 bits_u64 bits_u32 bits_u16 bits_u8 xeqA xagg xcmp xarr allK_iv num_iv calleeOf xread xeff xbin xint xnil xun xstr xload xconv xpart xfield xfieldAddr xindexAddr xindex bnd asInt? xslice xlen xmin xmax xbuild xfill xappend xapp2 xappstr xappmk xcap xcopy xcells eval_tmp eval_const put_at put_none fr0_at cells_agg cells_int cells_bool cells_string cells_ptr cells_slice notTuple tab iv_all hget_app hget_app0 hget_cons0 hget_cons set_app set_app0 setR setR_one QL_nil QL_cons QLc_val stepQ_t stepQ_f stepQC_n stepQC_s stepQX_s SL_nil SL_cons SLc_val stepS_t stepS_f ltT ltF leT leF eqT eqF ltTn ltFn leTn leFn eqTn eqFn beqT beqF bneT bneF wi64 wu64 wu32 wu16 wu8 tmodP tdivP hgetL hgetNe hgetEq setL nums_def nums_len Nat.succ_le_of_lt List.getElem?_cons_zero List.getElem?_cons_succ Option.getD_some Int.toNat_add Int.toNat_mul agB agI agS agP agL agA okB okI okS okP okSl okA
theorem ropen_ac {nro : Nat} {H : AH} {γ : Nat → Option Nat} (hnl : nro ≤ H.length) {d : Nat} {FD : List Nat} {D : DM} (hd : Rk H d FD D) :
    AC Tryz.prog nro γ 9 #[.pointer (some ⟨d, 0, none⟩)] H (ROpenQ H d (openJ D)) := by
  have h1 := hd.1.one
  have h2 := hd.1.most
  have hlate : ∀ r ∈ D.late, r.size = 256 := late_rows hd.1.rows (fun w hw => (hd.1.uns w hw).2)
  have hll : D.late.length = D.firm.length := late_len _ _
  have hopen : openJ D = openJ D := rfl
  generalize ho : openJ D = o at hopen ⊢
  unfold openJ at ho
  have hdl : ∀ j ∈ FD, j < H.length := hd.lt
  have hrd : ∀ (G : AH) (k : Nat), (∀ j ∈ FD, hget G j = hget H j) → k < D.firm.length → AC Tryz.prog nro γ 31 #[.pointer (some ⟨d, 0, none⟩), .int .i64 (k : Nat)] G (fun v' H' => v' = .string (D.late.getD k ⟨#[]⟩) ∧ H' = G) := by
    intro G k hG hk
    have := rread_ac (nro := nro) (γ := γ) (hd.low hG) hd.1.few hk
    have e : readV D.late (k : Nat) = D.late.getD k ⟨#[]⟩ := by
      unfold readV
      rw [if_pos (by simp [hasB]; omega)]
      simp
    rw [e] at this
    exact this
  have hhalf : ∀ (G : AH), (∀ j ∈ FD, hget G j = hget H j) → AC Tryz.prog G.length γ 34 #[.pointer (some ⟨d, 0, none⟩)] G (fun v' _ => v' = .int .i64 (((D.firm.length - 1) / 2 : Nat) : Int)) := fun G hG => rhalf_rc (hd.low hG)
  obtain ⟨f, A, B, FA, FB, hFD, hR⟩ := hd.2
  have hq := hR.hq
  refine ac_of_aw Tryz.func9 rfl Tryz.ntmps9 Tryz.results9 (by simp) ?_
  refine aw_seq ?_
  (refine aw_ops (by kernel_rfl) (fun K hK => ?_); simp (disch := first | omega | (simp only [lnS]; try omega; done)) [-getElem?_pos, -getElem?_neg]; refine hK _ _ ?_; clear hK K)
  refine aw_seq ?_
  refine aw_seq ?_
  by_cases hs3 : D.firm.length < 3
  · rw [if_pos hs3] at ho
    (refine aw_ops (by kernel_rfl) (fun K hK => ?_); simp (disch := first | omega | (simp only [lnS]; try omega; done)) [-getElem?_pos, -getElem?_neg, hq, hs3]; refine hK _ _ ?_; clear hK K)
    refine aw_t (by (first | (simp [eval_tmp, put_at]; done) | (simp [eval_tmp, put_at]; omega))) (by kernel_rfl) ?_
    refine aw_seq ?_
    (refine aw_ops (by kernel_rfl) (fun K hK => ?_); simp (disch := first | omega | (simp only [lnS]; try omega; done)) [-getElem?_pos, -getElem?_neg]; refine hK _ _ ?_; clear hK K)
    (refine aw_ret ?_; simp (disch := first | omega | (simp only [lnS]; try omega; done)) [-getElem?_pos, -getElem?_neg, thenQ_ret, scopeQ_ret, inBlockQ_ret, RQ, resL, resV])
    subst ho
    exact ⟨Low.refl (Nat.le_refl _), rfl⟩
  rw [if_neg hs3] at ho
  (refine aw_ops (by kernel_rfl) (fun K hK => ?_); simp (disch := first | omega | (simp only [lnS]; try omega; done)) [-getElem?_pos, -getElem?_neg, hq, hs3]; refine hK _ _ ?_; clear hK K)
  refine aw_f (by (first | (simp [eval_tmp, put_at]; done) | (simp [eval_tmp, put_at]; omega))) (by kernel_rfl) ?_
  refine aw_skip ?_
  have hrs : (D.late.getD 0 ⟨#[]⟩).size = 256 := by
    rw [List.getD_eq_getElem?_getD, List.getElem?_eq_getElem (by omega)]
    exact hlate _ (List.getElem_mem _)
  have hF : firstL D = (nums (D.late.getD 0 ⟨#[]⟩)).take 64 := rfl
  have hrd0 := hrd H 0 (fun _ _ => rfl) (by omega)
  generalize D.late.getD 0 ⟨#[]⟩ = r at *
  have hx : r.extract 0 64 = strOfNums (firstL D) := by rw [hF, ← ex_take, of_nums']
  have hFl : (firstL D).length = 64 := by rw [hF, List.length_take, nums_len, hrs]; rfl
  have hFb : By (firstL D) := by
    rw [hF]
    exact By.take (fun x hx => nums_bd r x hx) 64
  clear hF
  generalize firstL D = F at *
  refine aw_seq ?_
  refine aw_ops (by kernel_rfl) (fun K hK => ?_)
  simp (disch := first | omega | (simp only [lnS]; try omega; done)) [-getElem?_pos, -getElem?_neg]
  refine ⟨by kernel_rfl, AC.mono (by simpa using hrd0) ?_⟩
  rintro _ G ⟨rfl, e⟩
  rw [e]
  clear e G
  simp (disch := first | omega | (simp only [lnS]; try omega; done)) [-getElem?_pos, -getElem?_neg, hrs, hx]
  refine hK _ _ ?_; clear hK K
  refine aw_seq ?_
  refine aw_seq ?_
  have hz64 := rfilled_rc (γ := γ) (H := H) [] 64 (by omega) (by simp)
  have e64 : rfill [] 64 = zl 64 := by simp [rfill]
  have es : strOfNums [] = ⟨#[]⟩ := rfl
  rw [e64, es] at hz64
  have he := sn_eq hFb (zl_by 64)
  refine aw_ops (by kernel_rfl) (fun K hK => ?_)
  simp (disch := first | omega | (simp only [lnS]; try omega; done)) [-getElem?_pos, -getElem?_neg]
  refine ⟨by kernel_rfl, ac_of_rc hz64 (by simp [pv_iv, pv_int, pv_bool, pv_string, pv_tup2, pv_tup3, iv_plain, p2_int, p2_bool, p2_string]) ?_⟩
  by_cases hz : F = zl 64
  · rw [if_pos hz] at ho
    simp (disch := first | omega | (simp only [lnS]; try omega; done)) [-getElem?_pos, -getElem?_neg, he, hz]
    refine hK _ _ ?_; clear hK K
    refine aw_t (by (first | (simp [eval_tmp, put_at]; done) | (simp [eval_tmp, put_at]; omega))) (by kernel_rfl) ?_
    refine aw_seq ?_
    have r3 : List.range 3 = [0, 1, 2] := rfl
    (refine aw_ops (by kernel_rfl) (fun K hK => ?_); simp (disch := first | omega | (simp only [lnS]; try omega; done)) [-getElem?_pos, -getElem?_neg, r3, plain_nil]; refine hK _ _ ?_; clear hK K)
    (refine aw_ret ?_; simp (disch := first | omega | (simp only [lnS]; try omega; done)) [-getElem?_pos, -getElem?_neg, thenQ_ret, scopeQ_ret, inBlockQ_ret, RQ, resL, resV])
    subst ho
    exact ⟨Low.push (Nat.le_refl _) _, H.length, .slice none 0 0, [], rfl, ⟨by rw [hget_app0]; rfl, .inl ⟨rfl, rfl, rfl⟩, by simp⟩, Nat.le_refl _, by simp⟩
  rw [if_neg hz] at ho
  have hb : ((strOfNums F).toList == (strOfNums (zl 64)).toList) = false := by
    rw [beq_eq_false_iff_ne]
    exact fun h => hz (he.1 h)
  simp (disch := first | omega | (simp only [lnS]; try omega; done)) [-getElem?_pos, -getElem?_neg, he, hz, hb]
  refine hK _ _ ?_; clear hK K
  refine aw_f (by (first | (simp [eval_tmp, put_at]; done) | (simp [eval_tmp, put_at]; omega))) (by kernel_rfl) ?_
  refine aw_skip ?_
  have hsF : (strOfNums F).size = 64 := by rw [sn_size, hFl]
  have hgd : ∀ k, 0 ≤ F.getD k 0 ∧ F.getD k 0 ≤ 255 := fun k => by
    rw [List.getD_eq_getElem?_getD]
    cases hk : F[k]? with
    | none => simp
    | some x => have := hFb x (List.mem_of_getElem? hk); simpa using this
  have g4 := gb_sn hFb 4
  have g5 := gb_sn hFb 5
  have g6 := gb_sn hFb 6
  have g7 := gb_sn hFb 7
  have g8 := gb_sn hFb 8
  have hAd : mArea F = (F.getD 4 0).toNat := rfl
  have hSd : mSize F = (F.getD 5 0 * 16777216 + F.getD 6 0 * 65536 + F.getD 7 0 * 256 + F.getD 8 0).toNat := rfl
  have b4 := hgd 4
  have b5 := hgd 5
  have b6 := hgd 6
  have b7 := hgd 7
  have b8 := hgd 8
  have hMk : isMark F = (decide (mArea F < 2) && decide (markL (mArea F) (mSize F) = F)) := rfl
  generalize F.getD 4 0 = f4 at *
  generalize F.getD 5 0 = f5 at *
  generalize F.getD 6 0 = f6 at *
  generalize F.getD 7 0 = f7 at *
  generalize F.getD 8 0 = f8 at *
  generalize mArea F = a at *
  generalize mSize F = n at *
  generalize isMark F = M at *
  have ha4 : f4 = (a : Nat) := by omega
  have hn4 : f5 * 16777216 + f6 * 65536 + f7 * 256 + f8 = (n : Nat) := by omega
  have ha255 : a ≤ 255 := by omega
  have hn32 : n < 4294967296 := by omega
  refine aw_seq ?_
  (refine aw_ops (by kernel_rfl) (fun K hK => ?_); simp (disch := first | omega | (simp only [lnS]; try omega; done)) [-getElem?_pos, -getElem?_neg, hsF, g4, ha4]; refine hK _ _ ?_; clear hK K)
  refine aw_seq ?_
  (refine aw_plan [] [] [0, 1, 2, 3, 4, 5, 6, 7, 8, 9, 10, 11, 12, 13, 14, 15, 16, 17, 18] 19 0 (by kernel_rfl) (by kernel_rfl) (by kernel_rfl) (fun K hK => ?_)); simp only [sel, List.getElem?_cons_succ, List.getElem?_cons_zero, List.drop_succ_cons, List.drop_zero]; simp (disch := first | omega | (simp only [lnS]; try omega; done)) [-getElem?_pos, -getElem?_neg, hsF, g5, g6, g7, g8, hn4, PL_nil, PL_cons, PLc_val, PLc_new, stepP_t, stepP_f, stepPC_n, stepPC_s, stepPX_s, stepPX_n, stepPA_t, stepPA_c, stepPA_l, stepPN_s, allocOp, reloc_sl, reloc_ptr, List.map_cons, List.map_nil, List.nil_append, List.append_assoc, List.cons_append, Nat.add_assoc]
  refine hK _ _ ?_; clear hK K
  obtain ⟨Hf, hHf⟩ : ∃ Hf, Hf = (D.firm.length - 1) / 2 := ⟨_, rfl⟩
  have hhalf0 := hhalf H (fun _ _ => rfl)
  rw [← hHf] at ho hhalf0
  have hHfb : Hf ≤ 512 := by omega
  refine aw_seq ?_
  refine aw_seq ?_
  refine aw_cut (fun α G => α 63 = .bool (decide (1 < a ∨ markL a n ≠ F ∨ Hf * 256 < n)) ∧ H = G ∧ α 0 = .pointer (some ⟨d, 0, none⟩) ∧ α 5 = .int .i64 (a : Nat) ∧ α 6 = .int .i64 (n : Nat)) ?_ ?_
  · by_cases c1 : 1 < a
    · (refine aw_ops (by kernel_rfl) (fun K hK => ?_); simp (disch := first | omega | (simp only [lnS]; try omega; done)) [-getElem?_pos, -getElem?_neg, c1]; refine hK _ _ ?_; clear hK K)
      exact ⟨by (first | (simp [put_at, put_none, fr0_at, c1]; done) | rfl), rfl, by (first | (simp [put_at, put_none, fr0_at]; done) | rfl), by (first | (simp [put_at, put_none, fr0_at]; done) | rfl), by (first | (simp [put_at, put_none, fr0_at]; done) | rfl)⟩
    · have hmk := rmark_rc (γ := γ) (H := H) a n ha255 hn32
      have hml := markL_by a n
      generalize markL a n = Mk at *
      have heq := sn_eq hFb hml
      refine aw_ops (by kernel_rfl) (fun K hK => ?_)
      simp (disch := first | omega | (simp only [lnS]; try omega; done)) [-getElem?_pos, -getElem?_neg, c1]
      refine ⟨by kernel_rfl, ac_of_rc hmk (by simp [pv_iv, pv_int, pv_bool, pv_string, pv_tup2, pv_tup3, iv_plain, p2_int, p2_bool, p2_string]) ?_⟩
      by_cases c2 : F = Mk
      · have hbq : ((strOfNums F).toList == (strOfNums Mk).toList) = true := by rw [c2]; simp
        simp (disch := first | omega | (simp only [lnS]; try omega; done)) [-getElem?_pos, -getElem?_neg, heq, c2, hbq]
        refine ⟨by kernel_rfl, ac_of_rc hhalf0 (by simp [pv_iv, pv_int, pv_bool, pv_string, pv_tup2, pv_tup3, iv_plain, p2_int, p2_bool, p2_string]) ?_⟩
        by_cases c3 : Hf * 256 < n
        · have c3i : (Hf : Int) * 256 < (n : Nat) := by omega
          simp (disch := first | omega | (simp only [lnS]; try omega; done)) [-getElem?_pos, -getElem?_neg, c3, c3i]
          refine hK _ _ ?_; clear hK K
          exact ⟨by (first | (simp [put_at, put_none, fr0_at, c2, c3]; done) | rfl), rfl, by (first | (simp [put_at, put_none, fr0_at]; done) | rfl), by (first | (simp [put_at, put_none, fr0_at]; done) | rfl), by (first | (simp [put_at, put_none, fr0_at]; done) | rfl)⟩
        · have c3i : ¬ (Hf : Int) * 256 < (n : Nat) := by omega
          simp (disch := first | omega | (simp only [lnS]; try omega; done)) [-getElem?_pos, -getElem?_neg, c3, c3i]
          refine hK _ _ ?_; clear hK K
          exact ⟨by (first | (simp [put_at, put_none, fr0_at, c1, c2, c3]; done) | rfl), rfl, by (first | (simp [put_at, put_none, fr0_at]; done) | rfl), by (first | (simp [put_at, put_none, fr0_at]; done) | rfl), by (first | (simp [put_at, put_none, fr0_at]; done) | rfl)⟩
      · have c2' : ¬ Mk = F := fun h => c2 h.symm
        have hbq : ((strOfNums F).toList == (strOfNums Mk).toList) = false := by
          rw [beq_eq_false_iff_ne]
          exact fun h => c2 (heq.1 h)
        simp (disch := first | omega | (simp only [lnS]; try omega; done)) [-getElem?_pos, -getElem?_neg, heq, c2, c2', hbq]
        refine hK _ _ ?_; clear hK K
        exact ⟨by (first | (simp [put_at, put_none, fr0_at, c2']; done) | rfl), rfl, by (first | (simp [put_at, put_none, fr0_at]; done) | rfl), by (first | (simp [put_at, put_none, fr0_at]; done) | rfl), by (first | (simp [put_at, put_none, fr0_at]; done) | rfl)⟩
  rintro α G ⟨h63, rfl, h0, h5, h6⟩
  by_cases hbad : 1 < a ∨ markL a n ≠ F ∨ Hf * 256 < n
  · refine aw_t (by (first | (simp [eval_tmp, put_at, h63, hbad]; done) | (simp [eval_tmp, put_at, h63, hbad]; omega))) (by kernel_rfl) ?_
    refine aw_seq ?_
    (refine aw_ops (by kernel_rfl) (fun K hK => ?_); simp (disch := first | omega | (simp only [lnS]; try omega; done)) [-getElem?_pos, -getElem?_neg]; refine hK _ _ ?_; clear hK K)
    (refine aw_ret ?_; simp (disch := first | omega | (simp only [lnS]; try omega; done)) [-getElem?_pos, -getElem?_neg, thenQ_ret, scopeQ_ret, inBlockQ_ret, RQ, resL, resV])
    have hcond : M = false ∨ Hf * 256 < n := by
      rw [hMk]
      rcases hbad with h | h | h
      · exact .inl (by rw [decide_eq_false (by omega), Bool.false_and])
      · exact .inl (by rw [decide_eq_false h, Bool.and_false])
      · exact .inr h
    rw [if_pos hcond] at ho
    subst ho
    exact ⟨Low.refl (Nat.le_refl _), rfl⟩
  have hcond : ¬ (M = false ∨ Hf * 256 < n) := by
    rw [hMk]
    have q1 : markL a n = F := Classical.not_not.1 fun h => hbad (.inr (.inl h))
    rintro (h | h)
    · rw [decide_eq_true q1, decide_eq_true (show a < 2 by omega)] at h
      cases h
    · omega
  rw [if_neg hcond] at ho
  refine aw_f (by (first | (simp [eval_tmp, put_at, h63, hbad]; done) | (simp [eval_tmp, put_at, h63, hbad]; omega))) (by kernel_rfl) ?_
  refine aw_skip ?_
  have ha1 : a ≤ 1 := by omega
  have hn1 : n ≤ Hf * 256 := by omega
  obtain ⟨S, hS⟩ : ∃ S, S = 1 + a * Hf := ⟨_, rfl⟩
  have hSb : S + Hf ≤ D.firm.length := by
    rcases Nat.le_one_iff_eq_zero_or_eq_one.1 ha1 with e | e <;> rw [e] at hS <;> omega
  have hB : JM.bytes ⟨D, [], a, n⟩ = (catK D.late S Hf).take n := by
    unfold JM.bytes JM.start JM.half
    rw [hS, hHf]
  rw [hB] at ho
  obtain ⟨Bs, hBs⟩ : ∃ Bs, Bs = (catK D.late S Hf).take n := ⟨_, rfl⟩
  have hBl : Bs.length ≤ 131072 := by rw [hBs, List.length_take]; omega
  have hBb : By Bs := by rw [hBs]; exact (catK_by _ _ _).take _
  refine aw_seq ?_
  (refine aw_ops (by kernel_rfl) (fun K hK => ?_); simp (disch := first | omega | (simp only [lnS]; try omega; done)) [-getElem?_pos, -getElem?_neg]; refine hK _ _ ?_; clear hK K)
  refine aw_seq ?_
  refine aw_cut (fun α G => ∃ i : Nat, α 7 = .string (strOfNums (catK D.late S i)) ∧ i ≤ Hf ∧ n ≤ 256 * i ∧ H = G ∧ α 0 = .pointer (some ⟨d, 0, none⟩) ∧ α 5 = .int .i64 (a : Nat) ∧ α 6 = .int .i64 (n : Nat)) ?_ ?_
  · refine aw_seq ?_
    (refine aw_ops (by kernel_rfl) (fun K hK => ?_); simp (disch := first | omega | (simp only [lnS]; try omega; done)) [-getElem?_pos, -getElem?_neg]; refine hK _ _ ?_; clear hK K)
    refine aw_block ?_
    refine aw_loop (fun c α G => ∃ i : Nat, i + c = Hf ∧ α 7 = .string (strOfNums (catK D.late S i)) ∧ α 8 = .int .i64 (i : Nat) ∧ H = G ∧ α 0 = .pointer (some ⟨d, 0, none⟩) ∧ α 5 = .int .i64 (a : Nat) ∧ α 6 = .int .i64 (n : Nat)) Hf ?_ ?_
    · exact ⟨0, by omega, by with_unfolding_all (first | (simp [put_at, put_none, fr0_at]; done) | rfl), by (first | (simp [put_at, put_none, fr0_at]; done) | rfl), rfl, by (first | (simp [put_at, put_none, fr0_at, h0]; done) | rfl), by (first | (simp [put_at, put_none, fr0_at, h5]; done) | rfl), by (first | (simp [put_at, put_none, fr0_at, h6]; done) | rfl)⟩
    clear h0 h5 h6 h63
    rintro c α G ⟨i, hic, h7, h8, rfl, h0, h5, h6⟩
    have hcl : (strOfNums (catK D.late S i)).size = 256 * i := by rw [sn_size, catK_len hlate S i (by omega)]
    refine aw_seq ?_
    refine aw_seq ?_
    refine aw_ops (by kernel_rfl) (fun K hK => ?_)
    simp (disch := first | omega | (simp only [lnS]; try omega; done)) [-getElem?_pos, -getElem?_neg, h0, h8]
    refine ⟨by kernel_rfl, ac_of_rc hhalf0 (by simp [pv_iv, pv_int, pv_bool, pv_string, pv_tup2, pv_tup3, iv_plain, p2_int, p2_bool, p2_string]) ?_⟩
    by_cases hi : i < Hf
    case neg =>
      simp (disch := first | omega | (simp only [lnS]; try omega; done)) [-getElem?_pos, -getElem?_neg, hi]
      refine hK _ _ ?_; clear hK K
      refine aw_f (by (first | (simp [eval_tmp, put_at]; done) | (simp [eval_tmp, put_at]; omega))) (by kernel_rfl) ?_
      refine aw_exit ?_
      exact ⟨i, by (first | (simp [put_at, put_none, fr0_at, h7]; done) | rfl), by omega, by omega, rfl, by (first | (simp [put_at, put_none, fr0_at, h0]; done) | rfl), by (first | (simp [put_at, put_none, fr0_at, h5]; done) | rfl), by (first | (simp [put_at, put_none, fr0_at, h6]; done) | rfl)⟩
    by_cases hlt : 256 * i < n
    case neg =>
      simp (disch := first | omega | (simp only [lnS]; try omega; done)) [-getElem?_pos, -getElem?_neg, hi, h7, h6, hcl, hlt]
      refine hK _ _ ?_; clear hK K
      refine aw_f (by (first | (simp [eval_tmp, put_at]; done) | (simp [eval_tmp, put_at]; omega))) (by kernel_rfl) ?_
      refine aw_exit ?_
      exact ⟨i, by (first | (simp [put_at, put_none, fr0_at, h7]; done) | rfl), by omega, by omega, rfl, by (first | (simp [put_at, put_none, fr0_at, h0]; done) | rfl), by (first | (simp [put_at, put_none, fr0_at, h5]; done) | rfl), by (first | (simp [put_at, put_none, fr0_at, h6]; done) | rfl)⟩
    simp (disch := first | omega | (simp only [lnS]; try omega; done)) [-getElem?_pos, -getElem?_neg, hi, h7, h6, hcl, hlt]
    refine hK _ _ ?_; clear hK K
    refine aw_t (by (first | (simp [eval_tmp, put_at]; done) | (simp [eval_tmp, put_at]; omega))) (by kernel_rfl) ?_
    refine aw_skip ?_
    refine aw_seq ?_
    refine aw_block ?_
    have hmul : (a : Int) * (Hf : Int) = ((a * Hf : Nat) : Int) := by simp
    have haH : a * Hf ≤ 512 := by
      have := Nat.mul_le_mul ha1 hHfb
      omega
    have hidx : (1 : Int) + ((a * Hf : Nat) : Int) + (i : Nat) = ((S + i : Nat) : Int) := by rw [hS]; omega
    have hrdi := hrd H (S + i) (fun _ _ => rfl) (by omega)
    have hrz : (D.late.getD (S + i) ⟨#[]⟩).size = 256 := by
      rw [List.getD_eq_getElem?_getD, List.getElem?_eq_getElem (by omega)]
      exact hlate _ (List.getElem_mem _)
    have hnx : catK D.late S (i + 1) = catK D.late S i ++ nums (D.late.getD (S + i) ⟨#[]⟩) := by with_unfolding_all rfl
    have happ : strOfNums (catK D.late S i) ++ D.late.getD (S + i) ⟨#[]⟩ = strOfNums (catK D.late S (i + 1)) := by
      rw [hnx, ← sn_app, of_nums']
    generalize a * Hf = aH at *
    generalize D.late.getD (S + i) ⟨#[]⟩ = blk at *
    refine aw_ops (by kernel_rfl) (fun K hK => ?_)
    simp (disch := first | omega | (simp only [lnS]; try omega; done)) [-getElem?_pos, -getElem?_neg, h0, h5, h7, h8]
    refine ⟨by kernel_rfl, ac_of_rc hhalf0 (by simp [pv_iv, pv_int, pv_bool, pv_string, pv_tup2, pv_tup3, iv_plain, p2_int, p2_bool, p2_string]) ?_⟩
    simp (disch := first | omega | (simp only [lnS]; try omega; done)) [-getElem?_pos, -getElem?_neg, hmul, hidx, h0, h5, h7, h8]
    refine ⟨by kernel_rfl, AC.mono hrdi ?_⟩
    rintro _ G' ⟨rfl, e⟩
    rw [e]
    clear e G'
    simp (disch := first | omega | (simp only [lnS]; try omega; done)) [-getElem?_pos, -getElem?_neg, hcl, hrz, happ]
    refine hK _ _ ?_; clear hK K
    (refine aw_ops (by kernel_rfl) (fun K hK => ?_); simp (disch := first | omega | (simp only [lnS]; try omega; done)) [-getElem?_pos, -getElem?_neg, h8]; refine hK _ _ ?_; clear hK K)
    exact ⟨c - 1, by omega, i + 1, by omega, by (first | (simp [put_at, put_none, fr0_at]; done) | rfl), by (first | (simp [put_at, put_none, fr0_at]; done) | rfl), rfl, by (first | (simp [put_at, put_none, fr0_at, h0]; done) | rfl), by (first | (simp [put_at, put_none, fr0_at, h5]; done) | rfl), by (first | (simp [put_at, put_none, fr0_at, h6]; done) | rfl)⟩
  clear h0 h5 h6 h63
  rintro α G ⟨i, h7, hiH, hin, rfl, h0, h5, h6⟩
  have hcl : (strOfNums (catK D.late S i)).size = 256 * i := by rw [sn_size, catK_len hlate S i (by omega)]
  have htk : (catK D.late S i).take n = Bs := by
    rw [hBs, show Hf = i + (Hf - i) by omega, catK_take hlate S i (Hf - i) n (by omega) hin]
  have hext : (strOfNums (catK D.late S i)).extract 0 n = strOfNums Bs := by rw [ex_take, htk]
  rw [← hBs] at ho
  generalize catK D.late S i = cs at *
  refine aw_seq ?_
  have r2 : List.range 2 = [0, 1] := rfl
  (refine aw_ops (by kernel_rfl) (fun K hK => ?_); simp (disch := first | omega | (simp only [lnS]; try omega; done)) [-getElem?_pos, -getElem?_neg, h6, h7, hcl, hext, r2, nt_strJ]; refine hK _ _ ?_; clear hK K)
  refine aw_seq ?_
  (refine aw_ops (by kernel_rfl) (fun K hK => ?_); simp (disch := first | omega | (simp only [lnS]; try omega; done)) [-getElem?_pos, -getElem?_neg]; refine hK _ _ ?_; clear hK K)
  obtain ⟨G0, hG0⟩ : ∃ G0 : AH, G0 = H ++ [some ⟨[.string (strOfNums Bs), .int .i64 0], 77, none⟩] := ⟨_, rfl⟩
  rw [← hG0]
  have hg0 : hget G0 H.length = some (rrC Bs 0) := by rw [hG0, hget_app0]; rfl
  have hl0 : Low H.length H G0 := by rw [hG0]; exact Low.push (Nat.le_refl _) _
  obtain ⟨T, hT⟩ : ∃ T, T = recsR Bs.length Bs [] := ⟨_, rfl⟩
  rw [← hT] at ho
  clear hG0 h6 h7 hcl hext htk
  refine aw_seq ?_
  refine aw_block ?_
  refine aw_loop (fun c α G => ∃ (l : List Int) (e : Int) (acc : List ByteArray) (va : Value) (Fa : List Nat), α 9 = .pointer (some ⟨H.length, 0, none⟩) ∧ α 10 = va ∧ α 0 = .pointer (some ⟨d, 0, none⟩) ∧ α 5 = .int .i64 (a : Nat) ∧ hget G H.length = some (rrC l e) ∧ OwnF G va 9 1 (acc.map .string) Fa ∧ (∀ j ∈ Fa, H.length < j) ∧ Low H.length H G ∧ By l ∧
    ((e = 0 ∧ c = l.length + 1 ∧ acc.length + l.length ≤ 131072 ∧ ∃ f, l.length ≤ f ∧ recsR f l acc = T) ∨ (e ≠ 0 ∧ T = none ∧ c = 0))) (Bs.length + 1) ?_ ?_
  · exact ⟨Bs, 0, [], .slice none 0 0, [], by (first | (simp [put_at, put_none, fr0_at]; done) | rfl), by (first | (simp [put_at, put_none, fr0_at]; done) | rfl), by (first | (simp [put_at, put_none, fr0_at, h0]; done) | rfl), by (first | (simp [put_at, put_none, fr0_at, h5]; done) | rfl), hg0, .inl ⟨rfl, rfl, rfl⟩, by simp, hl0, hBb, .inl ⟨rfl, rfl, by simp; omega, Bs.length, Nat.le_refl _, hT.symm⟩⟩
  clear h0 h5 hg0 hl0 hT hBb hBl hBs hB
  rintro c α G ⟨l, e, acc, va, Fa, h9, h10, h0, h5, hg, hown, hFa, hlow, hlb, hst⟩
  have hgc := hg
  unfold rrC at hgc
  have hsl := sn_size l
  have hgl := hget_lt hg
  have hsh := own_shape hown
  refine aw_seq ?_
  refine aw_seq ?_
  by_cases hgo : 0 < l.length ∧ e = 0
  case neg =>
    have hex : AW Tryz.prog nro 121 γ (.skip) (fun _ _ _ => True) α G := aw_skip trivial
    clear hex
    refine aw_cut (fun α G' => α 104 = .bool false ∧ G = G' ∧ α 0 = .pointer (some ⟨d, 0, none⟩) ∧ α 5 = .int .i64 (a : Nat) ∧ α 9 = .pointer (some ⟨H.length, 0, none⟩) ∧ α 10 = va) ?_ ?_
    · by_cases q1 : 0 < l.length
      · have q2 : ¬ e = 0 := fun h => hgo ⟨q1, h⟩
        (refine aw_ops (by kernel_rfl) (fun K hK => ?_); simp (disch := first | omega | (simp only [lnS]; try omega; done)) [-getElem?_pos, -getElem?_neg, h9, hgc, hsl, q1, q2]; refine hK _ _ ?_; clear hK K)
        exact ⟨by (first | (simp [put_at, put_none, fr0_at]; done) | rfl), rfl, by (first | (simp [put_at, put_none, fr0_at, h0]; done) | rfl), by (first | (simp [put_at, put_none, fr0_at, h5]; done) | rfl), by (first | (simp [put_at, put_none, fr0_at, h9]; done) | rfl), by (first | (simp [put_at, put_none, fr0_at, h10]; done) | rfl)⟩
      · (refine aw_ops (by kernel_rfl) (fun K hK => ?_); simp (disch := first | omega | (simp only [lnS]; try omega; done)) [-getElem?_pos, -getElem?_neg, h9, hgc, hsl, q1]; refine hK _ _ ?_; clear hK K)
        exact ⟨by (first | (simp [put_at, put_none, fr0_at]; done) | rfl), rfl, by (first | (simp [put_at, put_none, fr0_at, h0]; done) | rfl), by (first | (simp [put_at, put_none, fr0_at, h5]; done) | rfl), by (first | (simp [put_at, put_none, fr0_at, h9]; done) | rfl), by (first | (simp [put_at, put_none, fr0_at, h10]; done) | rfl)⟩
    clear h0 h5 h9 h10
    rintro α G' ⟨h104, rfl, h0, h5, h9, h10⟩
    refine aw_f (by (first | (simp [eval_tmp, put_at, h104]; done) | (simp [eval_tmp, put_at, h104]; omega))) (by kernel_rfl) ?_
    refine aw_exit ?_
    refine aw_seq ?_
    refine aw_seq ?_
    rcases hst with ⟨he, _, _, f, hf, hrec⟩ | ⟨he, hTn, _⟩
    · have hl : l = [] := by
        have : ¬ 0 < l.length := fun h => hgo ⟨h, he⟩
        exact List.length_eq_zero_iff.1 (by omega)
      subst hl
      rw [recsR_nil] at hrec
      rw [← hrec] at ho
      subst he
      (refine aw_ops (by kernel_rfl) (fun K hK => ?_); simp (disch := first | omega | (simp only [lnS]; try omega; done)) [-getElem?_pos, -getElem?_neg, h9, hgc]; refine hK _ _ ?_; clear hK K)
      refine aw_f (by (first | (simp [eval_tmp, put_at]; done) | (simp [eval_tmp, put_at]; omega))) (by kernel_rfl) ?_
      refine aw_skip ?_
      refine aw_seq ?_
      have r3 : List.range 3 = [0, 1, 2] := rfl
      (refine aw_ops (by kernel_rfl) (fun K hK => ?_); simp (disch := first | omega | (simp only [lnS]; try omega; done)) [-getElem?_pos, -getElem?_neg, h0, h5, h10, r3, plain_nil, -notTuple, nt_intJ, nt_ptrJ, nt_slJ, nt_aggJ, hsh.1, hsh.2]; refine hK _ _ ?_; clear hK K)
      (refine aw_ret ?_; simp (disch := first | omega | (simp only [lnS]; try omega; done)) [-getElem?_pos, -getElem?_neg, thenQ_ret, scopeQ_ret, inBlockQ_ret, RQ, resL, resV])
      subst ho
      refine ⟨hlow.trans (Low.push (by have := hlow.2; omega) _), G.length, va, Fa, rfl, ⟨by rw [hget_app0]; rfl, hown.low (fun j hj => hget_left (hown.lt j hj)), fun hm => by have := hown.lt _ hm; omega⟩, hlow.2, fun j hj => by have := hFa j hj; omega⟩
    · rw [hTn] at ho
      (refine aw_ops (by kernel_rfl) (fun K hK => ?_); simp (disch := first | omega | (simp only [lnS]; try omega; done)) [-getElem?_pos, -getElem?_neg, h9, hgc, he]; refine hK _ _ ?_; clear hK K)
      refine aw_t (by (first | (simp [eval_tmp, put_at, he]; done) | (simp [eval_tmp, put_at, he]; omega))) (by kernel_rfl) ?_
      refine aw_seq ?_
      (refine aw_ops (by kernel_rfl) (fun K hK => ?_); simp (disch := first | omega | (simp only [lnS]; try omega; done)) [-getElem?_pos, -getElem?_neg]; refine hK _ _ ?_; clear hK K)
      (refine aw_ret ?_; simp (disch := first | omega | (simp only [lnS]; try omega; done)) [-getElem?_pos, -getElem?_neg, thenQ_ret, scopeQ_ret, inBlockQ_ret, RQ, resL, resV])
      subst ho
      exact ⟨hlow, rfl⟩
  obtain ⟨q1, rfl⟩ := hgo
  have hll2 : acc.length + l.length ≤ 131072 := by
    rcases hst with ⟨_, _, h, _⟩ | ⟨h, _⟩
    · exact h
    · exact absurd rfl h
  (refine aw_ops (by kernel_rfl) (fun K hK => ?_); simp (disch := first | omega | (simp only [lnS]; try omega; done)) [-getElem?_pos, -getElem?_neg, h9, hgc, hsl, q1]; refine hK _ _ ?_; clear hK K)
  refine aw_t (by (first | (simp [eval_tmp, put_at]; done) | (simp [eval_tmp, put_at]; omega))) (by kernel_rfl) ?_
  refine aw_skip ?_
  refine aw_block ?_
  refine aw_seq ?_
  have htx := rtext_ac (γ := γ) (nro := nro) hnl hg hlb (by omega)
  have hsho := rdText_short (most := 60000) (l := l)
  have hrb := rdText_by (most := 60000) hlb
  obtain ⟨tx, l', e', hr⟩ : ∃ tx l' e', rdText 60000 l = (tx, l', e') := ⟨_, _, _, rfl⟩
  have hstep : ∀ f, l.length ≤ f → recsR f l acc = T → if e' ≠ 0 then T = none else ∃ f', f = f' + 1 ∧ recsR f' l' (acc ++ [strOfNums tx]) = T := fun f hf h => by
    obtain ⟨f', rfl⟩ : ∃ f', f = f' + 1 := ⟨f - 1, by omega⟩
    rw [recsR, if_neg (fun h => by rw [h] at q1; simp at q1), hr] at h
    simp only at h
    by_cases he : e' ≠ 0
    · rw [if_pos he] at h ⊢
      exact h.symm
    · rw [if_neg he] at h ⊢
      exact ⟨f', rfl, h⟩
  rw [hr] at htx hsho hrb
  simp only at htx hsho hrb
  refine aw_ops (by kernel_rfl) (fun K hK => ?_)
  simp (disch := first | omega | (simp only [lnS]; try omega; done)) [-getElem?_pos, -getElem?_neg, h9]
  refine ⟨by kernel_rfl, AC.mono htx ?_⟩
  rintro _ G1 ⟨rfl, hG1⟩
  have hg1 : hget G1 H.length = some (rrC l' e') := by rw [hG1, hget_set_eq hgl]
  have hk1 : ∀ j, j ≠ H.length → hget G1 j = hget G j := fun j hj => by rw [hG1, hget_set_ne (Ne.symm hj)]
  have hl1 : G1.length = G.length := by rw [hG1]; simp
  clear hG1 htx
  try simp (disch := first | omega | (simp only [lnS]; try omega; done)) [-getElem?_pos, -getElem?_neg]
  refine hK _ _ ?_; clear hK K
  have hown1 := hown.low (H' := G1 ++ [some ⟨[.string (strOfNums tx)], 9, some 1⟩]) (fun j hj => by
    have := hown.lt j hj
    rw [hget_left (by omega), hk1 j (by have := hFa j hj; omega)])
  obtain ⟨v', G3, F', hxa, ho3, hl3, hk3, hn3⟩ := ownF_appendS (P := Tryz.prog) (nro := nro) (t := 36) (e := 9) (H := G1 ++ [some ⟨[.string (strOfNums tx)], 9, some 1⟩]) (v := va) (x := .slice (some ⟨G1.length, 0, none⟩) 1 1) (news := [.string (strOfNums tx)]) (by simp) (by simp) (by simp) (by simp) hown1 (fun j hj => by have := hFa j hj; omega) (fun s h => by cases h) (by simp [xcells, hget_app0, hget_cons0]) (by simp; omega)
  have hsh3 := own_shape ho3
  (refine aw_ops (by kernel_rfl) (fun K hK => ?_); simp (disch := first | omega | (simp only [lnS]; try omega; done)) [-getElem?_pos, -getElem?_neg, h10, -notTuple, nt_strJ, nt_slJ, hsh.1, hsh3.1, -xappend, hxa]; refine hK _ _ ?_; clear hK K)
  simp only [List.length_append, List.length_cons, List.length_nil] at hl3 hk3 hn3
  have hg3 : hget G3 H.length = some (rrC l' e') := by
    rw [hk3 H.length (by omega) (fun hm => by have := hFa _ hm; omega), hget_left (by omega), hg1]
  have hlow3 : Low H.length H G3 := ⟨fun j hj => by
    rw [hk3 j (by have := hlow.2; omega) (fun hm => by have := hFa _ hm; omega), hget_left (by have := hlow.2; omega), hk1 j (by omega)]
    exact hlow.1 j hj, by have := hlow.2; omega⟩
  have ho4 : OwnF G3 v' 9 1 ((acc ++ [strOfNums tx]).map .string) F' := by rw [List.map_append]; exact ho3
  rcases hst with ⟨_, hc, _, f, hf, hrec⟩ | ⟨hne, _⟩
  · have hs := hstep f hf hrec
    by_cases he : e' = 0
    · subst he
      rw [if_neg (by simp)] at hs
      obtain ⟨f', hff, hrec'⟩ := hs
      have hshort : l'.length < l.length := by
        rcases hsho with h | h
        · exact h.2
        · exact absurd rfl h.1
      exact ⟨l'.length + 1, by omega, l', 0, acc ++ [strOfNums tx], v', F', by (first | (simp [put_at, put_none, fr0_at, h9]; done) | rfl), by (first | (simp [put_at, put_none, fr0_at]; done) | rfl), by (first | (simp [put_at, put_none, fr0_at, h0]; done) | rfl), by (first | (simp [put_at, put_none, fr0_at, h5]; done) | rfl), hg3, ho4, fun j hj => by have := hn3 j hj; omega, hlow3, hrb, .inl ⟨rfl, rfl, by simp; omega, f', by omega, hrec'⟩⟩
    · rw [if_pos he] at hs
      have hsame : l' = l := by
        rcases hsho with h | h
        · exact absurd h.1 he
        · exact h.2
      subst hsame
      exact ⟨0, by omega, l', e', acc ++ [strOfNums tx], v', F', by (first | (simp [put_at, put_none, fr0_at, h9]; done) | rfl), by (first | (simp [put_at, put_none, fr0_at]; done) | rfl), by (first | (simp [put_at, put_none, fr0_at, h0]; done) | rfl), by (first | (simp [put_at, put_none, fr0_at, h5]; done) | rfl), hg3, ho4, fun j hj => by have := hn3 j hj; omega, hlow3, hrb, .inr ⟨he, hs, rfl⟩⟩
  · exact absurd rfl hne
end
section
set_option maxHeartbeats 4000000
end
section
attribute [local irreducible] textsB
attribute [local simp] wb_bool wb_undef XL_nil XL_cons XLc_val XLc_call step1_eq stepW_t stepW_f stepC_n stepC_s stepX_s stepX_n stepN_s calleeX oneV xop_eq xopR_s xopR_n wantedA_eq wantedG_n wantedG_s plain1_int plain1_bool plain1_string bits_i64 bits_u64 bits_u32 bits_u16 bits_u8 xeqA xagg xcmp xarr allK_iv num_iv calleeOf xread xeff xbin xint xnil xun xstr xload xconv xpart xfield xfieldAddr xindexAddr xindex bnd asInt? xslice xlen xmin xmax xbuild xfill xappend xapp2 xappstr xappmk xcap xcopy xcells eval_tmp eval_const put_at put_none fr0_at cells_agg cells_int cells_bool cells_string cells_ptr cells_slice notTuple tab iv_all hget_app hget_app0 hget_cons0 hget_cons set_app set_app0 setR setR_one QL_nil QL_cons QLc_val stepQ_t stepQ_f stepQC_n stepQC_s stepQX_s SL_nil SL_cons SLc_val stepS_t stepS_f ltT ltF leT leF eqT eqF ltTn ltFn leTn leFn eqTn eqFn beqT beqF bneT bneF wi64 wu64 wu32 wu16 wu8 tmodP tdivP hgetL hgetNe hgetEq setL nums_def nums_len Nat.succ_le_of_lt List.getElem?_cons_zero List.getElem?_cons_succ Option.getD_some Int.toNat_add Int.toNat_mul agB agI agS agP agL agA okB okI okS okP okSl okA
theorem RJ.low {H H' : AH} {q d : Nat} {rv : Value} {FR : List Nat} {J : JM} (h : RJ H q d rv FR J) (hl : ∀ j ∈ q :: FR, hget H' j = hget H j) : RJ H' q d rv FR J :=
  ⟨(hl q (by simp)).trans h.hq, h.hr.low (fun j hj => hl j (by simp [hj])), h.qr⟩
theorem rroom_rc {γ : Nat → Option Nat} {H : AH} {q d : Nat} {rv : Value} {FR F : List Nat} {J : JM} {D : DM} (h : RJ H q d rv FR J) (hd : Rk H d F D) (hps : ∀ s ∈ J.recs, s.size ≤ 2000) (hlen : J.recs.length ≤ 2000) (htl : (textsB J.recs).length ≤ 1000000) :
    AC Tryz.prog H.length γ 22 #[.pointer (some ⟨q, 0, none⟩)] H (fun v' _ => v' = .int .i64 (((D.firm.length - 1) / 2 * 256 : Nat) - ((textsB J.recs).length : Nat) : Int)) := by
  have hq := h.hq
  have hsh := own_shape h.hr
  have hbd := hd.1.most
  have hstr : ∀ L L', StrV ((H ++ L) ++ L') rv J.recs := fun L L' => by
    have h2 := (h.hr.low (H' := (H ++ L) ++ L') (fun j hj => by have := h.hr.lt j hj; rw [hget_left (by simp; omega), hget_left this])).g.part
    exact h2.str
  have hhf : ∀ L, AC Tryz.prog (H ++ L).length γ 34 #[.pointer (some ⟨d, 0, none⟩)] (H ++ L) (fun v' _ => v' = .int .i64 (((D.firm.length - 1) / 2 : Nat) : Int)) := fun L => rhalf_rc (hd.low (fun j hj => hget_left (hd.lt j hj)))
  have hby := fun L => rbytes_rc (γ := γ) (H := H ++ L) (hstr L) hps hlen
  have hsz := sn_size (textsB J.recs)
  obtain ⟨Hf, hHf⟩ : ∃ Hf, Hf = (D.firm.length - 1) / 2 := ⟨_, rfl⟩
  rw [← hHf] at hhf ⊢
  have hHb : Hf ≤ 512 := by omega
  generalize textsB J.recs = TB at *
  refine ac_of_aw Tryz.func22 rfl Tryz.ntmps22 Tryz.results22 (by simp) ?_
  refine aw_seq ?_
  (refine aw_ops (by kernel_rfl) (fun K hK => ?_); simp (disch := first | omega | (simp only [lnS]; try omega; done)) [-getElem?_pos, -getElem?_neg]; refine hK _ _ ?_; clear hK K)
  refine aw_seq ?_
  (refine aw_plan [] [] [0, 1, 2, 3, 4, 5, 6, 7, 8, 9, 10, 11, 12, 13] 14 0 (by kernel_rfl) (by kernel_rfl) (by kernel_rfl) (fun K hK => ?_)); simp only [sel, List.getElem?_cons_succ, List.getElem?_cons_zero, List.drop_succ_cons, List.drop_zero]; simp (disch := first | omega | (simp only [lnS]; try omega; done)) [-getElem?_pos, -getElem?_neg, hq, -notTuple, nt_ptrJ, nt_intJ, hsh.1, PL_nil, PL_cons, PLc_val, PLc_new, stepP_t, stepP_f, stepPC_n, stepPC_s, stepPX_s, stepPX_n, stepPA_t, stepPA_c, stepPA_l, stepPN_s, allocOp, reloc_sl, reloc_ptr, List.map_cons, List.map_nil, List.nil_append, List.append_assoc, List.cons_append, Nat.add_assoc]
  refine PLc_call (v := .int .i64 (Hf : Nat)) (by kernel_rfl) (fun L hL => hhf L) (by simp [pv_iv, pv_int, pv_bool, pv_string, pv_tup2, pv_tup3, iv_plain, p2_int, p2_bool, p2_string]) ?_
  simp (disch := first | omega | (simp only [lnS]; try omega; done)) [-getElem?_pos, -getElem?_neg, hq, -notTuple, nt_ptrJ, nt_intJ, hsh.1, PL_nil, PL_cons, PLc_val, PLc_new, stepP_t, stepP_f, stepPC_n, stepPC_s, stepPX_s, stepPX_n, stepPA_t, stepPA_c, stepPA_l, stepPN_s, allocOp, reloc_sl, reloc_ptr, List.map_cons, List.map_nil, List.nil_append, List.append_assoc, List.cons_append, Nat.add_assoc]
  refine PLc_call (v := .string (strOfNums TB)) (by kernel_rfl) (fun L hL => hby L) (by simp [pv_iv, pv_int, pv_bool, pv_string, pv_tup2, pv_tup3, iv_plain, p2_int, p2_bool, p2_string]) ?_
  simp (disch := first | omega | (simp only [lnS]; try omega; done)) [-getElem?_pos, -getElem?_neg, hsz, PL_nil, PL_cons, PLc_val, PLc_new, stepP_t, stepP_f, stepPC_n, stepPC_s, stepPX_s, stepPX_n, stepPA_t, stepPA_c, stepPA_l, stepPN_s, allocOp, reloc_sl, reloc_ptr, List.map_cons, List.map_nil, List.nil_append, List.append_assoc, List.cons_append, Nat.add_assoc]
  refine hK _ _ ?_; clear hK K
  (refine aw_ret ?_; simp (disch := first | omega | (simp only [lnS]; try omega; done)) [-getElem?_pos, -getElem?_neg, thenQ_ret, scopeQ_ret, inBlockQ_ret, RQ, resL, resV])
end
section
/-- Both disks, alike. -/
structure OS (H G : AH) (d q N : Nat) (D : DM) (FD FR : List Nat) : Prop where
  dk : Dk G d FD D
  rk : Rk G q FR D
  well : D.Well
  uns : D.uns = []
  len : D.firm.length = N
  dis : ∀ j ∈ FD, j ∉ FR
  n1 : ∀ j ∈ FD, H.length ≤ j
  n2 : ∀ j ∈ FR, H.length ≤ j
  low : Low H.length H G
theorem OS.grow {H G G' : AH} {d q N : Nat} {D : DM} {FD FR : List Nat} (h : OS H G d q N D FD FR) (hl : Low G.length G G') : OS H G' d q N D FD FR :=
  ⟨h.dk.low (fun j hj => hl.1 j (h.dk.lt j hj)), h.rk.low (fun j hj => hl.1 j (h.rk.lt j hj)), h.well, h.uns, h.len, h.dis, h.n1, h.n2, h.low.trans ⟨fun j hj => hl.1 j (by have := h.low.2; omega), by have := h.low.2; have := hl.2; omega⟩⟩
attribute [local irreducible] markL textsB openJ newD
attribute [local simp] wb_bool wb_undef XL_nil XL_cons XLc_val XLc_call step1_eq stepW_t stepW_f stepC_n stepC_s stepX_s stepX_n stepN_s calleeX oneV xop_eq xopR_s xopR_n wantedA_eq wantedG_n wantedG_s plain1_int plain1_bool plain1_string bits_i64 bits_u64 bits_u32 bits_u16 bits_u8 xeqA xagg xcmp xarr allK_iv num_iv calleeOf xread xeff xbin xint xnil xun xstr xload xconv xpart xfield xfieldAddr xindexAddr xindex bnd asInt? xslice xlen xmin xmax xbuild xfill xappend xapp2 xappstr xappmk xcap xcopy xcells eval_tmp eval_const put_at put_none fr0_at cells_agg cells_int cells_bool cells_string cells_ptr cells_slice notTuple tab iv_all hget_app hget_app0 hget_cons0 hget_cons set_app set_app0 setR setR_one QL_nil QL_cons QLc_val stepQ_t stepQ_f stepQC_n stepQC_s stepQX_s SL_nil SL_cons SLc_val stepS_t stepS_f ltT ltF leT leF eqT eqF ltTn ltFn leTn leFn eqTn eqFn beqT beqF bneT bneF wi64 wu64 wu32 wu16 wu8 tmodP tdivP hgetL hgetNe hgetEq setL nums_def nums_len Nat.succ_le_of_lt List.getElem?_cons_zero List.getElem?_cons_succ Option.getD_some Int.toNat_add Int.toNat_mul agB agI agS agP agL agA okB okI okS okP okSl okA
theorem records_fix {nro : Nat} {γ : Nat → Option Nat} {H : AH} (hnl : nro ≤ H.length) {q d : Nat} {rv : Value} {FD FR : List Nat} {J : JM} (h : JrR H q d rv FD FR J) (hl : J.recs.length ≤ 1000000) :
    ∃ v0, AC Tryz.prog nro γ 20 #[.pointer (some ⟨q, 0, none⟩)] H (fun v' H' => v' = v0 ∧ Part H' H'.length v' (J.recs.map .string) ∧ H.length ≤ H'.length ∧ ∀ j, j < H.length → hget H' j = hget H j) := by
  have hq := h.hq
  have hp := h.hr.part
  have hsh := h.hr.nt
  obtain ⟨v0, hcl⟩ := clone_fix (nro := nro) (γ := γ) hp (by simpa using hl) hnl
  refine ⟨v0, ?_⟩
  refine ac_of_aw Tryz.func20 rfl Tryz.ntmps20 Tryz.results20 (by simp) ?_
  refine aw_seq ?_
  (refine aw_ops (by kernel_rfl) (fun K hK => ?_); simp (disch := first | omega | (simp only [lnS]; try omega; done)) [-getElem?_pos, -getElem?_neg]; refine hK _ _ ?_; clear hK K)
  refine aw_seq ?_
  refine aw_seq ?_
  (refine aw_ops (by kernel_rfl) (fun K hK => ?_); simp (disch := first | omega | (simp only [lnS]; try omega; done)) [-getElem?_pos, -getElem?_neg]; refine hK _ _ ?_; clear hK K)
  refine aw_f (by (first | (simp [eval_tmp, put_at]; done) | (simp [eval_tmp, put_at]; omega))) (by kernel_rfl) ?_
  refine aw_skip ?_
  refine aw_seq ?_
  refine aw_ops (by kernel_rfl) (fun K hK => ?_)
  simp (disch := first | omega | (simp only [lnS]; try omega; done)) [-getElem?_pos, -getElem?_neg, hq, -notTuple, hsh.1]
  refine ⟨by kernel_rfl, AC.mono hcl ?_⟩
  rintro v1 G ⟨h0, h1, h2, h3⟩
  have hn := h1.nt
  try simp (disch := first | omega | (simp only [lnS]; try omega; done)) [-getElem?_pos, -getElem?_neg, -notTuple, hn]
  refine hK _ _ ?_; clear hK K
  (refine aw_ret ?_; simp (disch := first | omega | (simp only [lnS]; try omega; done)) [-getElem?_pos, -getElem?_neg, thenQ_ret, scopeQ_ret, inBlockQ_ret, RQ, resL, resV, -notTuple, hn])
  exact ⟨h0, h1, h3⟩
theorem records_fixT {nro : Nat} {γ : Nat → Option Nat} {H : AH} (hnl : nro ≤ H.length) {q d : Nat} {rv : Value} {FD FR : List Nat} {J : JM} (h : JrR H q d rv FD FR J) (hl : J.recs.length ≤ 1000000) :
    ∃ v0, notTuple v0 = true ∧ AC Tryz.prog nro γ 20 #[.pointer (some ⟨q, 0, none⟩)] H (fun v' H' => v' = v0 ∧ Part H' H'.length v' (J.recs.map .string) ∧ H.length ≤ H'.length ∧ ∀ j, j < H.length → hget H' j = hget H j) := by
  obtain ⟨v0, hr⟩ := records_fix (nro := nro) (γ := γ) hnl h hl
  refine ⟨if notTuple v0 = true then v0 else .slice none 0 0, ?_, hr.mono fun v' H' hh => ?_⟩
  · by_cases hn : notTuple v0 = true
    · rw [if_pos hn]; exact hn
    · rw [if_neg hn]; rfl
  · have hn := hh.2.1.nt
    rw [hh.1] at hn
    rw [if_pos hn]
    exact hh
theorem textsB_ge : ∀ ps : List ByteArray, totS ps + ps.length ≤ (textsB ps).length
  | [] => by simp [totS]
  | s :: ps => by
    have h1 := textsB_ge ps
    have e : textsB (s :: ps) = textB s ++ textsB ps := by with_unfolding_all simp [textsB]
    rw [e, List.length_append]
    unfold textB numB
    simp only [totS, List.map_cons, List.sum_cons, List.length_cons, List.length_append, nums_len, List.length_nil] at h1 ⊢
    omega
theorem totS_mem : ∀ (ps : List ByteArray) (s : ByteArray), s ∈ ps → s.size ≤ totS ps
  | t :: ps, s, h => by
    simp only [totS, List.map_cons, List.sum_cons]
    rcases List.mem_cons.1 h with rfl | h
    · omega
    · have := totS_mem ps s h
      simp only [totS] at this
      omega
end
section
def snapJ (J : JM) (s : ByteArray) : JM × Int :=
  if J.half * 256 < (textsB [s]).length then (J, 8)
  else if (commitR J.D (J.pages (1 - J.area) 0 (textsB [s])) [(0, fillB (markL (1 - J.area) (0 + (textsB [s]).length)))]).2 = 0 then (⟨(commitR J.D (J.pages (1 - J.area) 0 (textsB [s])) [(0, fillB (markL (1 - J.area) (0 + (textsB [s]).length)))]).1, [s], 1 - J.area, 0 + (textsB [s]).length⟩, 0)
  else (⟨(commitR J.D (J.pages (1 - J.area) 0 (textsB [s])) [(0, fillB (markL (1 - J.area) (0 + (textsB [s]).length)))]).1, J.recs, J.area, J.size⟩, 7)
attribute [local irreducible] commitR textsB appJ snapJ
attribute [local simp] wb_bool wb_undef XL_nil XL_cons XLc_val XLc_call step1_eq stepW_t stepW_f stepC_n stepC_s stepX_s stepX_n stepN_s calleeX oneV xop_eq xopR_s xopR_n wantedA_eq wantedG_n wantedG_s plain1_int plain1_bool plain1_string bits_i64 bits_u64 bits_u32 bits_u16 bits_u8 xeqA xagg xcmp xarr allK_iv num_iv calleeOf xread xeff xbin xint xnil xun xstr xload xconv xpart xfield xfieldAddr xindexAddr xindex bnd asInt? xslice xlen xmin xmax xbuild xfill xappend xapp2 xappstr xappmk xcap xcopy xcells eval_tmp eval_const put_at put_none fr0_at cells_agg cells_int cells_bool cells_string cells_ptr cells_slice notTuple tab iv_all hget_app hget_app0 hget_cons0 hget_cons set_app set_app0 setR setR_one QL_nil QL_cons QLc_val stepQ_t stepQ_f stepQC_n stepQC_s stepQX_s SL_nil SL_cons SLc_val stepS_t stepS_f ltT ltF leT leF eqT eqF ltTn ltFn leTn leFn eqTn eqFn beqT beqF bneT bneF wi64 wu64 wu32 wu16 wu8 tmodP tdivP hgetL hgetNe hgetEq setL nums_def nums_len Nat.succ_le_of_lt List.getElem?_cons_zero List.getElem?_cons_succ Option.getD_some Int.toNat_add Int.toNat_mul agB agI agS agP agL agA okB okI okS okP okSl okA
theorem snap_go {nro : Nat} {H : AH} (hG : GG H) (h2 : 2 ≤ H.length) (hnl : nro ≤ H.length) {q d : Nat} {rv : Value} {FD FR : List Nat} {J : JM} (h : JrR H q d rv FD FR J) (ho : J.Ok) (hn : ∀ j ∈ q :: (FD ++ FR), nro ≤ j) (s : ByteArray) (hs : s.size ≤ 2000)
    (bs : List Int) (hbl : bs.length ≤ 100000) (r : DM × Int) (res : JM × Int) (hres : res = if J.half * 256 < bs.length then (J, 8) else if r.2 = 0 then (⟨r.1, [s], 1 - J.area, 0 + bs.length⟩, 0) else (⟨r.1, J.recs, J.area, J.size⟩, 7))
    (hwr : ∀ (G : AH) (v : Value), SlV G v [.string s] → AC Tryz.prog G.length gm 37 #[v] G (fun v' _ => v' = .string (strOfNums bs)))
    (hcm : ¬ J.half * 256 < bs.length → ∀ G : AH, Low H.length H G → AC Tryz.prog nro gm 38 #[.pointer (some ⟨q, 0, none⟩), .int .i64 ((1 - J.area : Nat) : Int), .int .i64 ((0 : Nat) : Int), .string (strOfNums bs)] G (fun v' H' => CommitQ G q d rv FD FR J (1 - J.area) (0 + bs.length) r v' H')) :
    AC Tryz.prog nro gm 13 #[.pointer (some ⟨q, 0, none⟩), .string s] H (fun v' H' => AppQ H q d FD FR res v' H') := by
  have hq := h.hq
  have hql := hget_lt hq
  have hbs := sn_size bs
  have ha := ho.area
  have hai : (1 : Int) - (J.area : Nat) = ((1 - J.area : Nat) : Int) := by omega
  obtain ⟨na, hna⟩ : ∃ na, na = 1 - J.area := ⟨_, rfl⟩
  rw [← hna] at hai hcm hres
  have htl := fun (G : AH) (v : Value) (hv : SlV G v [.string s]) => tooLong_rc (γ := gm) (H := G) (v := v) (ps := [s]) hv (fun x hx => by simp at hx; subst hx; omega) (by simp)
  have r1 : List.range 1 = [0] := rfl
  have hrow : ∀ G : AH, SlV (G ++ [some ⟨[.string s], 9, some 1⟩]) (.slice (some ⟨G.length, 0, none⟩) 1 1) [.string s] := fun G => .inr ⟨G.length, 0, _, rfl, by rw [hget_app0]; rfl, fun i x hx => by simpa using hx⟩
  have hlt := h.lts
  refine ac_of_aw Tryz.func13 rfl Tryz.ntmps13 Tryz.results13 (by simp) ?_
  refine aw_seq ?_
  (refine aw_ops (by kernel_rfl) (fun K hK => ?_); simp (disch := first | omega | (simp only [lnS]; try omega; done)) [-getElem?_pos, -getElem?_neg]; refine hK _ _ ?_; clear hK K)
  refine aw_seq ?_
  refine aw_seq ?_
  (refine aw_ops (by kernel_rfl) (fun K hK => ?_); simp (disch := first | omega | (simp only [lnS]; try omega; done)) [-getElem?_pos, -getElem?_neg]; refine hK _ _ ?_; clear hK K)
  refine aw_f (by (first | (simp [eval_tmp, put_at]; done) | (simp [eval_tmp, put_at]; omega))) (by kernel_rfl) ?_
  refine aw_skip ?_
  refine aw_seq ?_
  refine aw_seq ?_
  refine aw_ops (by kernel_rfl) (fun K hK => ?_)
  simp (disch := first | omega | (simp only [lnS]; try omega; done)) [-getElem?_pos, -getElem?_neg, r1, nt_strJ]
  refine ⟨by kernel_rfl, ac_of_rc (htl _ _ (hrow H)) (by simp [pv_iv, pv_int, pv_bool, pv_string, pv_tup2, pv_tup3, iv_plain, p2_int, p2_bool, p2_string]) ?_⟩
  try simp (disch := first | omega | (simp only [lnS]; try omega; done)) [-getElem?_pos, -getElem?_neg]
  refine hK _ _ ?_; clear hK K
  refine aw_f (by (first | (simp [eval_tmp, put_at]; done) | (simp [eval_tmp, put_at]; omega))) (by kernel_rfl) ?_
  refine aw_skip ?_
  have hl1 : Low H.length H (H ++ [some ⟨[.string s], 9, some 1⟩]) := Low.push (Nat.le_refl _) _
  generalize H ++ [some ⟨[.string s], 9, some 1⟩] = G1 at *
  have hl1l := hl1.2
  refine aw_seq ?_
  refine aw_ops (by kernel_rfl) (fun K hK => ?_)
  simp (disch := first | omega | (simp only [lnS]; try omega; done)) [-getElem?_pos, -getElem?_neg, r1, nt_strJ]
  refine ⟨by kernel_rfl, ac_of_rc (hwr _ _ (hrow G1)) (by simp [pv_iv, pv_int, pv_bool, pv_string, pv_tup2, pv_tup3, iv_plain, p2_int, p2_bool, p2_string]) ?_⟩
  try simp (disch := first | omega | (simp only [lnS]; try omega; done)) [-getElem?_pos, -getElem?_neg]
  refine hK _ _ ?_; clear hK K
  have hl2 : Low H.length H (G1 ++ [some ⟨[.string s], 9, some 1⟩]) := hl1.trans (Low.push hl1.2 _)
  generalize G1 ++ [some ⟨[.string s], 9, some 1⟩] = G2 at *
  have hl2l := hl2.2
  have hj2 := h.low (H' := G2) (fun j hj => hl2.1 j (hlt j hj)) hl2.2
  have has := areaSize_ac (nro := nro) (γ := gm) hj2
  refine aw_seq ?_
  refine aw_seq ?_
  refine aw_ops (by kernel_rfl) (fun K hK => ?_)
  simp (disch := first | omega | (simp only [lnS]; try omega; done)) [-getElem?_pos, -getElem?_neg, hbs]
  refine ⟨by kernel_rfl, AC.mono has ?_⟩
  rintro _ G ⟨rfl, e⟩
  rw [e]
  clear e G
  have hfr : Fr H G2 (q :: (FD ++ FR)) (q :: (FD ++ FR)) := ⟨hl2.2, fun j hj _ => hl2.1 j hj, fun j hj => .inl hj⟩
  by_cases hfull : J.half * 256 < bs.length
  · rw [if_pos hfull] at hres
    have hf2 : (J.half : Int) * 256 < (bs.length : Nat) := by omega
    simp (disch := first | omega | (simp only [lnS]; try omega; done)) [-getElem?_pos, -getElem?_neg, hfull, hf2]
    refine hK _ _ ?_; clear hK K
    refine aw_t (by (first | (simp [eval_tmp, put_at]; done) | (simp [eval_tmp, put_at]; omega))) (by kernel_rfl) ?_
    refine aw_seq ?_
    (refine aw_ops (by kernel_rfl) (fun K hK => ?_); simp (disch := first | omega | (simp only [lnS]; try omega; done)) [-getElem?_pos, -getElem?_neg]; refine hK _ _ ?_; clear hK K)
    (refine aw_ret ?_; simp (disch := first | omega | (simp only [lnS]; try omega; done)) [-getElem?_pos, -getElem?_neg, thenQ_ret, scopeQ_ret, inBlockQ_ret, RQ, resL, resV])
    subst hres
    exact ⟨rfl, rv, FD, FR, hj2, hfr⟩
  rw [if_neg hfull] at hres
  have hf2 : ¬ (J.half : Int) * 256 < (bs.length : Nat) := by omega
  simp (disch := first | omega | (simp only [lnS]; try omega; done)) [-getElem?_pos, -getElem?_neg, hfull, hf2]
  refine hK _ _ ?_; clear hK K
  refine aw_f (by (first | (simp [eval_tmp, put_at]; done) | (simp [eval_tmp, put_at]; omega))) (by kernel_rfl) ?_
  refine aw_skip ?_
  have hq2 := hj2.hq
  refine aw_seq ?_
  refine aw_seq ?_
  refine aw_ops (by kernel_rfl) (fun K hK => ?_)
  simp (disch := first | omega | (simp only [lnS]; try omega; done)) [-getElem?_pos, -getElem?_neg, hq2, hai]
  refine ⟨by kernel_rfl, AC.mono (by simpa using hcm hfull G2 hl2) ?_⟩
  rintro _ G ⟨rfl, FD', hj, hf⟩
  try simp (disch := first | omega | (simp only [lnS]; try omega; done)) [-getElem?_pos, -getElem?_neg]
  refine hK _ _ ?_; clear hK K
  have hff := hfr.trans hf
  refine aw_seq ?_
  by_cases he : r.2 = 0
  case neg =>
    rw [if_neg he] at hj hres
    (refine aw_ops (by kernel_rfl) (fun K hK => ?_); simp (disch := first | omega | (simp only [lnS]; try omega; done)) [-getElem?_pos, -getElem?_neg, he]; refine hK _ _ ?_; clear hK K)
    refine aw_t (by (first | (simp [eval_tmp, put_at, he]; done) | (simp [eval_tmp, put_at, he]; omega))) (by kernel_rfl) ?_
    refine aw_seq ?_
    (refine aw_ops (by kernel_rfl) (fun K hK => ?_); simp (disch := first | omega | (simp only [lnS]; try omega; done)) [-getElem?_pos, -getElem?_neg, he]; refine hK _ _ ?_; clear hK K)
    (refine aw_ret ?_; simp (disch := first | omega | (simp only [lnS]; try omega; done)) [-getElem?_pos, -getElem?_neg, thenQ_ret, scopeQ_ret, inBlockQ_ret, RQ, resL, resV])
    subst hres
    exact ⟨by simp [he], rv, FD', FR, hj, hff⟩
  rw [if_pos he] at hj hres
  (refine aw_ops (by kernel_rfl) (fun K hK => ?_); simp (disch := first | omega | (simp only [lnS]; try omega; done)) [-getElem?_pos, -getElem?_neg, he]; refine hK _ _ ?_; clear hK K)
  refine aw_f (by (first | (simp [eval_tmp, put_at]; done) | (simp [eval_tmp, put_at]; omega))) (by kernel_rfl) ?_
  refine aw_skip ?_
  refine aw_seq ?_
  have hqj := hj.hq
  have hqlj := hget_lt hqj
  have hnq : nro ≤ q := hn q (by simp)
  have hltJ := hj.lts
  (refine aw_ops (by kernel_rfl) (fun K hK => ?_); simp (disch := first | omega | (simp only [lnS]; try omega; done)) [-getElem?_pos, -getElem?_neg, hqj, r1, nt_strJ, nt_slJ, nt_ptrJ]; refine hK _ _ ?_; clear hK K)
  refine aw_seq ?_
  (refine aw_ops (by kernel_rfl) (fun K hK => ?_); simp (disch := first | omega | (simp only [lnS]; try omega; done)) [-getElem?_pos, -getElem?_neg]; refine hK _ _ ?_; clear hK K)
  (refine aw_ret ?_; simp (disch := first | omega | (simp only [lnS]; try omega; done)) [-getElem?_pos, -getElem?_neg, thenQ_ret, scopeQ_ret, inBlockQ_ret, RQ, resL, resV])
  subst hres
  refine ⟨by simp [he], .slice (some ⟨G.length, 0, none⟩) 1 1, FD', [G.length], ⟨?_, hj.hd.low (fun j hm => ?_), ?_, hj.qd, fun hm => by simp at hm; omega, fun j hm hm2 => by simp at hm2; have := hj.hd.lt j hm; omega⟩, ?_⟩
  · first
      | (rw [hget_left (by simp; omega), hget_set_eq hqlj]; done)
      | simp [hget_left, hget_set_eq hqlj, hqlj]
  · have := hj.hd.lt j hm
    rw [hget_left (by simp; omega), hget_set_ne (show q ≠ j from fun e => hj.qd (e ▸ hm))]
  · refine ⟨⟨_, _, rfl⟩, fun j hm => by simp at hm; subst hm; simp, fun G' hg => ?_⟩
    have := (hg G.length (by simp)).trans (hga0 (G := G) (i := q))
    simp [xcells, this]
  · refine ⟨by have := hff.len; simp; omega, fun j hm hne => ?_, fun j hm => ?_⟩
    · have := hff.len
      rw [hget_left (by simp; omega), hget_set_ne (fun e => hne (by simp [e])), hff.out j hm hne]
    · simp only [List.mem_cons, List.mem_append, List.not_mem_nil, or_false] at hm
      rcases hm with rfl | hm | rfl
      · exact .inl (by simp)
      · exact hff.new j (by simp [hm])
      · exact .inr (by have := hff.len; omega)
theorem snap_ac {nro : Nat} {H : AH} (hG : GG H) (hnl : nro ≤ H.length) (h2 : 2 ≤ H.length) {q d : Nat} {rv : Value} {FD FR : List Nat} {J : JM} (h : JrR H q d rv FD FR J) (ho : J.Ok) (hn : ∀ j ∈ q :: (FD ++ FR), nro ≤ j) (s : ByteArray) (hs : s.size ≤ 2000) (hfew : J.D.uns.length ≤ 500) :
    AC Tryz.prog nro gm 13 #[.pointer (some ⟨q, 0, none⟩), .string s] H (fun v' H' => AppQ H q d FD FR (snapJ J s) v' H') := by
  have hbl : (textsB [s]).length ≤ 3005 * 1 := textsB_len (ps := [s]) (fun x hx => by simp at hx; subst hx; omega)
  have hby := textsB_byJ [s]
  have ha := ho.area
  exact snap_go hG h2 hnl h ho hn s hs (textsB [s]) (by omega) _ _ (by unfold snapJ; rfl) (fun G v hv => written_rc (ps := [s]) hv (fun x hx => by simp at hx; subst hx; omega) (by simp))
    (fun hr G hl => commit_ac (hG.lowJ h2 hl) (by have := hl.2; omega) (h.low (fun j hj => hl.1 j (h.lts j hj)) hl.2) hn (by have := hl.2; omega) (1 - J.area) 0 (by omega) (textsB [s]) hby (by omega) (by omega))
end
section
/-- Byte o of block k. -/
def byA (L : List ByteArray) (k o : Nat) : Int := (nums (L.getD k ⟨#[]⟩)).getD o 0
def Rows (L : List ByteArray) : Prop := ∀ r ∈ L, r.size = 256
theorem rows_get {L : List ByteArray} (h : Rows L) {k : Nat} (hk : k < L.length) : (L.getD k ⟨#[]⟩).size = 256 := by
  rw [List.getD_eq_getElem?_getD, List.getElem?_eq_getElem hk]
  exact h _ (List.getElem_mem _)
theorem catK_get {L : List ByteArray} (hL : Rows L) (s : Nat) : ∀ h i, s + h ≤ L.length → i < 256 * h → (catK L s h).getD i 0 = byA L (s + i / 256) (i % 256)
  | 0, i, _, hi => by omega
  | h + 1, i, hl, hi => by
    have hlen : (catK L s h).length = 256 * h := catK_len hL s h (by omega)
    rw [catK]
    by_cases hc : i < 256 * h
    · rw [List.getD_eq_getElem?_getD, List.getElem?_append_left (by omega), ← List.getD_eq_getElem?_getD]
      exact catK_get hL s h i (by omega) hc
    · rw [List.getD_eq_getElem?_getD, List.getElem?_append_right (by omega), ← List.getD_eq_getElem?_getD, hlen]
      have e1 : i / 256 = h := by omega
      have e2 : i - 256 * h = i % 256 := by omega
      rw [e1, e2]
      rfl
/-- The same bytes: the first b ones from block s on. -/
structure Sm (L L' : List ByteArray) (s b : Nat) : Prop where
  len : L'.length = L.length
  rows : Rows L'
  data : ∀ i, i < b → byA L' (s + i / 256) (i % 256) = byA L (s + i / 256) (i % 256)
def First (L L' : List ByteArray) : Prop := ∀ o, o < 64 → byA L' 0 o = byA L 0 o
theorem Sm.refl {L : List ByteArray} (h : Rows L) (s b : Nat) : Sm L L s b := ⟨rfl, h, fun _ _ => rfl⟩
theorem Sm.trans {L L' L'' : List ByteArray} {s b : Nat} (h : Sm L L' s b) (k : Sm L' L'' s b) : Sm L L'' s b := ⟨k.len.trans h.len, k.rows, fun i hi => (k.data i hi).trans (h.data i hi)⟩
theorem mixed_get {w r : ByteArray} {n o : Nat} (hw : w.size = 256) (hr : r.size = 256) (hn : n ≤ 256) (ho : o < 256) : (nums (w.extract 0 n ++ r.extract n 256)).getD o 0 = if o < n then (nums w).getD o 0 else (nums r).getD o 0 := by
  have hnw : (nums w).length = 256 := by rw [nums_len]; exact hw
  have hnr : (nums r).length = 256 := by rw [nums_len]; exact hr
  rw [nums_appF, nums_extractF, nums_extractF]
  by_cases hc : o < n
  · rw [if_pos hc, List.getD_eq_getElem?_getD, List.getElem?_append_left (by simp; omega)]
    simp [List.getElem?_take_of_lt, hc]
  · have hl : (((nums w).drop 0).take (n - 0)).length = n := by rw [List.length_take, List.length_drop]; omega
    rw [if_neg hc, List.getD_eq_getElem?_getD, List.getElem?_append_right (by omega), hl, List.getElem?_take_of_lt (by omega), List.getElem?_drop, show n + (o - n) = o by omega, List.getD_eq_getElem?_getD]
theorem mixed_size {w r : ByteArray} {n : Nat} (hw : w.size = 256) (hr : r.size = 256) (hn : n ≤ 256) : (w.extract 0 n ++ r.extract n 256).size = 256 := by
  rw [ByteArray.size_append, ByteArray.size_extract, ByteArray.size_extract, hw, hr]
  omega
theorem byA_set {L : List ByteArray} {k j o : Nat} {x : ByteArray} (hk : k < L.length) : byA (L.set k x) j o = if j = k then (nums x).getD o 0 else byA L j o := by
  unfold byA
  by_cases h : j = k
  · subst h
    have e : (L.set j x).getD j ⟨#[]⟩ = x := by rw [List.getD_eq_getElem?_getD, List.getElem?_set_self hk]; rfl
    rw [if_pos rfl, e]
  · have e : (L.set k x).getD j ⟨#[]⟩ = L.getD j ⟨#[]⟩ := by rw [List.getD_eq_getElem?_getD, List.getElem?_set_ne (Ne.symm h), ← List.getD_eq_getElem?_getD]
    rw [if_neg h, e]
/-- A page that turns none of these bytes. -/
def Agr (L : List ByteArray) (s b : Nat) (w : Nat × ByteArray) : Prop := w.1 < L.length ∧ w.2.size = 256 ∧ ∀ o, o < 256 → s ≤ w.1 → 256 * (w.1 - s) + o < b → (nums w.2).getD o 0 = byA L w.1 o
theorem Agr.sm {L L' : List ByteArray} {s b : Nat} {w : Nat × ByteArray} (h : Agr L s b w) (hs : Sm L L' s b) : Agr L' s b w := by
  refine ⟨by rw [hs.len]; exact h.1, h.2.1, fun o ho hsw hb => ?_⟩
  have := hs.data (256 * (w.1 - s) + o) hb
  rw [show s + (256 * (w.1 - s) + o) / 256 = w.1 by omega, show (256 * (w.1 - s) + o) % 256 = o by omega] at this
  rw [this]
  exact h.2.2 o ho hsw hb
theorem sm_write {L : List ByteArray} {s b : Nat} {w : Nat × ByteArray} (hL : Rows L) (h : Agr L s b w) {n : Nat} (hn : n ≤ 256) : Sm L (L.set w.1 (w.2.extract 0 n ++ (L.getD w.1 ⟨#[]⟩).extract n 256)) s b := by
  obtain ⟨h1, h2, h3⟩ := h
  have hr := rows_get hL h1
  refine ⟨by simp, fun r hr' => ?_, fun i hi => ?_⟩
  · rcases mem_set hr' with h | rfl
    · exact hL r h
    · exact mixed_size h2 hr hn
  · rw [byA_set h1]
    by_cases hc : s + i / 256 = w.1
    · rw [if_pos hc, mixed_get h2 hr hn (by omega)]
      split
      · rw [hc]
        exact h3 (i % 256) (by omega) (by omega) (by omega)
      · rw [hc]; rfl
    · rw [if_neg hc]
theorem first_write {L : List ByteArray} {w : Nat × ByteArray} {n : Nat} (h1 : w.1 < L.length) (h0 : w.1 ≠ 0) : First L (L.set w.1 (w.2.extract 0 n ++ (L.getD w.1 ⟨#[]⟩).extract n 256)) := fun o _ => by
  rw [byA_set h1, if_neg (Ne.symm h0)]
theorem crF_sm {L : List ByteArray} {s b : Nat} {uns : List (Nat × ByteArray)} (hL : Rows L) (hu : ∀ w ∈ uns, Agr L s b w ∧ w.1 ≠ 0) (ks : List Int) : ∀ i, Sm L (crF L uns ks i) s b ∧ First L (crF L uns ks i)
  | 0 => ⟨Sm.refl hL s b, fun _ _ => rfl⟩
  | i + 1 => by
    obtain ⟨ih1, ih2⟩ := crF_sm hL hu ks i
    unfold crF
    cases hw : uns[i]? with
    | none => exact ⟨ih1, ih2⟩
    | some w =>
      obtain ⟨ha, h0⟩ := hu w (List.mem_of_getElem? hw)
      have ha' := ha.sm ih1
      exact ⟨ih1.trans (sm_write ih1.rows ha' (keptN_bd ks i)), fun o ho => (first_write ha'.1 h0 o ho).trans (ih2 o ho)⟩
/-- Records on blocks, but for the mark. -/
structure BaseL (L : List ByteArray) (a : Nat) (recs : List ByteArray) : Prop where
  rows : Rows L
  three : 3 ≤ L.length
  most : L.length ≤ 1024
  area : a ≤ 1
  room : (textsB recs).length ≤ (L.length - 1) / 2 * 256
  data : (catK L (1 + a * ((L.length - 1) / 2)) ((L.length - 1) / 2)).take (textsB recs).length = textsB recs
  small : ∀ s ∈ recs, s.size ≤ 60000
def sec (L : List ByteArray) : List Int := (nums (L.getD 0 ⟨#[]⟩)).take 64
def OkJ (L : List ByteArray) (a : Nat) (recs : List ByteArray) : Prop := BaseL L a recs ∧ (sec L = markL a (textsB recs).length ∨ (recs = [] ∧ a = 0 ∧ sec L = zl 64))
theorem area_fits {n a : Nat} (ha : a ≤ 1) (h3 : 3 ≤ n) : 1 + a * ((n - 1) / 2) + (n - 1) / 2 ≤ n := by
  rcases Nat.le_one_iff_eq_zero_or_eq_one.1 ha with e | e <;> rw [e] <;> omega
theorem BaseL.sm {L L' : List ByteArray} {a : Nat} {recs : List ByteArray} (h : BaseL L a recs) (hs : Sm L L' (1 + a * ((L.length - 1) / 2)) (textsB recs).length) : BaseL L' a recs := by
  have hl := hs.len
  have hf := area_fits h.area h.three
  have hr := h.room
  refine ⟨hs.rows, by rw [hl]; exact h.three, by rw [hl]; exact h.most, h.area, by rw [hl]; exact h.room, ?_, h.small⟩
  rw [hl, ← h.data]
  apply List.ext_getElem?
  intro i
  have h1 : (catK L (1 + a * ((L.length - 1) / 2)) ((L.length - 1) / 2)).length = 256 * ((L.length - 1) / 2) := catK_len h.rows _ _ hf
  have h2 : (catK L' (1 + a * ((L.length - 1) / 2)) ((L.length - 1) / 2)).length = 256 * ((L.length - 1) / 2) := catK_len hs.rows _ _ (by rw [hl]; exact hf)
  have hT : ((catK L (1 + a * ((L.length - 1) / 2)) ((L.length - 1) / 2)).take (textsB recs).length).length = (textsB recs).length := by rw [h.data]
  have e : (textsB recs).length ≤ 256 * ((L.length - 1) / 2) := by omega
  rw [hT]
  by_cases hi : i < (textsB recs).length
  · rw [List.getElem?_take_of_lt hi, List.getElem?_take_of_lt hi]
    have g1 := catK_get h.rows (1 + a * ((L.length - 1) / 2)) ((L.length - 1) / 2) i hf (by omega)
    have g2 := catK_get hs.rows (1 + a * ((L.length - 1) / 2)) ((L.length - 1) / 2) i (by rw [hl]; exact hf) (by omega)
    rw [hs.data i hi, ← g1] at g2
    rw [List.getD_eq_getElem?_getD, List.getD_eq_getElem?_getD, List.getElem?_eq_getElem (by omega), List.getElem?_eq_getElem (by omega)] at g2
    rw [List.getElem?_eq_getElem (by omega), List.getElem?_eq_getElem (by omega)]
    exact congrArg some g2
  · rw [List.getElem?_eq_none (by rw [List.length_take]; omega), List.getElem?_eq_none (by rw [List.length_take]; omega)]
theorem sec_first {L L' : List ByteArray} (h : Rows L) (h' : Rows L') (h0 : 0 < L.length) (h0' : 0 < L'.length) (hf : First L L') : sec L' = sec L := by
  have h1 := rows_get h h0
  have h2 := rows_get h' h0'
  unfold First byA at hf
  unfold sec
  generalize L.getD 0 ⟨#[]⟩ = r at *
  generalize L'.getD 0 ⟨#[]⟩ = r' at *
  have n1 : (nums r).length = 256 := by rw [nums_len]; exact h1
  have n2 : (nums r').length = 256 := by rw [nums_len]; exact h2
  generalize nums r = R at *
  generalize nums r' = R' at *
  apply List.ext_getElem?
  intro i
  by_cases hi : i < 64
  · have := hf i hi
    rw [List.getElem?_take_of_lt hi, List.getElem?_take_of_lt hi]
    rw [List.getD_eq_getElem?_getD, List.getD_eq_getElem?_getD, List.getElem?_eq_getElem (by omega), List.getElem?_eq_getElem (by omega)] at this
    rw [List.getElem?_eq_getElem (by omega), List.getElem?_eq_getElem (by omega)]
    exact congrArg some this
  · rw [List.getElem?_eq_none (by rw [List.length_take]; omega), List.getElem?_eq_none (by rw [List.length_take]; omega)]
theorem OkJ.sm {L L' : List ByteArray} {a : Nat} {recs : List ByteArray} (h : OkJ L a recs) (hs : Sm L L' (1 + a * ((L.length - 1) / 2)) (textsB recs).length) (hf : First L L') : OkJ L' a recs := by
  have e := sec_first h.1.rows hs.rows (by have := h.1.three; omega) (by rw [hs.len]; have := h.1.three; omega) hf
  refine ⟨h.1.sm hs, ?_⟩
  rw [e]
  exact h.2
/-- A mark that is being written: nothing of it, or its whole sector. -/
theorem mark_crash {L : List ByteArray} {a a' : Nat} {recs recs' : List ByteArray} {w : ByteArray} (h : OkJ L a recs) (hb : BaseL L a' recs') (hw : w.size = 256) (hm : (nums w).take 64 = markL a' (textsB recs').length) (ks : List Int) :
    OkJ (crF L [(0, w)] ks 1) a recs ∨ OkJ (crF L [(0, w)] ks 1) a' recs' := by
  have h3 := h.1.three
  have hr := rows_get h.1.rows (show 0 < L.length by omega)
  have hk := keptN_bd ks 0
  have e : crF L [(0, w)] ks 1 = L.set 0 (w.extract 0 (keptN ks 0) ++ (L.getD 0 ⟨#[]⟩).extract (keptN ks 0) 256) := rfl
  rw [e]
  have hk64 : keptN ks 0 = 0 ∨ 64 ≤ keptN ks 0 := by
    unfold keptN
    split <;> omega
  have sm0 : ∀ s b, 1 ≤ s → Sm L (L.set 0 (w.extract 0 (keptN ks 0) ++ (L.getD 0 ⟨#[]⟩).extract (keptN ks 0) 256)) s b := fun s b hs =>
    sm_write (w := (0, w)) h.1.rows ⟨by show 0 < L.length; omega, hw, fun o ho hs' _ => by simp at hs'; omega⟩ hk
  rcases hk64 with h0 | h64
  · left
    refine h.sm (sm0 _ _ (by omega)) (fun o ho => ?_)
    rw [byA_set (by omega), if_pos rfl, mixed_get hw hr hk (by omega), if_neg (by omega)]
    rfl
  · right
    refine ⟨hb.sm (sm0 _ _ (by omega)), .inl ?_⟩
    rw [← hm]
    unfold sec
    have e2 : (L.set 0 (w.extract 0 (keptN ks 0) ++ (L.getD 0 ⟨#[]⟩).extract (keptN ks 0) 256)).getD 0 ⟨#[]⟩ = w.extract 0 (keptN ks 0) ++ (L.getD 0 ⟨#[]⟩).extract (keptN ks 0) 256 := by
      rw [List.getD_eq_getElem?_getD, List.getElem?_set_self (by omega)]; rfl
    rw [e2, nums_appF, nums_extractF, nums_extractF, List.take_append_of_le_length (by rw [List.length_take, List.length_drop, nums_len]; omega)]
    rw [List.drop_zero, Nat.sub_zero, List.take_take, Nat.min_eq_left h64]
def unsOf (ps : Pgs) : List (Nat × ByteArray) := ps.map fun p => (p.1, strOfNums p.2)
/-- Whatever a crash keeps of a disk, it opens. -/
def CSafe (D : DM) : Prop := ∀ ks, ∃ a recs, OkJ (crF D.firm D.uns ks D.uns.length) a recs
/-- What writing pages may leave: all of them unsynced, or the disk dead with some of them. -/
theorem wrAll_shape : ∀ (ps : Pgs) (D : DM), D.dead = false → (∀ p ∈ ps, p.1 < D.firm.length ∧ p.2.length = 256) →
    ∃ n, n ≤ ps.length ∧ (wrAll D ps).1.firm = D.firm ∧ (wrAll D ps).1.uns = D.uns ++ unsOf (ps.take n) ∧ (((wrAll D ps).2 = 0 ∧ n = ps.length ∧ (wrAll D ps).1.dead = false) ∨ ((wrAll D ps).2 ≠ 0 ∧ (wrAll D ps).1.dead = true))
  | [], D, hd, _ => ⟨0, by simp, rfl, by simp [wrAll, unsOf], .inl ⟨rfl, rfl, hd⟩⟩
  | p :: ps, D, hd, hp => by
    have h1 := hp p (by simp)
    have hok : okW D (p.1 : Nat) (strOfNums p.2) = true := by
      unfold okW hasB
      rw [sn_size]
      simp [h1.1, h1.2]
    have hw : D.write (p.1 : Nat) (strOfNums p.2) = (D.put (p.1 : Nat) (strOfNums p.2)).burn := by unfold DM.write; rw [if_pos ⟨hok, hd⟩]
    have hv : D.writeV (p.1 : Nat) (strOfNums p.2) = (D.put (p.1 : Nat) (strOfNums p.2)).burnV := by unfold DM.writeV; rw [if_pos hok, hd]; rfl
    have hput : (D.put (p.1 : Nat) (strOfNums p.2)).uns = D.uns ++ [(p.1, strOfNums p.2)] := by simp [DM.put]
    have hpf : (D.put (p.1 : Nat) (strOfNums p.2)).firm = D.firm := rfl
    have hpz : (D.put (p.1 : Nat) (strOfNums p.2)).fuse = D.fuse := rfl
    have hpd : (D.put (p.1 : Nat) (strOfNums p.2)).dead = false := hd
    generalize D.put (p.1 : Nat) (strOfNums p.2) = Dp at *
    unfold wrAll
    rw [hv, hw]
    by_cases hz : D.fuse = 0
    · have hbv : Dp.burnV = 7 := by unfold DM.burnV; rw [if_pos (hpz.trans hz)]
      have hbd : Dp.burn.dead = true := by unfold DM.burn; rw [if_pos (hpz.trans hz)]
      rw [hbv, if_neg (by omega)]
      exact ⟨1, by simp, (burn_firm Dp).trans hpf, by show Dp.burn.uns = _; rw [burn_uns, hput]; simp [unsOf], .inr ⟨by show (7 : Int) ≠ 0; omega, hbd⟩⟩
    · have hbv : Dp.burnV = 0 := by unfold DM.burnV; rw [if_neg (fun h => hz (hpz.symm.trans h))]
      have hbd : Dp.burn.dead = false := by
        unfold DM.burn
        rw [if_neg (fun h => hz (hpz.symm.trans h))]
        split <;> exact hpd
      rw [hbv, if_pos rfl]
      obtain ⟨n, n1, n2, n3, n4⟩ := wrAll_shape ps Dp.burn hbd (fun q hq => by
        rw [burn_firm, hpf]; exact hp q (by simp [hq]))
      refine ⟨n + 1, by simp; omega, by rw [n2, burn_firm, hpf], by rw [n3, burn_uns, hput]; simp [unsOf], ?_⟩
      rcases n4 with ⟨m1, m2, m3⟩ | h
      · exact .inl ⟨m1, by simp; omega, m3⟩
      · exact .inr h
theorem sync_shape {D : DM} (hd : D.dead = false) : (D.syncV = 0 ∧ D.sync.firm = D.late ∧ D.sync.uns = [] ∧ D.sync.dead = false) ∨ (D.syncV ≠ 0 ∧ D.sync.firm = D.firm ∧ D.sync.uns = D.uns ∧ D.sync.dead = true) := by
  have hnd : ¬ D.dead = true := by rw [hd]; simp
  by_cases hz : D.fuse = 0
  · right
    have hbv : D.burnV = 7 := by unfold DM.burnV; rw [if_pos hz]
    have hbd : D.burn.dead = true := by unfold DM.burn; rw [if_pos hz]
    have hs : D.sync = D.burn := by unfold DM.sync; rw [if_neg hnd, hbv, if_neg (by omega)]
    have hv : D.syncV = 7 := by unfold DM.syncV; rw [if_neg hnd, hbv]
    rw [hs, hv]
    exact ⟨by omega, burn_firm D, burn_uns D, hbd⟩
  · left
    have hbv : D.burnV = 0 := by unfold DM.burnV; rw [if_neg hz]
    have hbd : D.burn.dead = false := by
      unfold DM.burn
      rw [if_neg hz]
      split <;> exact hd
    have hs : D.sync = { D.burn with firm := D.late, uns := [] } := by unfold DM.sync; rw [if_neg hnd, hbv, if_pos rfl]
    have hv : D.syncV = 0 := by unfold DM.syncV; rw [if_neg hnd, hbv]
    rw [hs, hv]
    exact ⟨rfl, rfl, rfl, hbd⟩
theorem lateOf_sm {s b : Nat} : ∀ (uns : List (Nat × ByteArray)) (L : List ByteArray), Rows L → (∀ w ∈ uns, Agr L s b w ∧ w.1 ≠ 0) → Sm L (lateOf L uns) s b ∧ First L (lateOf L uns)
  | [], L, hL, _ => ⟨Sm.refl hL s b, fun _ _ => rfl⟩
  | w :: uns, L, hL, h => by
    obtain ⟨ha, h0⟩ := h w (by simp)
    have h1 : Sm L (L.set w.1 w.2) s b := by
      refine ⟨by simp, fun r hr => ?_, fun i hi => ?_⟩
      · rcases mem_set hr with h | rfl
        · exact hL r h
        · exact ha.2.1
      · rw [byA_set ha.1]
        by_cases hc : s + i / 256 = w.1
        · rw [if_pos hc, hc]
          exact ha.2.2 (i % 256) (by omega) (by omega) (by omega)
        · rw [if_neg hc]
    obtain ⟨k1, k2⟩ := lateOf_sm uns (L.set w.1 w.2) h1.rows (fun x hx => ⟨(h x (by simp [hx])).1.sm h1, (h x (by simp [hx])).2⟩)
    exact ⟨h1.trans k1, fun o ho => (k2 o ho).trans (by rw [byA_set ha.1, if_neg (Ne.symm h0)])⟩
theorem commit_safe {D : DM} {a a' : Nat} {recs recs' : List ByteArray} (hd : D.dead = false) (hu : D.uns = []) (hok : OkJ D.firm a recs) (ps : Pgs)
    (hp : ∀ p ∈ ps, p.1 ≠ 0 ∧ p.2.length = 256 ∧ Agr D.firm (1 + a * ((D.firm.length - 1) / 2)) (textsB recs).length (p.1, strOfNums p.2)) (mb : List Int) (hml : mb.length = 256) (hmby : By mb) (hmk : mb.take 64 = markL a' (textsB recs').length)
    (hnew : BaseL (lateOf D.firm (unsOf ps)) a' recs') :
    CSafe (commitR D ps [(0, mb)]).1 ∧ (commitR D ps [(0, mb)]).1.firm.length = D.firm.length ∧ (commitR D ps [(0, mb)]).1.uns.length ≤ ps.length + 1 ∧
      (((commitR D ps [(0, mb)]).2 = 0 ∧ (commitR D ps [(0, mb)]).1.dead = false ∧ (commitR D ps [(0, mb)]).1.uns = [] ∧ OkJ (commitR D ps [(0, mb)]).1.firm a' recs') ∨ ((commitR D ps [(0, mb)]).2 ≠ 0 ∧ (commitR D ps [(0, mb)]).1.dead = true)) := by
  have hrows := hok.1.rows
  have hagr : ∀ n, ∀ w ∈ unsOf (ps.take n), Agr D.firm (1 + a * ((D.firm.length - 1) / 2)) (textsB recs).length w ∧ w.1 ≠ 0 := fun n w hw => by
    obtain ⟨p, hpm, rfl⟩ := List.mem_map.1 hw
    have := hp p (List.mem_of_mem_take hpm)
    exact ⟨this.2.2, this.1⟩
  have hold : ∀ n ks i, OkJ (crF D.firm (unsOf (ps.take n)) ks i) a recs := fun n ks i => by
    obtain ⟨h1, h2⟩ := crF_sm hrows (hagr n) ks i
    exact hok.sm h1 h2
  obtain ⟨n, n1, n2, n3, n4⟩ := wrAll_shape ps D hd (fun p hpm => ⟨(hp p hpm).2.2.1, (hp p hpm).2.1⟩)
  rw [hu, List.nil_append] at n3
  have hul : ∀ n, (unsOf (ps.take n)).length ≤ ps.length := fun n => by unfold unsOf; rw [List.length_map, List.length_take]; omega
  rcases n4 with ⟨m1, m2, m3⟩ | ⟨m1, m2⟩
  case inr =>
    have hws : wrSync D ps = wrAll D ps := by unfold wrSync; rw [if_neg m1]
    have hc : commitR D ps [(0, mb)] = wrAll D ps := by unfold commitR; rw [hws, if_neg m1]
    rw [hc]
    refine ⟨fun ks => ⟨a, recs, ?_⟩, by rw [n2], by rw [n3]; have := hul n; omega, .inr ⟨m1, m2⟩⟩
    rw [n2, n3]
    exact hold n ks _
  subst m2
  rw [List.take_length] at n3
  have hws : wrSync D ps = ((wrAll D ps).1.sync, (wrAll D ps).1.syncV) := by unfold wrSync; rw [if_pos m1]
  have hold' : ∀ ks i, OkJ (crF D.firm (unsOf ps) ks i) a recs := fun ks i => by
    have := hold ps.length ks i
    rwa [List.take_length] at this
  have hul' := hul ps.length
  rw [List.take_length] at hul'
  have hagr' := hagr ps.length
  rw [List.take_length] at hagr'
  generalize (wrAll D ps).1 = D1 at *
  rcases sync_shape m3 with ⟨s1, s2, s3, s4⟩ | ⟨s1, s2, s3, s4⟩
  case inr =>
    have hc : commitR D ps [(0, mb)] = (D1.sync, D1.syncV) := by unfold commitR; rw [hws, if_neg s1]
    rw [hc]
    refine ⟨fun ks => ⟨a, recs, ?_⟩, by show D1.sync.firm.length = _; rw [s2, n2], by show D1.sync.uns.length ≤ _; rw [s3, n3]; omega, .inr ⟨s1, s4⟩⟩
    show OkJ (crF D1.sync.firm D1.sync.uns ks D1.sync.uns.length) a recs
    rw [s2, s3, n2, n3]
    exact hold' ks _
  have hlate : D1.late = lateOf D.firm (unsOf ps) := by unfold DM.late; rw [n2, n3]
  rw [hlate] at s2
  have hc : commitR D ps [(0, mb)] = wrSync D1.sync [(0, mb)] := by unfold commitR; rw [hws, if_pos s1]
  rw [hc]
  obtain ⟨q1, q2⟩ := lateOf_sm (unsOf ps) D.firm hrows hagr'
  have hok2 : OkJ (lateOf D.firm (unsOf ps)) a recs := hok.sm q1 q2
  have hlen2 : (lateOf D.firm (unsOf ps)).length = D.firm.length := q1.len
  generalize lateOf D.firm (unsOf ps) = L2 at *
  generalize D1.sync = D2 at *
  have h3 : 3 ≤ L2.length := hok2.1.three
  have hmsz : (strOfNums mb).size = 256 := by rw [sn_size, hml]
  have hmn : nums (strOfNums mb) = mb := nums_of mb hmby
  have hmc : ∀ ks, ∃ a recs, OkJ (crF L2 [(0, strOfNums mb)] ks 1) a recs := fun ks => by
    rcases mark_crash hok2 hnew hmsz (by rw [hmn]; exact hmk) ks with h | h
    · exact ⟨_, _, h⟩
    · exact ⟨_, _, h⟩
  obtain ⟨k, k1, k2, k3, k4⟩ := wrAll_shape [(0, mb)] D2 s4 (fun p hpm => by simp at hpm; subst hpm; exact ⟨by show 0 < D2.firm.length; rw [s2]; omega, hml⟩)
  rw [s3, List.nil_append] at k3
  rw [s2] at k2
  rcases k4 with ⟨m1', m2', m3'⟩ | ⟨m1', m2'⟩
  case inr =>
    have hws2 : wrSync D2 [(0, mb)] = wrAll D2 [(0, mb)] := by unfold wrSync; rw [if_neg m1']
    rw [hws2]
    refine ⟨fun ks => ?_, by rw [k2]; exact hlen2, by rw [k3]; unfold unsOf; rw [List.length_map, List.length_take]; simp; omega, .inr ⟨m1', m2'⟩⟩
    rw [k2, k3]
    have : k = 0 ∨ k = 1 := by simp at k1; omega
    rcases this with rfl | rfl
    · exact ⟨a, recs, hok2⟩
    · exact hmc ks
  have hk1 : k = 1 := by simpa using m2'
  subst hk1
  have k3 : (wrAll D2 [(0, mb)]).1.uns = [(0, strOfNums mb)] := k3
  have hws2 : wrSync D2 [(0, mb)] = ((wrAll D2 [(0, mb)]).1.sync, (wrAll D2 [(0, mb)]).1.syncV) := by unfold wrSync; rw [if_pos m1']
  rw [hws2]
  generalize (wrAll D2 [(0, mb)]).1 = D3 at *
  rcases sync_shape m3' with ⟨t1, t2, t3, t4⟩ | ⟨t1, t2, t3, t4⟩
  · have hl3 : D3.late = L2.set 0 (strOfNums mb) := by unfold DM.late; rw [k2, k3]; rfl
    rw [hl3] at t2
    have hokn : OkJ (L2.set 0 (strOfNums mb)) a' recs' := by
      have hsm : Sm L2 (L2.set 0 (strOfNums mb)) (1 + a' * ((L2.length - 1) / 2)) (textsB recs').length := by
        refine ⟨by simp, fun r hr => ?_, fun i hi => ?_⟩
        · rcases mem_set hr with h | rfl
          · exact hok2.1.rows r h
          · exact hmsz
        · rw [byA_set (by omega), if_neg (by omega)]
      refine ⟨hnew.sm hsm, .inl ?_⟩
      rw [← hmk]
      unfold sec
      have e2 : (L2.set 0 (strOfNums mb)).getD 0 ⟨#[]⟩ = strOfNums mb := by rw [List.getD_eq_getElem?_getD, List.getElem?_set_self (by omega)]; rfl
      rw [e2, hmn]
    refine ⟨fun ks => ⟨a', recs', ?_⟩, by show D3.sync.firm.length = _; rw [t2]; simp; exact hlen2, by show D3.sync.uns.length ≤ _; rw [t3]; simp, .inl ⟨t1, t4, t3, by show OkJ D3.sync.firm a' recs'; rw [t2]; exact hokn⟩⟩
    show OkJ (crF D3.sync.firm D3.sync.uns ks D3.sync.uns.length) a' recs'
    rw [t2, t3]
    exact hokn
  · refine ⟨fun ks => ?_, by show D3.sync.firm.length = _; rw [t2, k2]; exact hlen2, by show D3.sync.uns.length ≤ _; rw [t3, k3]; simp, .inr ⟨t1, t4⟩⟩
    show ∃ a recs, OkJ (crF D3.sync.firm D3.sync.uns ks D3.sync.uns.length) a recs
    rw [t2, t3, k2, k3]
    exact hmc ks
end
section
theorem puts_uns : ∀ (ps : Pgs) (D : DM), (D.puts ps).uns = D.uns ++ unsOf ps
  | [], D => by simp [unsOf, DM.puts]
  | p :: ps, D => by
    rw [puts_one, puts_uns ps]
    simp [DM.put, unsOf]
theorem lateOf_pages {L : List ByteArray} {A k : Nat} {Y : List Int} (h : A + k ≤ L.length) (j : Nat) : (lateOf L (unsOf (pgL A Y k))).getD j ⟨#[]⟩ = if A ≤ j ∧ j < A + k then strOfNums (fillB ((Y.drop (256 * (j - A))).take 256)) else L.getD j ⟨#[]⟩ := by
  have h1 := puts_late ⟨L, [], -1, false⟩ A Y k h j
  have h2 : (DM.puts ⟨L, [], -1, false⟩ (pgL A Y k)).late = lateOf L (unsOf (pgL A Y k)) := by
    unfold DM.late
    rw [puts_firm, puts_uns, List.nil_append]
  rw [h2] at h1
  exact h1
theorem late_unsOf_rows {L : List ByteArray} (hL : Rows L) {A k : Nat} {Y : List Int} : Rows (lateOf L (unsOf (pgL A Y k))) := late_rows hL (fun w hw => by
  obtain ⟨p, hp, rfl⟩ := List.mem_map.1 hw
  show (strOfNums p.2).size = 256
  rw [sn_size]
  exact (pgL_mem hp).2.2)
/-- Snap: the other area has just these bytes. -/
theorem base_snap {L : List ByteArray} {a : Nat} {recs ps : List ByteArray} (h : BaseL L a recs) {a' : Nat} (ha' : a' ≤ 1) (hps : ∀ s ∈ ps, s.size ≤ 60000) (hby : By (textsB ps)) (hroom : (textsB ps).length ≤ (L.length - 1) / 2 * 256) :
    BaseL (lateOf L (unsOf (pgL (1 + a' * ((L.length - 1) / 2)) (textsB ps) (((textsB ps).length + 255) / 256)))) a' ps := by
  have h3 := h.three
  obtain ⟨Hf, hHf⟩ : ∃ Hf, Hf = (L.length - 1) / 2 := ⟨_, rfl⟩
  obtain ⟨k, hk⟩ : ∃ k, k = ((textsB ps).length + 255) / 256 := ⟨_, rfl⟩
  have hfit := area_fits ha' h3
  rw [← hHf] at hroom hfit ⊢
  rw [← hk]
  obtain ⟨A, hA⟩ : ∃ A, A = 1 + a' * Hf := ⟨_, rfl⟩
  rw [← hA] at hfit ⊢
  have hkH : k ≤ Hf := by omega
  have hg := fun j => lateOf_pages (L := L) (A := A) (k := k) (Y := textsB ps) (by omega) j
  have hrows := late_unsOf_rows h.rows (A := A) (k := k) (Y := textsB ps)
  have hlen : (lateOf L (unsOf (pgL A (textsB ps) k))).length = L.length := late_len _ _
  generalize lateOf L (unsOf (pgL A (textsB ps) k)) = L2 at *
  refine ⟨hrows, by omega, by rw [hlen]; exact h.most, ha', by rw [hlen, ← hHf]; exact hroom, ?_, hps⟩
  rw [hlen, ← hHf, ← hA, show Hf = k + (Hf - k) by omega, catK_take hrows A k (Hf - k) _ (by omega) (by omega), catK_pages hby k (by omega) (fun j h1 h2 => by rw [hg j, if_pos ⟨h1, h2⟩])]
  exact List.take_of_length_le (by omega)
theorem agr_snap {L : List ByteArray} {a b k : Nat} {Y : List Int} (hY : By Y) (ha : a ≤ 1) (h3 : 3 ≤ L.length) (hb : b ≤ (L.length - 1) / 2 * 256) (hk : k ≤ (L.length - 1) / 2) :
    ∀ p ∈ pgL (1 + (1 - a) * ((L.length - 1) / 2)) Y k, p.1 ≠ 0 ∧ p.2.length = 256 ∧ Agr L (1 + a * ((L.length - 1) / 2)) b (p.1, strOfNums p.2) := fun p hp => by
  obtain ⟨h1, h2, h4⟩ := pgL_mem hp
  obtain ⟨Hf, hHf⟩ : ∃ Hf, Hf = (L.length - 1) / 2 := ⟨_, rfl⟩
  rw [← hHf] at hb hk h1 h2 ⊢
  refine ⟨by omega, h4, ?_, by show (strOfNums p.2).size = 256; rw [sn_size, h4], fun o ho hs hlt => ?_⟩
  · show p.1 < L.length
    rcases Nat.le_one_iff_eq_zero_or_eq_one.1 ha with e | e <;> subst e <;> simp at h1 h2 <;> omega
  · exfalso
    simp only at hs hlt
    rcases Nat.le_one_iff_eq_zero_or_eq_one.1 ha with e | e <;> subst e <;> simp at h1 h2 hs hlt <;> omega
/-- Append: the blocks behind those that are there; the first one begins with what was there. -/
theorem agr_append {L : List ByteArray} {s b : Nat} (hL : Rows L) {Y xs : List Int} (hxs : By xs) {k : Nat} (hk : k = (Y.length + 255) / 256) (hs : 0 < s) (hfit : s + b / 256 + k ≤ L.length)
    (hY : Y = if b % 256 = 0 then xs else (nums (L.getD (s + b / 256) ⟨#[]⟩)).take (b % 256) ++ xs) :
    ∀ p ∈ pgL (s + b / 256) Y k, p.1 ≠ 0 ∧ p.2.length = 256 ∧ Agr L s b (p.1, strOfNums p.2) := by
  have key : ∀ j, j ≤ k → ∀ p ∈ pgL (s + b / 256) Y j, ∃ i, i < j ∧ p = (s + b / 256 + i, fillB ((Y.drop (256 * i)).take 256)) := by
    intro j
    induction j with
    | zero => intro _ p hp; simp [pgL] at hp
    | succ j ih =>
      intro hj p hp
      simp only [pgL, List.mem_append, List.mem_singleton] at hp
      rcases hp with hp | rfl
      · obtain ⟨i, hi, e⟩ := ih (by omega) p hp
        exact ⟨i, by omega, e⟩
      · exact ⟨j, by omega, rfl⟩
  intro p hp
  obtain ⟨i, hi, rfl⟩ := key k (Nat.le_refl _) p hp
  have hYb : By Y := by
    rw [hY]
    split
    · exact hxs
    · exact (By.take (fun x hx => nums_bd _ x hx) _).app hxs
  have hfl : (fillB ((Y.drop (256 * i)).take 256)).length = 256 := fillB_len (by rw [List.length_take]; omega)
  refine ⟨by show s + b / 256 + i ≠ 0; omega, hfl, by show s + b / 256 + i < L.length; omega, by show (strOfNums (fillB ((Y.drop (256 * i)).take 256))).size = 256; rw [sn_size, hfl], fun o ho hsw hlt => ?_⟩
  simp only at hsw hlt ⊢
  have hi0 : i = 0 := by omega
  subst hi0
  have hom : o < b % 256 := by omega
  have hne : b % 256 ≠ 0 := by omega
  rw [if_neg hne] at hY
  rw [nums_of _ (fillB_by ((hYb.drop _).take _))]
  have hrl : (nums (L.getD (s + b / 256) ⟨#[]⟩)).length = 256 := by rw [nums_len]; exact rows_get hL (by omega)
  unfold byA fillB
  show (((Y.drop (256 * 0)).take 256) ++ zl _).getD o 0 = (nums (L.getD (s + b / 256) ⟨#[]⟩)).getD o 0
  generalize nums (L.getD (s + b / 256) ⟨#[]⟩) = R at *
  have hYl : b % 256 ≤ Y.length := by rw [hY, List.length_append, List.length_take]; omega
  rw [List.getD_eq_getElem?_getD, List.getElem?_append_left (by rw [List.length_take, List.length_drop]; omega), List.getElem?_take_of_lt (by omega), Nat.mul_zero, List.drop_zero, hY, List.getElem?_append_left (by rw [List.length_take]; omega), List.getElem?_take_of_lt hom, List.getD_eq_getElem?_getD]
end
section
/-- What stands at every act of a play. -/
structure Good (J : JM) : Prop where
  safe : CSafe J.D
  three : 3 ≤ J.D.firm.length
  size : J.size = (textsB J.recs).length
  area : J.area ≤ 1
  room : J.size ≤ J.half * 256
  small : ∀ s ∈ J.recs, s.size ≤ 60000
  live : J.D.dead = false → J.D.uns = [] ∧ OkJ J.D.firm J.area J.recs
  few : J.D.uns.length ≤ 200
/-- The pages that the reference writes: of all bytes of the area, from the block on in which the new ones begin. -/
def rpages (J : JM) (a have_ : Nat) (s : List Int) : Pgs := pgL (1 + a * J.half + have_ / 256) (s.drop (256 * (have_ / 256))) (((s.drop (256 * (have_ / 256))).length + 255) / 256)
theorem commit_dead {D : DM} (hd : D.dead = true) {p : Nat × List Int} {ps ms : Pgs} (h1 : p.1 < D.firm.length) (h2 : p.2.length = 256) : commitR D (p :: ps) ms = (D, 7) := by
  have hok : okW D (p.1 : Nat) (strOfNums p.2) = true := by
    unfold okW hasB
    rw [sn_size]
    simp [h1, h2]
  have hw : D.write (p.1 : Nat) (strOfNums p.2) = D := by unfold DM.write; rw [if_neg (by rw [hd]; simp)]
  have hv : D.writeV (p.1 : Nat) (strOfNums p.2) = 7 := by unfold DM.writeV; rw [if_pos hok, if_pos hd]
  have hwr : wrAll D (p :: ps) = (D, 7) := by unfold wrAll; rw [hv, if_neg (by omega), hw]
  have hws : wrSync D (p :: ps) = (D, 7) := by unfold wrSync; rw [hwr]; rfl
  unfold commitR
  rw [hws]
  rfl
theorem pgL_cons {A : Nat} {Y : List Int} {k : Nat} (hk : 0 < k) : ∃ p ps, pgL A Y k = p :: ps := by
  have := pgL_len A Y k
  cases h : pgL A Y k with
  | nil => rw [h] at this; simp at this; omega
  | cons p ps => exact ⟨p, ps, rfl⟩
theorem commit_dead' {D : DM} (hd : D.dead = true) {A : Nat} {Y : List Int} {k : Nat} {ms : Pgs} (hk : 0 < k) (hf : A + k ≤ D.firm.length) : commitR D (pgL A Y k) ms = (D, 7) := by
  obtain ⟨p, ps, h⟩ := pgL_cons (A := A) (Y := Y) hk
  have hm := pgL_mem (show p ∈ pgL A Y k by rw [h]; simp)
  rw [h]
  exact commit_dead hd (by omega) hm.2.2
/-- Where the disk is alive the code's pages are the reference's. -/
theorem pages_same {J : JM} (h : Good J) (hl : J.D.dead = false) (xs : List Int) : J.pages J.area J.size xs = rpages J J.area J.size (textsB J.recs ++ xs) := by
  obtain ⟨hu, hok⟩ := h.live hl
  have hlate : J.D.late = J.D.firm := settled_late hu
  have hb := hok.1
  have hdat := hb.data
  have hfit := area_fits hb.area hb.three
  have hroom := hb.room
  have hsz := h.size
  unfold JM.pages rpages JM.pageB JM.pageAt JM.start JM.half
  rw [hlate]
  obtain ⟨Hf, hHf⟩ : ∃ Hf, Hf = (J.D.firm.length - 1) / 2 := ⟨_, rfl⟩
  obtain ⟨R, hR⟩ : ∃ R, R = textsB J.recs := ⟨_, rfl⟩
  rw [← hHf] at hdat hfit hroom ⊢
  rw [← hR] at hdat hroom hsz ⊢
  obtain ⟨b, hbe⟩ : ∃ b, b = J.size := ⟨_, rfl⟩
  rw [← hbe] at hsz ⊢
  obtain ⟨s, hs⟩ : ∃ s, s = 1 + J.area * Hf := ⟨_, rfl⟩
  rw [← hs] at hdat hfit ⊢
  have key : (if b % 256 = 0 then xs else (nums (J.D.firm.getD (s + b / 256) ⟨#[]⟩)).take (b % 256) ++ xs) = (R ++ xs).drop (256 * (b / 256)) := by
    rw [List.drop_append_of_le_length (by omega)]
    by_cases hm : b % 256 = 0
    · rw [if_pos hm, List.drop_of_length_le (by omega), List.nil_append]
    · rw [if_neg hm]
      congr 1
      have hsp : catK J.D.firm s Hf = catK J.D.firm s (b / 256) ++ catK J.D.firm (s + b / 256) (Hf - b / 256) := by
        rw [← catK_app, show b / 256 + (Hf - b / 256) = Hf by omega]
      have hXl : (catK J.D.firm s (b / 256)).length = 256 * (b / 256) := catK_len hb.rows s (b / 256) (by omega)
      have h1 : catK J.D.firm (s + b / 256) (Hf - b / 256) = nums (J.D.firm.getD (s + b / 256) ⟨#[]⟩) ++ catK J.D.firm (s + b / 256 + 1) (Hf - b / 256 - 1) := by
        have h2 := catK_app J.D.firm (s + b / 256) 1 (Hf - b / 256 - 1)
        rw [show 1 + (Hf - b / 256 - 1) = Hf - b / 256 by omega] at h2
        rw [h2]
        simp [catK]
      have hnl : (nums (J.D.firm.getD (s + b / 256) ⟨#[]⟩)).length = 256 := by rw [nums_len]; exact rows_get hb.rows (by omega)
      rw [← hdat, ← hsz, hsp, h1]
      generalize nums (J.D.firm.getD (s + b / 256) ⟨#[]⟩) = N at *
      generalize catK J.D.firm s (b / 256) = X at *
      rw [show b = X.length + b % 256 by omega, List.take_length_add_append, show 256 * ((X.length + b % 256) / 256) = X.length by omega, List.drop_left, show (X.length + b % 256) % 256 = b % 256 by omega, List.take_append_of_le_length (by omega)]
  rw [key]
theorem textsB_ne {ps : List ByteArray} (h : ps ≠ []) : 0 < (textsB ps).length := by
  have := textsB_ge ps
  have := List.length_pos_iff.2 h
  omega
/-- What Append's pages make: the area has the records, and the new ones. -/
theorem base_app {J : JM} (h : Good J) (hl : J.D.dead = false) {ps : List ByteArray} (hps : ∀ s ∈ ps, s.size ≤ 60000) (hroom : J.size + (textsB ps).length ≤ J.half * 256) :
    BaseL (lateOf J.D.firm (unsOf (J.pages J.area J.size (textsB ps)))) J.area (J.recs ++ ps) := by
  obtain ⟨hu, hok⟩ := h.live hl
  have hlate : J.D.late = J.D.firm := settled_late hu
  obtain ⟨D, recs, a, size⟩ := J
  have hsz : size = (textsB recs).length := h.size
  subst hsz
  simp only at hl hu hok hlate
  have hb := hok.1
  obtain ⟨Dw, hDw⟩ : ∃ Dw : DM, Dw = { D with fuse := -1 } := ⟨_, rfl⟩
  have hwf : Dw.firm = D.firm := by rw [hDw]
  have hwu : Dw.uns = [] := by rw [hDw]; exact hu
  have hwl : Dw.late = D.firm := by rw [settled_late hwu, hwf]
  have hwell : Dw.Well := by rw [hDw]; exact ⟨rfl, hl⟩
  have hbase : Base Dw a recs := ⟨by rw [hwf]; exact hb.three, by rw [hwf]; exact hb.most, hb.area, by rw [hwf]; exact hb.room, by rw [hwl, hwf]; exact hb.data, hb.small⟩
  obtain ⟨D', c1, c2, c3, c4, c5⟩ := commit_well (ps := ps) hwell hbase (by rw [hwl]; exact hb.rows) hps (textsB_byJ _) (by rw [hwf]; exact hroom)
  have hpg : JM.pages ⟨Dw, recs, a, (textsB recs).length⟩ a (textsB recs).length (textsB ps) = JM.pages ⟨D, recs, a, (textsB recs).length⟩ a (textsB recs).length (textsB ps) := by
    unfold JM.pages JM.pageB JM.pageAt JM.start JM.half
    show pgL _ _ _ = pgL _ _ _
    rw [hwl, hwf, hlate]
  rw [hpg] at c1
  have hrows2 : Rows (lateOf D.firm (unsOf (JM.pages ⟨D, recs, a, (textsB recs).length⟩ a (textsB recs).length (textsB ps)))) := by
    unfold JM.pages
    exact late_unsOf_rows hb.rows
  have hin : ∀ p ∈ JM.pages ⟨D, recs, a, (textsB recs).length⟩ a (textsB recs).length (textsB ps), p.1 < Dw.firm.length ∧ p.2.length = 256 := fun p hp => by
    have hf := area_fits hb.area hb.three
    have hpl := pages_len ⟨D, recs, a, (textsB recs).length⟩ a (textsB recs).length (textsB ps)
    have hroom' : (textsB recs).length + (textsB ps).length ≤ (D.firm.length - 1) / 2 * 256 := hroom
    unfold JM.pages at hp
    have hm := pgL_mem hp
    have hA : JM.pageAt ⟨D, recs, a, (textsB recs).length⟩ a (textsB recs).length = 1 + a * ((D.firm.length - 1) / 2) + (textsB recs).length / 256 := rfl
    have hB : (JM.pageB ⟨D, recs, a, (textsB recs).length⟩ a (textsB recs).length (textsB ps)).length ≤ (textsB recs).length % 256 + (textsB ps).length := by
      unfold JM.pageB
      split
      · omega
      · rw [List.length_append, List.length_take]; omega
    rw [hwf]
    omega
  generalize JM.pages ⟨D, recs, a, (textsB recs).length⟩ a (textsB recs).length (textsB ps) = pg at *
  obtain ⟨w1, w2, w3, w4, w5⟩ := wrSync_well hwell hin
  have hml := markL_len a ((textsB recs).length + (textsB ps).length)
  obtain ⟨v1, v2, v3, v4, v5⟩ := wrSync_well (D := Dw.done pg) (ps := [(0, fillB (markL a ((textsB recs).length + (textsB ps).length)))]) w2 (fun p hp => by simp at hp; subst hp; exact ⟨by show 0 < _; rw [w4, hwf]; have := hb.three; omega, fillB_len (by rw [hml]; omega)⟩)
  have hc : commitR Dw pg [(0, fillB (markL a ((textsB recs).length + (textsB ps).length)))] = ((Dw.done pg).done [(0, fillB (markL a ((textsB recs).length + (textsB ps).length)))], 0) := by
    unfold commitR
    rw [w1]
    simp only [if_true]
    rw [v1]
  rw [hc] at c1
  have hD' : (Dw.done pg).done [(0, fillB (markL a ((textsB recs).length + (textsB ps).length)))] = D' := congrArg Prod.fst c1
  have hL2 : (Dw.done pg).late = lateOf D.firm (unsOf pg) := by
    rw [w5]
    unfold DM.late
    rw [puts_firm, puts_uns, hwu, hwf, List.nil_append]
  have hl' : D'.late = (lateOf D.firm (unsOf pg)).set 0 (strOfNums (fillB (markL a ((textsB recs).length + (textsB ps).length)))) := by
    rw [← hD', v5, puts_one]
    show ((Dw.done pg).put _ _).late = _
    rw [put_late, hL2]
    rfl
  have hlen2 : (lateOf D.firm (unsOf pg)).length = D.firm.length := late_len _ _
  have hDl : D'.firm.length = D.firm.length := by rw [c4, hwf]
  have hDr : D'.late = D'.firm := settled_late c3
  have h3 := hb.three
  have hmby := fillB_by (markL_by a ((textsB recs).length + (textsB ps).length))
  have hmsz : (strOfNums (fillB (markL a ((textsB recs).length + (textsB ps).length)))).size = 256 := by rw [sn_size, fillB_len (by rw [hml]; omega)]
  have hrows' : Rows D'.late := fun r hr => by
    rw [hl'] at hr
    rcases mem_set hr with h | rfl
    · exact hrows2 r h
    · exact hmsz
  have hbl : BaseL D'.late a (recs ++ ps) := by
    have e : D'.late.length = D'.firm.length := by rw [hDr]
    exact ⟨hrows', by rw [e]; exact c5.three, by rw [e]; exact c5.most, c5.area, by rw [e]; exact c5.room, by rw [e]; exact c5.data, c5.small⟩
  refine hbl.sm ⟨by rw [hl']; simp, hrows2, fun i hi => ?_⟩
  rw [hl', byA_set (by omega), if_neg (by omega)]
/-- What a commit's end makes of a journal. -/
def endJ (J : JM) (r : DM × Int) (recs : List ByteArray) (a n : Nat) : JM × Int := if r.2 = 0 then (⟨r.1, recs, a, n⟩, 0) else (⟨r.1, J.recs, J.area, J.size⟩, 7)
theorem rp_fits {J : JM} (h : Good J) {a have_ : Nat} {s : List Int} (ha : a ≤ 1) (hs : s.length ≤ J.half * 256) (hh : have_ ≤ s.length) :
    1 + a * J.half + have_ / 256 + ((s.drop (256 * (have_ / 256))).length + 255) / 256 ≤ J.D.firm.length := by
  have := area_fits ha h.three
  rw [List.length_drop]
  unfold JM.half at hs ⊢
  omega
theorem good_end {J : JM} (h : Good J) (hmost : J.D.firm.length ≤ 1024) {a' : Nat} {recs' : List ByteArray} (ha' : a' ≤ 1) (hsm : ∀ s ∈ recs', s.size ≤ 60000) (hroom : (textsB recs').length ≤ J.half * 256) {A k : Nat} {Y : List Int} (hk : 0 < k) (hk2 : k ≤ 190) (hf : A + k ≤ J.D.firm.length)
    (hl : J.D.dead = false → (∀ p ∈ pgL A Y k, p.1 ≠ 0 ∧ p.2.length = 256 ∧ Agr J.D.firm (1 + J.area * ((J.D.firm.length - 1) / 2)) (textsB J.recs).length (p.1, strOfNums p.2)) ∧ BaseL (lateOf J.D.firm (unsOf (pgL A Y k))) a' recs') :
    Good (endJ J (commitR J.D (pgL A Y k) [(0, fillB (markL a' (textsB recs').length))]) recs' a' (textsB recs').length).1 ∧
      (endJ J (commitR J.D (pgL A Y k) [(0, fillB (markL a' (textsB recs').length))]) recs' a' (textsB recs').length).1.D.firm.length = J.D.firm.length := by
  cases hd : J.D.dead with
  | true =>
    rw [commit_dead' hd hk hf]
    exact ⟨⟨h.safe, h.three, h.size, h.area, h.room, h.small, h.live, h.few⟩, rfl⟩
  | false =>
    obtain ⟨hu, hok⟩ := h.live hd
    obtain ⟨hp, hnew⟩ := hl hd
    have hml := markL_len a' (textsB recs').length
    have hmby := markL_by a' (textsB recs').length
    obtain ⟨c1, c2, c3, c4⟩ := commit_safe hd hu hok (pgL A Y k) hp (fillB (markL a' (textsB recs').length)) (fillB_len (by rw [hml]; omega)) (fillB_by hmby) (by
      unfold fillB
      rw [List.take_append_of_le_length (by omega), List.take_of_length_le (by omega)]) hnew
    generalize commitR J.D (pgL A Y k) [(0, fillB (markL a' (textsB recs').length))] = r at *
    have hhalf : ∀ J' : JM, J'.D = r.1 → J'.half = J.half := fun J' e => by unfold JM.half; rw [e, c2]
    have hfew : r.1.uns.length ≤ 200 := by rw [pgL_len] at c3; omega
    unfold endJ
    rcases c4 with ⟨d1, d2, d3, d4⟩ | ⟨d1, d2⟩
    · rw [if_pos d1]
      exact ⟨⟨c1, by show 3 ≤ r.1.firm.length; rw [c2]; exact h.three, rfl, ha', by show (textsB recs').length ≤ _; rw [hhalf _ rfl]; exact hroom, hsm, fun _ => ⟨d3, d4⟩, hfew⟩, c2⟩
    · rw [if_neg d1]
      exact ⟨⟨c1, by show 3 ≤ r.1.firm.length; rw [c2]; exact h.three, h.size, h.area, by show J.size ≤ _; rw [hhalf _ rfl]; exact h.room, h.small, fun hh => (by rw [show (JM.mk r.1 J.recs J.area J.size).D.dead = r.1.dead from rfl, d2] at hh; cases hh), hfew⟩, c2⟩
/-- Append: the code's commit is the reference's, and what it leaves is good. -/
theorem good_app {J : JM} (h : Good J) (hmost : J.D.firm.length ≤ 1024) {ps : List ByteArray} (hne : ps ≠ []) (hps : ∀ s ∈ ps, s.size ≤ 60000) (hb : (textsB ps).length ≤ 40000) (hroom : J.size + (textsB ps).length ≤ J.half * 256) :
    appJ J ps = endJ J (commitR J.D (rpages J J.area J.size (textsB (J.recs ++ ps))) [(0, fillB (markL J.area (textsB (J.recs ++ ps)).length))]) (J.recs ++ ps) J.area (textsB (J.recs ++ ps)).length ∧ Good (appJ J ps).1 ∧ (appJ J ps).1.D.firm.length = J.D.firm.length := by
  have hta : textsB (J.recs ++ ps) = textsB J.recs ++ textsB ps := by simp [textsB]
  have htl : (textsB (J.recs ++ ps)).length = J.size + (textsB ps).length := by rw [hta, List.length_append, h.size]
  have hpos := textsB_ne hne
  have hfit := rp_fits h (a := J.area) (have_ := J.size) (s := textsB (J.recs ++ ps)) h.area (by rw [htl]; exact hroom) (by rw [htl]; omega)
  have hdl : ((textsB (J.recs ++ ps)).drop (256 * (J.size / 256))).length = J.size % 256 + (textsB ps).length := by rw [List.length_drop, htl]; omega
  have e1 : appJ J ps = endJ J (commitR J.D (rpages J J.area J.size (textsB (J.recs ++ ps))) [(0, fillB (markL J.area (textsB (J.recs ++ ps)).length))]) (J.recs ++ ps) J.area (textsB (J.recs ++ ps)).length := by
    have hcm : commitR J.D (J.pages J.area J.size (textsB ps)) [(0, fillB (markL J.area (J.size + (textsB ps).length)))] = commitR J.D (rpages J J.area J.size (textsB (J.recs ++ ps))) [(0, fillB (markL J.area (J.size + (textsB ps).length)))] := by
      cases hd : J.D.dead with
      | false => rw [hta, ← pages_same h hd]
      | true =>
        have hB : 0 < (J.pageB J.area J.size (textsB ps)).length ∧ (J.pageB J.area J.size (textsB ps)).length ≤ J.size % 256 + (textsB ps).length := by
          unfold JM.pageB
          split
          · omega
          · rw [List.length_append, List.length_take]; omega
        have hA : J.pageAt J.area J.size = 1 + J.area * J.half + J.size / 256 := rfl
        have hff := area_fits h.area h.three
        have hrr := hroom
        unfold JM.pages rpages
        rw [commit_dead' hd (by omega) (by rw [hA]; unfold JM.half at hrr ⊢; omega), commit_dead' hd (by omega) hfit]
    unfold appJ endJ
    rw [if_neg (by omega), if_neg hne, htl, hcm]
  refine ⟨e1, ?_⟩
  rw [e1]
  refine good_end h hmost h.area (fun s hs => ?_) (by rw [htl]; exact hroom) (by omega) (by omega) hfit (fun hl => ?_)
  · rcases List.mem_append.1 hs with hs | hs
    · exact h.small s hs
    · exact hps s hs
  · have hps2 := pages_same h hl (textsB ps)
    rw [← hta] at hps2
    refine ⟨?_, ?_⟩
    · obtain ⟨hu, hok⟩ := h.live hl
      have hlate : J.D.late = J.D.firm := settled_late hu
      have hag := agr_append (L := J.D.firm) (s := 1 + J.area * J.half) (b := J.size) hok.1.rows (xs := textsB ps) (textsB_byJ _) (Y := J.pageB J.area J.size (textsB ps)) rfl (by omega) (by
        have hff := area_fits h.area h.three
        have hB : (J.pageB J.area J.size (textsB ps)).length ≤ J.size % 256 + (textsB ps).length := by
          unfold JM.pageB
          split
          · omega
          · rw [List.length_append, List.length_take]; omega
        have hrr := hroom
        unfold JM.half at hrr ⊢
        omega) (by unfold JM.pageB JM.pageAt JM.start; rw [hlate])
      have : pgL (1 + J.area * J.half + J.size / 256) (J.pageB J.area J.size (textsB ps)) (((J.pageB J.area J.size (textsB ps)).length + 255) / 256) = rpages J J.area J.size (textsB (J.recs ++ ps)) := hps2
      rw [this, h.size] at hag
      rw [h.size] at hps2
      have e2 := hag
      rw [← h.size] at e2
      intro p hp
      have := e2 p hp
      rw [h.size] at this
      exact this
    · have hbn := base_app h hl hps hroom
      rw [hps2] at hbn
      exact hbn
theorem good_snap {J : JM} (h : Good J) (hmost : J.D.firm.length ≤ 1024) {s : ByteArray} (hs : s.size ≤ 40000) (hroom : (textsB [s]).length ≤ J.half * 256) :
    snapJ J s = endJ J (commitR J.D (rpages J (1 - J.area) 0 (textsB [s])) [(0, fillB (markL (1 - J.area) (textsB [s]).length))]) [s] (1 - J.area) (textsB [s]).length ∧ Good (snapJ J s).1 ∧ (snapJ J s).1.D.firm.length = J.D.firm.length := by
  have hpos := textsB_ne (ps := [s]) (by simp)
  have hup : (textsB [s]).length ≤ 5 + s.size := by
    have := textB_len s
    have e : textsB [s] = textB s := by simp [textsB]
    rw [e]; omega
  have ha := h.area
  have hfit := rp_fits h (a := 1 - J.area) (have_ := 0) (s := textsB [s]) (by omega) hroom (by omega)
  have hpg : J.pages (1 - J.area) 0 (textsB [s]) = rpages J (1 - J.area) 0 (textsB [s]) := by
    unfold JM.pages rpages JM.pageB JM.pageAt JM.start
    simp
  have e1 : snapJ J s = endJ J (commitR J.D (rpages J (1 - J.area) 0 (textsB [s])) [(0, fillB (markL (1 - J.area) (textsB [s]).length))]) [s] (1 - J.area) (textsB [s]).length := by
    unfold snapJ endJ
    rw [if_neg (by omega), hpg, Nat.zero_add]
  refine ⟨e1, ?_⟩
  rw [e1]
  have hd0 : 256 * (0 / 256) = 0 := rfl
  unfold rpages at hfit ⊢
  rw [hd0, List.drop_zero] at hfit ⊢
  refine good_end h hmost (by omega) (fun x hx => by simp at hx; subst hx; omega) hroom (by omega) (by omega) hfit (fun hl => ?_)
  obtain ⟨hu, hok⟩ := h.live hl
  refine ⟨agr_snap (textsB_byJ _) ha hok.1.three hok.1.room ?_, base_snap hok.1 (by omega) (fun x hx => by simp at hx; subst hx; omega) (textsB_byJ _) hroom⟩
  have hrr := hroom
  unfold JM.half at hrr
  omega
theorem good_crash {J : JM} (h : Good J) (ks : List Int) (hrows : Rows (J.D.crash ks).firm) : ∃ J', openJ (J.D.crash ks) = (some J', 0) ∧ J'.D = J.D.crash ks ∧ Good J' := by
  obtain ⟨a, recs, hb, hm⟩ := h.safe ks
  have hf : (J.D.crash ks).firm = crF J.D.firm J.D.uns ks J.D.uns.length := rfl
  have hu : (J.D.crash ks).uns = [] := rfl
  have hdd : (J.D.crash ks).dead = false := rfl
  have hl : (J.D.crash ks).late = (J.D.crash ks).firm := settled_late hu
  rw [← hf] at hb hm
  generalize J.D.crash ks = D at *
  have hopen : openJ D = (some ⟨D, recs, a, (textsB recs).length⟩, 0) := by
    rcases hm with hm | ⟨rfl, rfl, hm⟩
    · exact open_holds ⟨hb.three, hb.most, hb.area, by unfold firstL; rw [hl]; exact hm, hb.room, by rw [hl]; exact hb.data, hb.small⟩
    · have : (textsB []).length = 0 := by simp [textsB]
      rw [this]
      exact open_blank hb.three (by unfold firstL; rw [hl]; exact hm)
  refine ⟨_, hopen, rfl, ⟨fun ks' => ⟨a, recs, ?_⟩, hb.three, rfl, hb.area, hb.room, hb.small, fun _ => ⟨hu, hb, hm⟩, by show D.uns.length ≤ 200; rw [hu]; simp⟩⟩
  show OkJ (crF D.firm D.uns ks' D.uns.length) a recs
  rw [hu]
  exact ⟨hb, hm⟩
theorem good_new (b : Int) (h : 3 ≤ newN b) : Good ⟨newD b, [], 0, 0⟩ := by
  have hl := live_new b h
  have hN := newN_bd b
  have hlen : (newD b).firm.length = newN b := by simp [newD]
  have hu : (newD b).uns = [] := rfl
  have hlate : (newD b).late = (newD b).firm := settled_late hu
  have hok : OkJ (newD b).firm 0 [] := by
    refine ⟨⟨fun r hr => (newD_ok b).rows r hr, by omega, by omega, by omega, by simp [textsB], by simp [textsB], by simp⟩, .inr ⟨rfl, rfl, ?_⟩⟩
    rcases hl.rest with hh | ⟨_, _, hh⟩
    · have h1 := hh.mark
      have h2 := (live_new b h).opens
      unfold openJ at h2
      rw [if_neg (by show ¬ (newD b).firm.length < 3; omega)] at h2
      exfalso
      have h3 : firstL (newD b) = zl 64 := by
        unfold firstL
        rw [newD_late, List.getD_eq_getElem?_getD, List.getElem?_replicate, if_pos (by omega), Option.getD_some, zs_eq, nums_of _ (zl_by _)]
        rfl
      exact mark_ne (h1.symm.trans h3)
    · unfold sec
      unfold firstL at hh
      rw [hlate] at hh
      exact hh
  refine ⟨fun ks => ⟨0, [], ?_⟩, by show 3 ≤ (newD b).firm.length; omega, by simp [textsB], by simp, by simp, by simp, fun _ => ⟨hu, hok⟩, by show (newD b).uns.length ≤ 200; rw [hu]; simp⟩
  show OkJ (crF (newD b).firm (newD b).uns ks (newD b).uns.length) 0 []
  rw [hu]
  exact hok
/-- A fuse turns nothing of it. -/
theorem good_fuse {J : JM} (h : Good J) (z : Int) : Good { J with D := { J.D with fuse := z } } :=
  ⟨h.safe, h.three, h.size, h.area, h.room, h.small, h.live, h.few⟩
end
section
theorem pgL_take {A : Nat} {Y : List Int} {i : Nat} : ∀ k, i ≤ k → (pgL A Y k).take i = pgL A Y i
  | 0, h => by
    obtain rfl : i = 0 := by omega
    rfl
  | k + 1, h => by
    by_cases e : i = k + 1
    · subst e
      exact List.take_of_length_le (by rw [pgL_len]; omega)
    · rw [pgL, List.take_append_of_le_length (by rw [pgL_len]; omega)]
      exact pgL_take k (by omega)
theorem wrAll_firm : ∀ (l : Pgs) (D : DM), (wrAll D l).1.firm = D.firm
  | [], D => rfl
  | p :: l, D => by
    have hw : (D.write (p.1 : Nat) (strOfNums p.2)).firm = D.firm := by
      unfold DM.write
      split
      · rw [burn_firm]; rfl
      · rfl
    unfold wrAll
    split
    · rw [wrAll_firm l, hw]
    · exact hw
attribute [local irreducible] markL pgL fillB
attribute [local simp] wb_bool wb_undef XL_nil XL_cons XLc_val XLc_call step1_eq stepW_t stepW_f stepC_n stepC_s stepX_s stepX_n stepN_s calleeX oneV xop_eq xopR_s xopR_n wantedA_eq wantedG_n wantedG_s plain1_int plain1_bool plain1_string bits_i64 bits_u64 bits_u32 bits_u16 bits_u8 xeqA xagg xcmp xarr allK_iv num_iv calleeOf xread xeff xbin xint xnil xun xstr xload xconv xpart xfield xfieldAddr xindexAddr xindex bnd asInt? xslice xlen xmin xmax xbuild xfill xappend xapp2 xappstr xappmk xcap xcopy xcells eval_tmp eval_const put_at put_none fr0_at cells_agg cells_int cells_bool cells_string cells_ptr cells_slice notTuple tab iv_all hget_app hget_app0 hget_cons0 hget_cons set_app set_app0 setR setR_one QL_nil QL_cons QLc_val stepQ_t stepQ_f stepQC_n stepQC_s stepQX_s SL_nil SL_cons SLc_val stepS_t stepS_f ltT ltF leT leF eqT eqF ltTn ltFn leTn leFn eqTn eqFn beqT beqF bneT bneF wi64 wu64 wu32 wu16 wu8 tmodP tdivP hgetL hgetNe hgetEq setL nums_def nums_len Nat.succ_le_of_lt List.getElem?_cons_zero List.getElem?_cons_succ Option.getD_some Int.toNat_add Int.toNat_mul agB agI agS agP agL agA okB okI okS okP okSl okA
/-- What the reference's commit leaves. -/
def RcQ (H : AH) (d : Nat) (FD : List Nat) (r : DM × Int) (v' : Value) (H' : AH) : Prop := ∃ FD', v' = .int .i64 (if r.2 = 0 then 0 else 7) ∧ Rk H' d FD' r.1 ∧ Fr H H' FD FD'
theorem rcommit_go {nro : Nat} {γ : Nat → Option Nat} {H : AH} (hnl : nro ≤ H.length) {q d : Nat} {ar : Nat} {rv : Value} {FD : List Nat} {D : DM} (hq : hget H q = some ⟨[.pointer (some ⟨d, 0, none⟩), .int .i64 (ar : Nat), rv], 51, none⟩) (hqn : q ∉ FD) (hd : Rk H d FD D) (hn : ∀ j ∈ FD, nro ≤ j)
    (a hv Hf A k : Nat) (s Y mb M : List Int) (ha : a ≤ 1) (hsb : By s) (hsl : s.length ≤ 200000) (hhv : hv ≤ s.length) (hHf : Hf = (D.firm.length - 1) / 2) (hA : A = 1 + a * Hf + hv / 256) (hY : Y = s.drop (256 * (hv / 256))) (hk : k = (Y.length + 255) / 256) (hfew : D.uns.length + k + 1 < 1000)
    (hmk : ∀ G : AH, AC Tryz.prog G.length γ 33 #[.int .i64 (a : Nat), .int .i64 (s.length : Nat)] G (fun v' _ => v' = .string (strOfNums M)))
    (hmf : rfill M 256 = mb) (hM : M.length ≤ 256) :
    AC Tryz.prog nro γ 42 #[.pointer (some ⟨q, 0, none⟩), .int .i64 (a : Nat), .int .i64 (hv : Nat), .string (strOfNums s)] H
      (fun v' H' => RcQ H d FD (commitR D (pgL A Y k) [(0, mb)]) v' H') := by
  obtain ⟨R, hR⟩ : ∃ R, R = commitR D (pgL A Y k) [(0, mb)] := ⟨_, rfl⟩
  rw [← hR]
  have hql := hget_lt hq
  have hss := sn_size s
  have hmost := hd.1.most
  have hqd : ((hv : Nat) : Int).tdiv 256 = ((hv / 256 : Nat) : Int) := by rw [Int.tdiv_eq_ediv_of_nonneg (by omega)]; omega
  obtain ⟨h0, hh0⟩ : ∃ h0, h0 = hv / 256 := ⟨_, rfl⟩
  rw [← hh0] at hqd hA hY
  have hYl : Y.length = s.length - 256 * h0 := by rw [hY, List.length_drop]
  have hn' : ∀ (G : AH) (F : List Nat), Fr H G FD F → ∀ j ∈ F, nro ≤ j := fun G F hf j hj => by
    rcases hf.new j hj with h | h
    · exact hn j h
    · omega
  have hqk : ∀ (G : AH) (F : List Nat), Fr H G FD F → hget G q = some ⟨[.pointer (some ⟨d, 0, none⟩), .int .i64 (ar : Nat), rv], 51, none⟩ := fun G F hf => (hf.out q hql hqn).trans hq
  refine ac_of_aw Tryz.func42 rfl Tryz.ntmps42 Tryz.results42 (by simp) ?_
  refine aw_seq ?_
  (refine aw_ops (by kernel_rfl) (fun K hK => ?_); simp (disch := first | omega | (simp only [lnS]; try omega; done)) [-getElem?_pos, -getElem?_neg]; refine hK _ _ ?_; clear hK K)
  refine aw_seq ?_
  refine aw_seq ?_
  (refine aw_ops (by kernel_rfl) (fun K hK => ?_); simp (disch := first | omega | (simp only [lnS]; try omega; done)) [-getElem?_pos, -getElem?_neg, hqd, -tdivP]; refine hK _ _ ?_; clear hK K)
  refine aw_cut (fun α G => ∃ Di FDi, wrAll D (pgL A Y k) = (Di, 0) ∧ Rk G d FDi Di ∧ Fr H G FD FDi ∧ α 0 = .pointer (some ⟨q, 0, none⟩) ∧ α 1 = .int .i64 (a : Nat) ∧ α 3 = .string (strOfNums s)) ?_ ?_
  · refine aw_block ?_
    refine aw_loop (fun c α G => ∃ (i : Nat) (Di : DM) (FDi : List Nat), i + c = k ∧ wrAll D (pgL A Y i) = (Di, 0) ∧ Rk G d FDi Di ∧ Fr H G FD FDi ∧ α 0 = .pointer (some ⟨q, 0, none⟩) ∧ α 1 = .int .i64 (a : Nat) ∧ α 3 = .string (strOfNums s) ∧ α 9 = .int .i64 ((h0 + i : Nat) * 256 : Int)) k ?_ ?_
    · exact ⟨0, D, FD, by omega, by with_unfolding_all rfl, hd, Fr.refl _ _, by (first | (simp [put_at, put_none, fr0_at]; done) | rfl), by (first | (simp [put_at, put_none, fr0_at]; done) | rfl), by (first | (simp [put_at, put_none, fr0_at]; done) | rfl), by (first | (simp [put_at, put_none, fr0_at]; done) | rfl)⟩
    rintro c α G ⟨i, Di, FDi, hic, hwr, hdi, hfi, h0', h1, h3, h9⟩
    obtain ⟨hi0, hhi0⟩ : ∃ hi0, hi0 = h0 + i := ⟨_, rfl⟩
    rw [← hhi0] at h9
    obtain ⟨at_, hat⟩ : ∃ at_, at_ = hi0 * 256 := ⟨_, rfl⟩
    have hati : (hi0 : Int) * 256 = (at_ : Nat) := by omega
    rw [hati] at h9
    refine aw_seq ?_
    refine aw_seq ?_
    by_cases hlt : at_ < s.length
    case neg =>
      (refine aw_ops (by kernel_rfl) (fun K hK => ?_); simp (disch := first | omega | (simp only [lnS]; try omega; done)) [-getElem?_pos, -getElem?_neg, h9, h3, hss, hlt]; refine hK _ _ ?_; clear hK K)
      refine aw_f (by (first | (simp [eval_tmp, put_at]; done) | (simp [eval_tmp, put_at]; omega))) (by kernel_rfl) ?_
      refine aw_exit ?_
      have hik : i = k := by omega
      subst hik
      exact ⟨Di, FDi, hwr, hdi, hfi, by (first | (simp [put_at, put_none, fr0_at, h0']; done) | rfl), by (first | (simp [put_at, put_none, fr0_at, h1]; done) | rfl), by (first | (simp [put_at, put_none, fr0_at, h3]; done) | rfl)⟩
    (refine aw_ops (by kernel_rfl) (fun K hK => ?_); simp (disch := first | omega | (simp only [lnS]; try omega; done)) [-getElem?_pos, -getElem?_neg, h9, h3, hss, hlt]; refine hK _ _ ?_; clear hK K)
    refine aw_t (by (first | (simp [eval_tmp, put_at]; done) | (simp [eval_tmp, put_at]; omega))) (by kernel_rfl) ?_
    refine aw_skip ?_
    refine aw_seq ?_
    refine aw_block ?_
    refine aw_seq ?_
    (refine aw_ops (by kernel_rfl) (fun K hK => ?_); simp (disch := first | omega | (simp only [lnS]; try omega; done)) [-getElem?_pos, -getElem?_neg, h9]; refine hK _ _ ?_; clear hK K)
    obtain ⟨en, hen⟩ : ∃ en, en = min (at_ + 256) s.length := ⟨_, rfl⟩
    refine aw_seq ?_
    refine aw_cut (fun α G' => G = G' ∧ α 10 = .int .i64 (en : Nat) ∧ α 0 = .pointer (some ⟨q, 0, none⟩) ∧ α 1 = .int .i64 (a : Nat) ∧ α 3 = .string (strOfNums s) ∧ α 9 = .int .i64 (at_ : Nat)) ?_ ?_
    · refine aw_seq ?_
      by_cases hgt : s.length < at_ + 256
      · have he : en = s.length := by omega
        have hgi : (s.length : Int) < (at_ : Int) + 256 := by omega
        (refine aw_ops (by kernel_rfl) (fun K hK => ?_); simp (disch := first | omega | (simp only [lnS]; try omega; done)) [-getElem?_pos, -getElem?_neg, h3, hss, hgt, hgi]; refine hK _ _ ?_; clear hK K)
        refine aw_t (by (first | (simp [eval_tmp, put_at]; done) | (simp [eval_tmp, put_at]; omega))) (by kernel_rfl) ?_
        (refine aw_ops (by kernel_rfl) (fun K hK => ?_); simp (disch := first | omega | (simp only [lnS]; try omega; done)) [-getElem?_pos, -getElem?_neg, h3, hss]; refine hK _ _ ?_; clear hK K)
        exact ⟨rfl, by (first | (simp [put_at, put_none, fr0_at, he]; done) | rfl), by (first | (simp [put_at, put_none, fr0_at, h0']; done) | rfl), by (first | (simp [put_at, put_none, fr0_at, h1]; done) | rfl), by (first | (simp [put_at, put_none, fr0_at, h3]; done) | rfl), by (first | (simp [put_at, put_none, fr0_at, h9]; done) | rfl)⟩
      · have he : (at_ : Int) + 256 = (en : Nat) := by omega
        have hgi : ¬ (s.length : Int) < (at_ : Int) + 256 := by omega
        have hgn : ¬ s.length < en := by omega
        (refine aw_ops (by kernel_rfl) (fun K hK => ?_); simp (disch := first | omega | (simp only [lnS]; try omega; done)) [-getElem?_pos, -getElem?_neg, h3, hss, hgt, hgi, hgn, he]; refine hK _ _ ?_; clear hK K)
        refine aw_f (by (first | (simp [eval_tmp, put_at]; done) | (simp [eval_tmp, put_at]; omega))) (by kernel_rfl) ?_
        refine aw_skip ?_
        exact ⟨rfl, by (first | (simp [put_at, put_none, fr0_at, he]; done) | rfl), by (first | (simp [put_at, put_none, fr0_at, h0']; done) | rfl), by (first | (simp [put_at, put_none, fr0_at, h1]; done) | rfl), by (first | (simp [put_at, put_none, fr0_at, h3]; done) | rfl), by (first | (simp [put_at, put_none, fr0_at, h9]; done) | rfl)⟩
    clear h0' h1 h3 h9
    rintro α G' ⟨rfl, h10, h0', h1, h3, h9⟩
    have hqG := hqk G FDi hfi
    have hDil : Di.firm.length = D.firm.length := by
      have := hdi.1
      have hw := wrAll_firm (pgL A Y i) D
      rw [hwr] at hw
      exact congrArg List.length hw
    have hhf : ∀ L, AC Tryz.prog (G ++ L).length γ 34 #[.pointer (some ⟨d, 0, none⟩)] (G ++ L) (fun v' _ => v' = .int .i64 (Hf : Nat)) := fun L => by
      have := rhalf_rc (γ := γ) (hdi.low (H' := G ++ L) (fun j hj => hget_left (hdi.lt j hj)))
      rw [hDil, ← hHf] at this
      exact this
    have hmul : (a : Int) * (Hf : Int) = ((a * Hf : Nat) : Int) := by simp
    have haH : a * Hf ≤ 512 := by
      have : Hf ≤ 512 := by omega
      have := Nat.mul_le_mul ha this
      omega
    have hex : (strOfNums s).extract at_ en = strOfNums ((s.take en).drop at_) := ex_range _ _ _
    have hch : (s.take en).drop at_ = (Y.drop (256 * i)).take 256 := by
      rw [hY, List.drop_drop, List.drop_take, show 256 * h0 + 256 * i = at_ by omega]
      by_cases hg : at_ + 256 ≤ s.length
      · rw [show en - at_ = 256 by omega]
      · rw [List.take_of_length_le (by rw [List.length_drop]; omega), List.take_of_length_le (by rw [List.length_drop]; omega)]
    rw [hch] at hex
    have hatd : ((at_ : Nat) : Int).tdiv 256 = (hi0 : Nat) := by rw [Int.tdiv_eq_ediv_of_nonneg (by omega)]; omega
    obtain ⟨aH, haHe⟩ : ∃ aH, aH = a * Hf := ⟨_, rfl⟩
    rw [← haHe] at hmul haH
    obtain ⟨ix, hix⟩ : ∃ ix, ix = 1 + aH + hi0 := ⟨_, rfl⟩
    have hidx : (1 : Int) + (aH : Nat) + (hi0 : Nat) = (ix : Nat) := by omega
    have hixA : ix = A + i := by rw [hA, ← haHe]; omega
    have hle : at_ ≤ en ∧ en ≤ s.length := by omega
    have hpl : pgL A Y (i + 1) = pgL A Y i ++ [(A + i, fillB ((Y.drop (256 * i)).take 256))] := by with_unfolding_all rfl
    have hcl : ((Y.drop (256 * i)).take 256).length ≤ 256 := by rw [List.length_take]; omega
    have hsn := wrAll_snoc (A + i, fillB ((Y.drop (256 * i)).take 256)) (pgL A Y i) D
    rw [← hpl, hwr] at hsn
    simp only [if_true] at hsn
    have hfl := fun G : AH => rfilled_rc (γ := γ) (H := G) ((Y.drop (256 * i)).take 256) 256 (by omega) (by omega)
    have hrf : rfill ((Y.drop (256 * i)).take 256) 256 = fillB ((Y.drop (256 * i)).take 256) := by with_unfolding_all rfl
    rw [hrf] at hfl
    have hfiw := wrAll_few (pgL A Y i) D
    rw [hwr, pgL_len] at hfiw
    simp only at hfiw
    have hwa := rwrite_ac (nro := nro) (γ := γ) hdi (hn' G FDi hfi) (by have := hfi.len; omega) (by omega) (ix : Nat) (strOfNums (fillB ((Y.drop (256 * i)).take 256)))
    rw [← hixA] at hsn
    generalize (Y.drop (256 * i)).take 256 = ch at *
    generalize fillB ch = fb at *
    refine aw_seq ?_
    (refine aw_plan [] [] [0, 1, 2, 3, 4, 5, 6, 7, 8, 9, 10, 11, 12, 13, 14, 15, 16, 17, 18, 19] 20 2 (by kernel_rfl) (by kernel_rfl) (by kernel_rfl) (fun K hK => ?_)); simp only [sel, List.getElem?_cons_succ, List.getElem?_cons_zero, List.drop_succ_cons, List.drop_zero]; simp (disch := first | omega | (simp only [lnS]; try omega; done)) [-getElem?_pos, -getElem?_neg, h0', hqG, h1, h3, h9, h10, hatd, -tdivP, hex, hss, PL_nil, PL_cons, PLc_val, PLc_new, stepP_t, stepP_f, stepPC_n, stepPC_s, stepPX_s, stepPX_n, stepPA_t, stepPA_c, stepPA_l, stepPN_s, allocOp, reloc_sl, reloc_ptr, List.map_cons, List.map_nil, List.nil_append, List.append_assoc, List.cons_append, Nat.add_assoc]
    refine PLc_call (v := .int .i64 (Hf : Nat)) (by kernel_rfl) (fun L hL => hhf L) (by simp [pv_iv, pv_int, pv_bool, pv_string, pv_tup2, pv_tup3, iv_plain, p2_int, p2_bool, p2_string]) ?_
    simp (disch := first | omega | (simp only [lnS]; try omega; done)) [-getElem?_pos, -getElem?_neg, hmul, hidx, h0', hqG, h1, h3, h9, h10, hatd, -tdivP, hex, hss, PL_nil, PL_cons, PLc_val, PLc_new, stepP_t, stepP_f, stepPC_n, stepPC_s, stepPX_s, stepPX_n, stepPA_t, stepPA_c, stepPA_l, stepPN_s, allocOp, reloc_sl, reloc_ptr, List.map_cons, List.map_nil, List.nil_append, List.append_assoc, List.cons_append, Nat.add_assoc]
    refine PLc_call (v := .string (strOfNums fb)) (by kernel_rfl) (fun L hL => hfl _) (by simp [pv_iv, pv_int, pv_bool, pv_string, pv_tup2, pv_tup3, iv_plain, p2_int, p2_bool, p2_string]) ?_
    simp (disch := first | omega | (simp only [lnS]; try omega; done)) [-getElem?_pos, -getElem?_neg, hmul, hidx, PL_nil, PL_cons, PLc_val, PLc_new, stepP_t, stepP_f, stepPC_n, stepPC_s, stepPX_s, stepPX_n, stepPA_t, stepPA_c, stepPA_l, stepPN_s, allocOp, reloc_sl, reloc_ptr, List.map_cons, List.map_nil, List.nil_append, List.append_assoc, List.cons_append, Nat.add_assoc]
    refine ⟨by kernel_rfl, AC.mono hwa ?_⟩
    rintro _ G2 ⟨rfl, F2, d2, f2⟩
    generalize hV : Di.writeV (ix : Nat) (strOfNums fb) = sv at *
    generalize hDs : Di.write (ix : Nat) (strOfNums fb) = Ds at *
    by_cases he : sv = 0
    · subst he
      try simp (disch := first | omega | (simp only [lnS]; try omega; done)) [-getElem?_pos, -getElem?_neg, PL_nil, PL_cons, PLc_val, PLc_new, stepP_t, stepP_f, stepPC_n, stepPC_s, stepPX_s, stepPX_n, stepPA_t, stepPA_c, stepPA_l, stepPN_s, allocOp, reloc_sl, reloc_ptr, List.map_cons, List.map_nil, List.nil_append, List.append_assoc, List.cons_append, Nat.add_assoc]
      refine hK _ _ ?_; clear hK K
      refine aw_f (by (first | (simp [eval_tmp, put_at]; done) | (simp [eval_tmp, put_at]; omega))) (by kernel_rfl) ?_
      refine aw_skip ?_
      (refine aw_ops (by kernel_rfl) (fun K hK => ?_); simp (disch := first | omega | (simp only [lnS]; try omega; done)) [-getElem?_pos, -getElem?_neg, h9]; refine hK _ _ ?_; clear hK K)
      exact ⟨c - 1, by omega, i + 1, Ds, F2, by omega, hsn, d2, hfi.trans f2, by (first | (simp [put_at, put_none, fr0_at, h0']; done) | rfl), by (first | (simp [put_at, put_none, fr0_at, h1]; done) | rfl), by (first | (simp [put_at, put_none, fr0_at, h3]; done) | rfl), by simp [put_at]; omega⟩
    · try simp (disch := first | omega | (simp only [lnS]; try omega; done)) [-getElem?_pos, -getElem?_neg, he, PL_nil, PL_cons, PLc_val, PLc_new, stepP_t, stepP_f, stepPC_n, stepPC_s, stepPX_s, stepPX_n, stepPA_t, stepPA_c, stepPA_l, stepPN_s, allocOp, reloc_sl, reloc_ptr, List.map_cons, List.map_nil, List.nil_append, List.append_assoc, List.cons_append, Nat.add_assoc]
      refine hK _ _ ?_; clear hK K
      refine aw_t (by (first | (simp [eval_tmp, put_at, he]; done) | (simp [eval_tmp, put_at, he]; omega))) (by kernel_rfl) ?_
      refine aw_seq ?_
      (refine aw_ops (by kernel_rfl) (fun K hK => ?_); simp (disch := first | omega | (simp only [lnS]; try omega; done)) [-getElem?_pos, -getElem?_neg]; refine hK _ _ ?_; clear hK K)
      have hstop := wrAll_stop (pgL A Y k) D (i + 1) (by rw [pgL_take k (by omega), hsn]; exact he)
      rw [pgL_take k (by omega), hsn] at hstop
      have hRe : R = (Ds, sv) := by
        rw [hR]
        unfold commitR wrSync
        rw [hstop]
        simp [he]
      (refine aw_ret ?_; simp (disch := first | omega | (simp only [lnS]; try omega; done)) [-getElem?_pos, -getElem?_neg, thenQ_ret, scopeQ_ret, inBlockQ_ret, RQ, resL, resV])
      refine ⟨F2, by rw [hRe]; simp [he], by rw [hRe]; exact d2, hfi.trans f2⟩
  rintro α G ⟨Di, FDi, hwr, hdi, hfi, h0', h1, h3⟩
  have hqG := hqk G FDi hfi
  have hfiw := wrAll_few (pgL A Y k) D
  rw [hwr, pgL_len] at hfiw
  simp only at hfiw
  have hsa := rsync_ac (nro := nro) (γ := γ) hdi (hn' G FDi hfi)
  have hws : wrSync D (pgL A Y k) = (Di.sync, Di.syncV) := by unfold wrSync; rw [hwr]; rfl
  have hfs := sync_few Di
  refine aw_seq ?_
  refine aw_seq ?_
  refine aw_ops (by kernel_rfl) (fun K hK => ?_)
  simp (disch := first | omega | (simp only [lnS]; try omega; done)) [-getElem?_pos, -getElem?_neg, h0', hqG]
  refine ⟨by kernel_rfl, AC.mono hsa ?_⟩
  rintro _ G2 ⟨rfl, F2, d2, f2⟩
  generalize hV : Di.syncV = sv at *
  generalize hDs : Di.sync = Ds at *
  by_cases he : sv = 0
  case neg =>
    try simp (disch := first | omega | (simp only [lnS]; try omega; done)) [-getElem?_pos, -getElem?_neg, he]
    refine hK _ _ ?_; clear hK K
    refine aw_t (by (first | (simp [eval_tmp, put_at, he]; done) | (simp [eval_tmp, put_at, he]; omega))) (by kernel_rfl) ?_
    refine aw_seq ?_
    (refine aw_ops (by kernel_rfl) (fun K hK => ?_); simp (disch := first | omega | (simp only [lnS]; try omega; done)) [-getElem?_pos, -getElem?_neg]; refine hK _ _ ?_; clear hK K)
    have hRe : R = (Ds, sv) := by rw [hR]; unfold commitR; rw [hws]; simp [he]
    (refine aw_ret ?_; simp (disch := first | omega | (simp only [lnS]; try omega; done)) [-getElem?_pos, -getElem?_neg, thenQ_ret, scopeQ_ret, inBlockQ_ret, RQ, resL, resV])
    exact ⟨F2, by rw [hRe]; simp [he], by rw [hRe]; exact d2, hfi.trans f2⟩
  subst he
  try simp (disch := first | omega | (simp only [lnS]; try omega; done)) [-getElem?_pos, -getElem?_neg]
  refine hK _ _ ?_; clear hK K
  refine aw_f (by (first | (simp [eval_tmp, put_at]; done) | (simp [eval_tmp, put_at]; omega))) (by kernel_rfl) ?_
  refine aw_skip ?_
  have hff := hfi.trans f2
  have hqG2 := hqk G2 F2 hff
  have hcr : R = wrSync Ds [(0, mb)] := by rw [hR]; unfold commitR; rw [hws]; simp
  have hfl := fun G : AH => rfilled_rc (γ := γ) (H := G) M 256 (by omega) (by omega)
  rw [hmf] at hfl
  have hwa := rwrite_ac (nro := nro) (γ := γ) d2 (hn' G2 F2 hff) (by have := hff.len; omega) (by omega) 0 (strOfNums mb)
  refine aw_seq ?_
  refine aw_seq ?_
  (refine aw_plan [] [] [0, 1, 2, 3, 4, 5, 6, 7, 8] 9 2 (by kernel_rfl) (by kernel_rfl) (by kernel_rfl) (fun K hK => ?_)); simp only [sel, List.getElem?_cons_succ, List.getElem?_cons_zero, List.drop_succ_cons, List.drop_zero]; simp (disch := first | omega | (simp only [lnS]; try omega; done)) [-getElem?_pos, -getElem?_neg, h0', hqG2, h1, h3, hss, PL_nil, PL_cons, PLc_val, PLc_new, stepP_t, stepP_f, stepPC_n, stepPC_s, stepPX_s, stepPX_n, stepPA_t, stepPA_c, stepPA_l, stepPN_s, allocOp, reloc_sl, reloc_ptr, List.map_cons, List.map_nil, List.nil_append, List.append_assoc, List.cons_append, Nat.add_assoc]
  refine PLc_call (v := .string (strOfNums M)) (by kernel_rfl) (fun L hL => hmk _) (by simp [pv_iv, pv_int, pv_bool, pv_string, pv_tup2, pv_tup3, iv_plain, p2_int, p2_bool, p2_string]) ?_
  try simp (disch := first | omega | (simp only [lnS]; try omega; done)) [-getElem?_pos, -getElem?_neg, hss, PL_nil, PL_cons, PLc_val, PLc_new, stepP_t, stepP_f, stepPC_n, stepPC_s, stepPX_s, stepPX_n, stepPA_t, stepPA_c, stepPA_l, stepPN_s, allocOp, reloc_sl, reloc_ptr, List.map_cons, List.map_nil, List.nil_append, List.append_assoc, List.cons_append, Nat.add_assoc]
  refine PLc_call (v := .string (strOfNums mb)) (by kernel_rfl) (fun L hL => hfl _) (by simp [pv_iv, pv_int, pv_bool, pv_string, pv_tup2, pv_tup3, iv_plain, p2_int, p2_bool, p2_string]) ?_
  try simp (disch := first | omega | (simp only [lnS]; try omega; done)) [-getElem?_pos, -getElem?_neg, PL_nil, PL_cons, PLc_val, PLc_new, stepP_t, stepP_f, stepPC_n, stepPC_s, stepPX_s, stepPX_n, stepPA_t, stepPA_c, stepPA_l, stepPN_s, allocOp, reloc_sl, reloc_ptr, List.map_cons, List.map_nil, List.nil_append, List.append_assoc, List.cons_append, Nat.add_assoc]
  refine ⟨by kernel_rfl, AC.mono hwa ?_⟩
  rintro _ G3 ⟨rfl, F3, d3, f3⟩
  have hone : wrAll Ds [(0, mb)] = (Ds.write 0 (strOfNums mb), Ds.writeV 0 (strOfNums mb)) := by
    have := wrAll_snoc (0, mb) [] Ds
    simp only [List.nil_append, wrAll, if_true] at this
    exact this
  generalize hV2 : Ds.writeV 0 (strOfNums mb) = sv2 at *
  generalize hDs2 : Ds.write 0 (strOfNums mb) = Dt at *
  by_cases he2 : sv2 = 0
  case neg =>
    try simp (disch := first | omega | (simp only [lnS]; try omega; done)) [-getElem?_pos, -getElem?_neg, he2, PL_nil, PL_cons, PLc_val, PLc_new, stepP_t, stepP_f, stepPC_n, stepPC_s, stepPX_s, stepPX_n, stepPA_t, stepPA_c, stepPA_l, stepPN_s, allocOp, reloc_sl, reloc_ptr, List.map_cons, List.map_nil, List.nil_append, List.append_assoc, List.cons_append, Nat.add_assoc]
    refine hK _ _ ?_; clear hK K
    refine aw_t (by (first | (simp [eval_tmp, put_at, he2]; done) | (simp [eval_tmp, put_at, he2]; omega))) (by kernel_rfl) ?_
    refine aw_seq ?_
    (refine aw_ops (by kernel_rfl) (fun K hK => ?_); simp (disch := first | omega | (simp only [lnS]; try omega; done)) [-getElem?_pos, -getElem?_neg]; refine hK _ _ ?_; clear hK K)
    have hRe : R = (Dt, sv2) := by rw [hcr]; unfold wrSync; rw [hone]; simp [he2]
    (refine aw_ret ?_; simp (disch := first | omega | (simp only [lnS]; try omega; done)) [-getElem?_pos, -getElem?_neg, thenQ_ret, scopeQ_ret, inBlockQ_ret, RQ, resL, resV])
    exact ⟨F3, by rw [hRe]; simp [he2], by rw [hRe]; exact d3, hff.trans f3⟩
  subst he2
  try simp (disch := first | omega | (simp only [lnS]; try omega; done)) [-getElem?_pos, -getElem?_neg, PL_nil, PL_cons, PLc_val, PLc_new, stepP_t, stepP_f, stepPC_n, stepPC_s, stepPX_s, stepPX_n, stepPA_t, stepPA_c, stepPA_l, stepPN_s, allocOp, reloc_sl, reloc_ptr, List.map_cons, List.map_nil, List.nil_append, List.append_assoc, List.cons_append, Nat.add_assoc]
  refine hK _ _ ?_; clear hK K
  refine aw_f (by (first | (simp [eval_tmp, put_at]; done) | (simp [eval_tmp, put_at]; omega))) (by kernel_rfl) ?_
  refine aw_skip ?_
  have hff3 := hff.trans f3
  have hqG3 := hqk G3 F3 hff3
  have hsa2 := rsync_ac (nro := nro) (γ := γ) d3 (hn' G3 F3 hff3)
  have hRe : R = (Dt.sync, Dt.syncV) := by rw [hcr]; unfold wrSync; rw [hone]; rfl
  have hsv : Dt.syncV = if Dt.syncV = 0 then 0 else 7 := by
    unfold DM.syncV DM.burnV
    split
    · simp
    · split <;> simp
  refine aw_seq ?_
  refine aw_ops (by kernel_rfl) (fun K hK => ?_)
  simp (disch := first | omega | (simp only [lnS]; try omega; done)) [-getElem?_pos, -getElem?_neg, h0', hqG3]
  refine ⟨by kernel_rfl, AC.mono hsa2 ?_⟩
  rintro _ G4 ⟨rfl, F4, d4, f4⟩
  try simp (disch := first | omega | (simp only [lnS]; try omega; done)) [-getElem?_pos, -getElem?_neg]
  refine hK _ _ ?_; clear hK K
  (refine aw_ret ?_; simp (disch := first | omega | (simp only [lnS]; try omega; done)) [-getElem?_pos, -getElem?_neg, thenQ_ret, scopeQ_ret, inBlockQ_ret, RQ, resL, resV])
  exact ⟨F4, by rw [hRe]; exact congrArg (Value.int .i64) hsv, by rw [hRe]; exact d4, hff3.trans f4⟩
end
section
attribute [local simp] wb_bool wb_undef XL_nil XL_cons XLc_val XLc_call step1_eq stepW_t stepW_f stepC_n stepC_s stepX_s stepX_n stepN_s calleeX oneV xop_eq xopR_s xopR_n wantedA_eq wantedG_n wantedG_s plain1_int plain1_bool plain1_string bits_i64 bits_u64 bits_u32 bits_u16 bits_u8 xeqA xagg xcmp xarr allK_iv num_iv calleeOf xread xeff xbin xint xnil xun xstr xload xconv xpart xfield xfieldAddr xindexAddr xindex bnd asInt? xslice xlen xmin xmax xbuild xfill xappend xapp2 xappstr xappmk xcap xcopy xcells eval_tmp eval_const put_at put_none fr0_at cells_agg cells_int cells_bool cells_string cells_ptr cells_slice notTuple tab iv_all hget_app hget_app0 hget_cons0 hget_cons set_app set_app0 setR setR_one QL_nil QL_cons QLc_val stepQ_t stepQ_f stepQC_n stepQC_s stepQX_s SL_nil SL_cons SLc_val stepS_t stepS_f ltT ltF leT leF eqT eqF ltTn ltFn leTn leFn eqTn eqFn beqT beqF bneT bneF wi64 wu64 wu32 wu16 wu8 tmodP tdivP hgetL hgetNe hgetEq setL nums_def nums_len Nat.succ_le_of_lt List.getElem?_cons_zero List.getElem?_cons_succ Option.getD_some Int.toNat_add Int.toNat_mul agB agI agS agP agL agA okB okI okS okP okSl okA
theorem rlong_rc {γ : Nat → Option Nat} {H : AH} {v : Value} {ps : List ByteArray} (hv : StrV H v ps) (hps : ∀ s ∈ ps, s.size ≤ 60000) (hlen : ps.length ≤ 1000000) :
    AC Tryz.prog H.length γ 40 #[v] H (fun v' _ => v' = .bool false) := by
  have hno := hv.nt
  have hxl := hv.len
  refine ac_of_aw Tryz.func40 rfl Tryz.ntmps40 Tryz.results40 (by simp) ?_
  refine aw_seq ?_
  (refine aw_ops (by kernel_rfl) (fun K hK => ?_); simp (disch := first | omega | (simp only [lnS]; try omega; done)) [-getElem?_pos, -getElem?_neg]; refine hK _ _ ?_; clear hK K)
  refine aw_seq ?_
  refine aw_seq ?_
  (refine aw_ops (by kernel_rfl) (fun K hK => ?_); simp (disch := first | omega | (simp only [lnS]; try omega; done)) [-getElem?_pos, -getElem?_neg]; refine hK _ _ ?_; clear hK K)
  refine aw_block ?_
  refine aw_loop (fun c α G => ∃ i : Nat, i + c = ps.length ∧ α 0 = v ∧ α 3 = .int .i64 (i : Nat) ∧ H = G) ps.length ?_ ?_
  · exact ⟨0, by omega, by (first | (simp [put_at, put_none, fr0_at]; done) | rfl), by (first | (simp [put_at, put_none, fr0_at]; done) | rfl), rfl⟩
  rintro c α G ⟨i, hic, h0, h3, rfl⟩
  refine aw_seq ?_
  refine aw_seq ?_
  by_cases hi : i < ps.length
  · (refine aw_ops (by kernel_rfl) (fun K hK => ?_); simp (disch := first | omega | (simp only [lnS]; try omega; done)) [-getElem?_pos, -getElem?_neg, h0, h3, -notTuple, hno, -xlen, hxl, hi]; refine hK _ _ ?_; clear hK K)
    refine aw_t (by (first | (simp [eval_tmp, put_at]; done) | (simp [eval_tmp, put_at]; omega))) (by kernel_rfl) ?_
    refine aw_skip ?_
    refine aw_seq ?_
    refine aw_block ?_
    obtain ⟨s, hs⟩ : ∃ s, ps[i]? = some s := ⟨_, List.getElem?_eq_getElem hi⟩
    obtain ⟨p, hp1, hp2⟩ := hv.at_ i s hs
    have hsz : ¬ 60000 < s.size := by have := hps s (List.mem_of_getElem? hs); omega
    refine aw_seq ?_
    (refine aw_ops (by kernel_rfl) (fun K hK => ?_); simp (disch := first | omega | (simp only [lnS]; try omega; done)) [-getElem?_pos, -getElem?_neg, h0, h3, -notTuple, hno, nt_strJ, nt_intJ, -xindexAddr, hp1, -xload, hp2, hsz]; refine hK _ _ ?_; clear hK K)
    refine aw_f (by (first | (simp [eval_tmp, put_at]; done) | (simp [eval_tmp, put_at]; omega))) (by kernel_rfl) ?_
    refine aw_skip ?_
    (refine aw_ops (by kernel_rfl) (fun K hK => ?_); simp (disch := first | omega | (simp only [lnS]; try omega; done)) [-getElem?_pos, -getElem?_neg, h3]; refine hK _ _ ?_; clear hK K)
    exact ⟨c - 1, by omega, i + 1, by omega, by (first | (simp [put_at, put_none, fr0_at, h0]; done) | rfl), by (first | (simp [put_at, put_none, fr0_at]; done) | rfl), rfl⟩
  · (refine aw_ops (by kernel_rfl) (fun K hK => ?_); simp (disch := first | omega | (simp only [lnS]; try omega; done)) [-getElem?_pos, -getElem?_neg, h0, h3, -notTuple, hno, -xlen, hxl, hi]; refine hK _ _ ?_; clear hK K)
    refine aw_f (by (first | (simp [eval_tmp, put_at]; done) | (simp [eval_tmp, put_at]; omega))) (by kernel_rfl) ?_
    refine aw_exit ?_
    refine aw_seq ?_
    (refine aw_ops (by kernel_rfl) (fun K hK => ?_); simp (disch := first | omega | (simp only [lnS]; try omega; done)) [-getElem?_pos, -getElem?_neg]; refine hK _ _ ?_; clear hK K)
    (refine aw_ret ?_; simp (disch := first | omega | (simp only [lnS]; try omega; done)) [-getElem?_pos, -getElem?_neg, thenQ_ret, scopeQ_ret, inBlockQ_ret, RQ, resL, resV])
theorem small_vc (n : Int) : ∃ kk : Nat, kk ≤ 11 ∧ VC Tryz.prog 6 #[.int .i64 n] (.int .i64 ((3 + kk : Nat) : Int)) := by
  obtain ⟨kk, hkk⟩ : ∃ kk : Nat, ((IntKind.u64.wrap n).tmod 12) = (kk : Nat) ∧ kk ≤ 11 := by
    have h0 : 0 ≤ IntKind.u64.wrap n := by simp only [IntKind.wrap, IntKind.bits, IntKind.signed]; simp; omega
    rw [Int.tmod_eq_emod_of_nonneg h0]
    exact ⟨(IntKind.u64.wrap n % 12).toNat, by omega, by omega⟩
  refine ⟨kk, hkk.2, ?_⟩
  have h11 := hkk.2
  refine vc_of_ac (by simp [pv_iv, pv_int, pv_bool, pv_string, pv_tup2, pv_tup3, iv_plain, p2_int, p2_bool, p2_string]) (by simp [pv_iv, pv_int, pv_bool, pv_string, pv_tup2, pv_tup3, iv_plain, p2_int, p2_bool, p2_string]) ?_
  refine ac_of_aw Tryz.func6 rfl Tryz.ntmps6 Tryz.results6 (by simp) ?_
  refine aw_seq ?_
  (refine aw_ops (by kernel_rfl) (fun K hK => ?_); simp (disch := first | omega | (simp only [lnS]; try omega; done)) [-getElem?_pos, -getElem?_neg]; refine hK _ _ ?_; clear hK K)
  refine aw_seq ?_
  (refine aw_ops (by kernel_rfl) (fun K hK => ?_); simp (disch := first | omega | (simp only [lnS]; try omega; done)) [-getElem?_pos, -getElem?_neg, hkk.1, -tmodP]; refine hK _ _ ?_; clear hK K)
  (refine aw_ret ?_; simp (disch := first | omega | (simp only [lnS]; try omega; done)) [-getElem?_pos, -getElem?_neg, thenQ_ret, scopeQ_ret, inBlockQ_ret, RQ, resL, resV])
end
section
/-- Where the reference's journal and its disk lie. -/
structure RS (H : AH) (q d : Nat) (rv : Value) (FD FR : List Nat) (J : JM) : Prop where
  rj : RJ H q d rv FR J
  rk : Rk H d FD J.D
  qd : q ∉ FD
  dr : ∀ j ∈ FD, j ∉ FR
theorem RS.lts {H : AH} {q d : Nat} {rv : Value} {FD FR : List Nat} {J : JM} (h : RS H q d rv FD FR J) : ∀ j ∈ q :: (FD ++ FR), j < H.length := fun j hm => by
  simp only [List.mem_cons, List.mem_append] at hm
  rcases hm with rfl | hm | hm
  · exact hget_lt h.rj.hq
  · exact h.rk.lt j hm
  · exact h.rj.hr.lt j hm
theorem RS.low {H H' : AH} {q d : Nat} {rv : Value} {FD FR : List Nat} {J : JM} (h : RS H q d rv FD FR J) (hl : ∀ j ∈ q :: (FD ++ FR), hget H' j = hget H j) : RS H' q d rv FD FR J :=
  ⟨h.rj.low (fun j hj => hl j (by
    rcases List.mem_cons.1 hj with rfl | hj
    · simp
    · simp [hj])), h.rk.low (fun j hj => hl j (by simp [hj])), h.qd, h.dr⟩
def RSQ (H : AH) (q d : Nat) (FD FR : List Nat) (r : JM × Int) (v' : Value) (H' : AH) : Prop :=
  v' = .int .i64 r.2 ∧ ∃ rv' FD' FR', RS H' q d rv' FD' FR' r.1 ∧ Fr H H' (q :: (FD ++ FR)) (q :: (FD' ++ FR'))
attribute [local irreducible] markL pgL fillB commitR textsB
attribute [local simp] wb_bool wb_undef XL_nil XL_cons XLc_val XLc_call step1_eq stepW_t stepW_f stepC_n stepC_s stepX_s stepX_n stepN_s calleeX oneV xop_eq xopR_s xopR_n wantedA_eq wantedG_n wantedG_s plain1_int plain1_bool plain1_string bits_i64 bits_u64 bits_u32 bits_u16 bits_u8 xeqA xagg xcmp xarr allK_iv num_iv calleeOf xread xeff xbin xint xnil xun xstr xload xconv xpart xfield xfieldAddr xindexAddr xindex bnd asInt? xslice xlen xmin xmax xbuild xfill xappend xapp2 xappstr xappmk xcap xcopy xcells eval_tmp eval_const put_at put_none fr0_at cells_agg cells_int cells_bool cells_string cells_ptr cells_slice notTuple tab iv_all hget_app hget_app0 hget_cons0 hget_cons set_app set_app0 setR setR_one QL_nil QL_cons QLc_val stepQ_t stepQ_f stepQC_n stepQC_s stepQX_s SL_nil SL_cons SLc_val stepS_t stepS_f ltT ltF leT leF eqT eqF ltTn ltFn leTn leFn eqTn eqFn beqT beqF bneT bneF wi64 wu64 wu32 wu16 wu8 tmodP tdivP hgetL hgetNe hgetEq setL nums_def nums_len Nat.succ_le_of_lt List.getElem?_cons_zero List.getElem?_cons_succ Option.getD_some Int.toNat_add Int.toNat_mul agB agI agS agP agL agA okB okI okS okP okSl okA
theorem rsnap_go {nro : Nat} {γ : Nat → Option Nat} {H : AH} (hnl : nro ≤ H.length) {q d : Nat} {rv : Value} {FD FR : List Nat} {J : JM} (h : RS H q d rv FD FR J) (hn : ∀ j ∈ q :: (FD ++ FR), nro ≤ j) (ha : J.area ≤ 1) (s : ByteArray) (hs : s.size ≤ 2000)
    (bs : List Int) (hbl : bs.length ≤ 3000) (hbt : numB s.size ++ nums s = bs) (r : DM × Int) (res : JM × Int) (hres : res = if J.half * 256 < bs.length then (J, 8) else endJ J r [s] (1 - J.area) bs.length)
    (hcm : ¬ J.half * 256 < bs.length → ∀ G : AH, Low H.length H G → AC Tryz.prog nro γ 42 #[.pointer (some ⟨q, 0, none⟩), .int .i64 ((1 - J.area : Nat) : Int), .int .i64 ((0 : Nat) : Int), .string (strOfNums bs)] G
      (fun v' H' => RcQ G d FD r v' H')) :
    AC Tryz.prog nro γ 14 #[.pointer (some ⟨q, 0, none⟩), .string s] H (fun v' H' => RSQ H q d FD FR res v' H') := by
  have hq := h.rj.hq
  have hql := hget_lt hq
  have hbs := sn_size bs
  have hai : (1 : Int) - (J.area : Nat) = ((1 - J.area : Nat) : Int) := by omega
  obtain ⟨na, hna⟩ : ∃ na, na = 1 - J.area := ⟨_, rfl⟩
  rw [← hna] at hai hcm hres
  have hmost := h.rk.1.most
  have hHb : J.half ≤ 512 := by unfold JM.half; omega
  have hhf : ∀ G : AH, Low H.length H G → AC Tryz.prog G.length γ 34 #[.pointer (some ⟨d, 0, none⟩)] G (fun v' _ => v' = .int .i64 (J.half : Nat)) := fun G hl => rhalf_rc (h.rk.low (H' := G) (fun j hj => hl.1 j (h.rk.lt j hj)))
  have htx := refText_ac (γ := γ) (nro := nro) (H := H) (s := s) (by omega) hnl
  rw [hbt] at htx
  have hlt := h.lts
  refine ac_of_aw Tryz.func14 rfl Tryz.ntmps14 Tryz.results14 (by simp) ?_
  refine aw_seq ?_
  (refine aw_ops (by kernel_rfl) (fun K hK => ?_); simp (disch := first | omega | (simp only [lnS]; try omega; done)) [-getElem?_pos, -getElem?_neg]; refine hK _ _ ?_; clear hK K)
  refine aw_seq ?_
  refine aw_seq ?_
  have hs6 : ¬ 60000 < s.size := by omega
  (refine aw_ops (by kernel_rfl) (fun K hK => ?_); simp (disch := first | omega | (simp only [lnS]; try omega; done)) [-getElem?_pos, -getElem?_neg, hs6]; refine hK _ _ ?_; clear hK K)
  refine aw_f (by (first | (simp [eval_tmp, put_at]; done) | (simp [eval_tmp, put_at]; omega))) (by kernel_rfl) ?_
  refine aw_skip ?_
  refine aw_seq ?_
  refine aw_ops (by kernel_rfl) (fun K hK => ?_)
  simp (disch := first | omega | (simp only [lnS]; try omega; done)) [-getElem?_pos, -getElem?_neg]
  refine ⟨by kernel_rfl, AC.mono htx ?_⟩
  rintro _ G1 ⟨rfl, L, rfl⟩
  have hl1 : Low H.length H (H ++ L) := Low.push (Nat.le_refl _) _
  generalize H ++ L = G1 at *
  try simp (disch := first | omega | (simp only [lnS]; try omega; done)) [-getElem?_pos, -getElem?_neg]
  refine hK _ _ ?_; clear hK K
  have hl1l := hl1.2
  have h1 := h.low (H' := G1) (fun j hj => hl1.1 j (hlt j hj))
  have hq1 := h1.rj.hq
  refine aw_seq ?_
  refine aw_seq ?_
  refine aw_ops (by kernel_rfl) (fun K hK => ?_)
  simp (disch := first | omega | (simp only [lnS]; try omega; done)) [-getElem?_pos, -getElem?_neg, hbs, hq1]
  refine ⟨by kernel_rfl, ac_of_rc (hhf G1 hl1) (by simp [pv_iv, pv_int, pv_bool, pv_string, pv_tup2, pv_tup3, iv_plain, p2_int, p2_bool, p2_string]) ?_⟩
  have hfr : Fr H G1 (q :: (FD ++ FR)) (q :: (FD ++ FR)) := ⟨hl1.2, fun j hj _ => hl1.1 j hj, fun j hj => .inl hj⟩
  by_cases hfull : J.half * 256 < bs.length
  · rw [if_pos hfull] at hres
    have hf2 : (J.half : Int) * 256 < (bs.length : Nat) := by omega
    simp (disch := first | omega | (simp only [lnS]; try omega; done)) [-getElem?_pos, -getElem?_neg, hfull, hf2]
    refine hK _ _ ?_; clear hK K
    refine aw_t (by (first | (simp [eval_tmp, put_at]; done) | (simp [eval_tmp, put_at]; omega))) (by kernel_rfl) ?_
    refine aw_seq ?_
    (refine aw_ops (by kernel_rfl) (fun K hK => ?_); simp (disch := first | omega | (simp only [lnS]; try omega; done)) [-getElem?_pos, -getElem?_neg]; refine hK _ _ ?_; clear hK K)
    (refine aw_ret ?_; simp (disch := first | omega | (simp only [lnS]; try omega; done)) [-getElem?_pos, -getElem?_neg, thenQ_ret, scopeQ_ret, inBlockQ_ret, RQ, resL, resV])
    subst hres
    exact ⟨rfl, rv, FD, FR, h1, hfr⟩
  rw [if_neg hfull] at hres
  have hf2 : ¬ (J.half : Int) * 256 < (bs.length : Nat) := by omega
  simp (disch := first | omega | (simp only [lnS]; try omega; done)) [-getElem?_pos, -getElem?_neg, hfull, hf2]
  refine hK _ _ ?_; clear hK K
  refine aw_f (by (first | (simp [eval_tmp, put_at]; done) | (simp [eval_tmp, put_at]; omega))) (by kernel_rfl) ?_
  refine aw_skip ?_
  refine aw_seq ?_
  refine aw_ops (by kernel_rfl) (fun K hK => ?_)
  simp (disch := first | omega | (simp only [lnS]; try omega; done)) [-getElem?_pos, -getElem?_neg, hq1, hai]
  refine ⟨by kernel_rfl, AC.mono (by simpa using hcm hfull G1 hl1) ?_⟩
  rintro _ G2 ⟨FD', rfl, hk2, hf2'⟩
  try simp (disch := first | omega | (simp only [lnS]; try omega; done)) [-getElem?_pos, -getElem?_neg]
  refine hK _ _ ?_; clear hK K
  have h2 : RS G2 q d rv FD' FR { J with D := r.1 } := by
    have hrj : RJ G2 q d rv FR J := h1.rj.low (fun j hj => by
      have hjl : j < G1.length := h1.lts j (by
        rcases List.mem_cons.1 hj with rfl | hj
        · simp
        · simp [hj])
      refine hf2'.out j hjl (fun hm => ?_)
      rcases List.mem_cons.1 hj with rfl | hj
      · exact h.qd hm
      · exact h.dr j hm hj)
    refine ⟨⟨hrj.hq, hrj.hr, hrj.qr⟩, hk2, fun hm => ?_, fun j hm hm2 => ?_⟩
    · rcases hf2'.new q hm with hh | hh
      · exact h.qd hh
      · have := h1.lts q (by simp); omega
    · rcases hf2'.new j hm with hh | hh
      · exact h.dr j hh hm2
      · have := h1.lts j (by simp [hm2]); omega
  have hff : Fr H G2 (q :: (FD ++ FR)) (q :: (FD' ++ FR)) := hfr.trans ⟨hf2'.len, fun j hj hne => hf2'.out j hj (fun hm => hne (by simp [hm])), fun j hj => by
    simp only [List.mem_cons, List.mem_append] at hj ⊢
    rcases hj with hh | hh | hh
    · exact .inl (.inl hh)
    · rcases hf2'.new j hh with hh | hh
      · exact .inl (.inr (.inl hh))
      · exact .inr hh
    · exact .inl (.inr (.inr hh))⟩
  have hq2 := h2.rj.hq
  have hq2l := hget_lt hq2
  have hnq : nro ≤ q := hn q (by simp)
  have r1 : List.range 1 = [0] := rfl
  refine aw_seq ?_
  refine aw_cut (fun α G => (∃ rv' FD'' FR', RS G q d rv' FD'' FR' (endJ J r [s] na bs.length).1 ∧ Fr H G (q :: (FD ++ FR)) (q :: (FD'' ++ FR'))) ∧ α 6 = .int .i64 (if r.2 = 0 then 0 else 7)) ?_ ?_
  · refine aw_seq ?_
    by_cases he : r.2 = 0
    · (refine aw_ops (by kernel_rfl) (fun K hK => ?_); simp (disch := first | omega | (simp only [lnS]; try omega; done)) [-getElem?_pos, -getElem?_neg, he]; refine hK _ _ ?_; clear hK K)
      refine aw_t (by (first | (simp [eval_tmp, put_at]; done) | (simp [eval_tmp, put_at]; omega))) (by kernel_rfl) ?_
      refine aw_seq ?_
      simp only at hq2
      (refine aw_ops (by kernel_rfl) (fun K hK => ?_); simp (disch := first | omega | (simp only [lnS]; try omega; done)) [-getElem?_pos, -getElem?_neg, hq2, hai]; refine hK _ _ ?_; clear hK K)
      (refine aw_ops (by kernel_rfl) (fun K hK => ?_); simp (disch := first | omega | (simp only [lnS]; try omega; done)) [-getElem?_pos, -getElem?_neg, r1, nt_strJ, nt_slJ, nt_ptrJ]; refine hK _ _ ?_; clear hK K)
      refine ⟨⟨.slice (some ⟨G2.length, 0, none⟩) 1 1, FD', [G2.length], ?_, ?_⟩, by (first | (simp [put_at, put_none, fr0_at, he]; done) | rfl)⟩
      · unfold endJ
        rw [if_pos he]
        have hlt2 := h2.lts
        refine ⟨⟨?_, ?_, ?_⟩, ?_, h2.qd, fun j hm hm2 => ?_⟩
        · rw [hget_left (by simp; omega), hget_set_eq hq2l]
        · exact .inr ⟨G2.length, 1, rfl, by rw [hga0]; rfl, rfl, rfl⟩
        · intro hm; simp at hm; omega
        · exact h2.rk.low (fun j hm => by
            have := h2.rk.lt j hm
            rw [hget_left (by simp; omega), hget_set_ne (show q ≠ j from fun e => h2.qd (e ▸ hm))])
        · simp at hm2; have := h2.rk.lt j hm; omega
      · have hlen := hff.len
        refine ⟨by simp; omega, fun j hj hne => ?_, fun j hj => ?_⟩
        · rw [hget_left (by simp; omega), hget_set_ne (fun e => hne (by simp [e])), hff.out j hj hne]
        · simp only [List.mem_cons, List.mem_append, List.not_mem_nil, or_false] at hj
          rcases hj with rfl | hj | rfl
          · exact .inl (by simp)
          · exact hff.new j (by simp [hj])
          · exact .inr (by omega)
    · (refine aw_ops (by kernel_rfl) (fun K hK => ?_); simp (disch := first | omega | (simp only [lnS]; try omega; done)) [-getElem?_pos, -getElem?_neg, he]; refine hK _ _ ?_; clear hK K)
      refine aw_f (by (first | (simp [eval_tmp, put_at, he]; done) | (simp [eval_tmp, put_at, he]; omega))) (by kernel_rfl) ?_
      refine aw_skip ?_
      refine ⟨⟨rv, FD', FR, ?_, hff⟩, by (first | (simp [put_at, put_none, fr0_at, he]; done) | rfl)⟩
      unfold endJ
      rw [if_neg he]
      exact ⟨⟨h2.rj.hq, h2.rj.hr, h2.rj.qr⟩, h2.rk, h2.qd, h2.dr⟩
  rintro α G ⟨⟨rv', FD'', FR', g1, g2⟩, h6⟩
  refine aw_seq ?_
  (refine aw_ops (by kernel_rfl) (fun K hK => ?_); simp (disch := first | omega | (simp only [lnS]; try omega; done)) [-getElem?_pos, -getElem?_neg, h6]; refine hK _ _ ?_; clear hK K)
  (refine aw_ret ?_; simp (disch := first | omega | (simp only [lnS]; try omega; done)) [-getElem?_pos, -getElem?_neg, thenQ_ret, scopeQ_ret, inBlockQ_ret, RQ, resL, resV])
  subst hres
  refine ⟨?_, rv', FD'', FR', g1, g2⟩
  unfold endJ
  split <;> rfl
theorem rpg {J : JM} {a hv : Nat} {s : List Int} : rpages J a hv s = pgL (1 + a * J.half + hv / 256) (s.drop (256 * (hv / 256))) (((s.drop (256 * (hv / 256))).length + 255) / 256) := rfl
theorem rsnap_ac {nro : Nat} {γ : Nat → Option Nat} {H : AH} (hnl : nro ≤ H.length) {q d : Nat} {rv : Value} {FD FR : List Nat} {J : JM} (h : RS H q d rv FD FR J) (hn : ∀ j ∈ q :: (FD ++ FR), nro ≤ j) (hg : Good J) (s : ByteArray) (hs : s.size ≤ 2000) :
    AC Tryz.prog nro γ 14 #[.pointer (some ⟨q, 0, none⟩), .string s] H (fun v' H' => RSQ H q d FD FR (snapJ J s) v' H') := by
  have ht : textsB [s] = textB s := by simp [textsB]
  have hbl : (textsB [s]).length ≤ 5 + s.size := by
    have := textB_len s
    rw [ht]; omega
  have hby := textsB_byJ [s]
  have ha := hg.area
  have hmost := h.rk.1.most
  have hfew := hg.few
  refine rsnap_go hnl h hn ha s hs (textsB [s]) (by omega) (by rw [ht]; with_unfolding_all rfl) (commitR J.D (rpages J (1 - J.area) 0 (textsB [s])) [(0, fillB (markL (1 - J.area) (textsB [s]).length))]) _ ?_ ?_
  · by_cases hfull : J.half * 256 < (textsB [s]).length
    · rw [if_pos hfull]
      unfold snapJ
      rw [if_pos hfull]
    · rw [if_neg hfull]
      exact (good_snap hg hmost (by omega) (by omega)).1
  · intro hfull G hl
    have h1 := h.low (H' := G) (fun j hj => hl.1 j (h.lts j hj))
    have hhalf : J.half = (J.D.firm.length - 1) / 2 := rfl
    have hml := markL_len (1 - J.area) (textsB [s]).length
    rw [rpg]
    refine rcommit_go (by have := hl.2; omega) h1.rj.hq h.qd h1.rk (fun j hj => hn j (by simp [hj])) (1 - J.area) 0 J.half _ _ (textsB [s]) _ _ (markL (1 - J.area) (textsB [s]).length) (by omega) hby (by omega) (by omega) hhalf rfl rfl rfl ?_ (fun G' => rmark_rc _ _ (by omega) (by omega)) (by with_unfolding_all rfl) (by rw [hml]; omega)
    rw [List.length_drop]
    omega
end
end Go.Proofs.YtgamobjfeaeddaaGreatDoor
