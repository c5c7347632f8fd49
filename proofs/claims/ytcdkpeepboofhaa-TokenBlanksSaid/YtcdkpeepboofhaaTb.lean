/-
  One token at the head of a text, walked.
-/
import Derived.Test.YtcdkpeepboofhaaTa
namespace Go.Proofs.Ytcdkpeepboofhaa
open Go Go.RowKit
set_option linter.unusedVariables false
set_option linter.unusedSimpArgs false
set_option maxRecDepth 100000
set_option maxHeartbeats 4000000
structure Tk where
  kind : Int
  n : Int
  tx : List Int
def Tk.cells (t : Tk) (at_ : Int) : List Value := [.int .i64 t.kind, .int .i64 at_, .int .i64 t.n, .string (strOfNums t.tx)]
def Tk.val (t : Tk) (at_ : Int) : Value := .agg #[.int .i64 t.kind, .int .i64 at_, .int .i64 t.n, .string (strOfNums t.tx)]
def tk0 : Tk := ⟨0, 0, []⟩
/-- What a token function answers. -/
abbrev TR := Tk × Nat × Int
def TR.val (r : TR) : Value := .tuple #[r.1.val 0, .int .i64 (r.2.1 : Nat), .int .i64 r.2.2]
def nameL (l : List Int) : TR := if 12 < runL isWordB l then (tk0, 0, 5) else (⟨1, 0, l.take (runL isWordB l)⟩, runL isWordB l, 0)
def numV : Int → List Int → Option Int
  | v, [] => some v
  | v, c :: r => if 999999999 < 10 * v + (c - 48) then none else numV (10 * v + (c - 48)) r
def numberL (l : List Int) : TR := if l.getD 0 0 = 48 ∧ 1 < runL isDigB l then (tk0, 0, 25) else
  match numV 0 (l.take (runL isDigB l)) with
  | none => (tk0, 0, 5)
  | some v => (⟨2, v, []⟩, runL isDigB l, 0)
def hexL : List Int → Int × Nat × Int
  | [] => (0, 0, 26)
  | [x] => if hexI x < 0 then (0, 0, 25) else (0, 0, 26)
  | x :: y :: _ => if hexI x < 0 ∨ hexI y < 0 then (0, 0, 25) else (16 * hexI x + hexI y, 4, 0)
def letterL : List Int → Int × Nat × Int
  | [] => (0, 0, 0)
  | c :: r => if c < 32 ∨ 126 < c then (0, 0, 25) else if c ≠ 92 then (c, 1, 0) else
    match r with
    | [] => (0, 0, 26)
    | d :: r2 => if d = 34 ∨ d = 92 then (d, 2, 0) else if d = 120 then hexL r2 else (0, 0, 25)
def txL : Nat → List Int → List Int → Nat → TR
  | 0, _, _, _ => (tk0, 0, 26)
  | _ + 1, [], _, _ => (tk0, 0, 26)
  | f + 1, c :: r, b, at_ => if c = 34 then (if 64 < b.length then (tk0, 0, 5) else (⟨3, 0, b⟩, at_ + 1, 0)) else
    if (letterL (c :: r)).2.2 ≠ 0 then (tk0, 0, (letterL (c :: r)).2.2) else txL f ((c :: r).drop (letterL (c :: r)).2.1) (b ++ [(letterL (c :: r)).1]) (at_ + (letterL (c :: r)).2.1)
def textT (l : List Int) : TR := txL (l.length + 1) (l.drop 1) [] 1
def firstL (l : List Int) : TR :=
  if isLetB (l.getD 0 0) = true then nameL l else if isDigB (l.getD 0 0) = true then numberL l else if l.getD 0 0 = 34 then textT l else
  if isSign (l.getD 0 0) = true then (⟨4, 0, l.take 1⟩, 1, 0) else (tk0, 0, 25)
theorem pv_tr (r : TR) : plainV r.val = true := by simp [TR.val, Tk.val, plainV, plain2, plain1]
theorem hex_bd (c : Int) : -1 ≤ hexI c ∧ hexI c ≤ 15 := by
  unfold hexI isDigB
  split
  · rename_i h; simp at h; omega
  · split <;> omega
theorem idx_hex {c : Int} (hc : 0 ≤ c ∧ c ≤ 255) : firstIdx { data := #[48, 49, 50, 51, 52, 53, 54, 55, 56, 57, 97, 98, 99, 100, 101, 102] } c.toNat.toUInt8 = hexI c := by
  have := hex_idx c.toNat (by omega)
  rwa [Int.toNat_of_nonneg hc.1] at this
theorem idx_sign {c : Int} (hc : 0 ≤ c ∧ c ≤ 255) : decide (0 ≤ firstIdx { data := #[40, 41, 123, 125, 44, 59, 61, 60, 62, 43, 45, 42, 47, 37, 38, 124, 33] } c.toNat.toUInt8) = isSign c := by
  have := sign_idx c.toNat (by omega)
  rwa [Int.toNat_of_nonneg hc.1] at this
theorem letterL_bd {l : List Int} (hb : By l) : By [(letterL l).1] ∧ ((letterL l).2.2 = 0 → l ≠ [] → 1 ≤ (letterL l).2.1 ∧ (letterL l).2.1 ≤ l.length) ∧ (letterL l).2.1 ≤ 4 ∧ 0 ≤ (letterL l).2.2 ∧ (letterL l).2.2 ≤ 26 := by
  have one : ∀ x : Int, 0 ≤ x ∧ x ≤ 255 → By [x] := fun x hx => .cons hx .nil
  cases l with
  | nil => exact ⟨one _ (by simp [letterL]), by simp, by simp [letterL], by simp [letterL], by simp [letterL]⟩
  | cons c r =>
    have hc := hb c (by simp)
    simp only [letterL]
    split
    · exact ⟨one _ (by simp), by simp, by simp, by simp, by simp⟩
    split
    · exact ⟨one _ hc, by simp, by simp, by simp, by simp⟩
    cases r with
    | nil => exact ⟨one _ (by simp), by simp, by simp, by simp, by simp⟩
    | cons d r2 =>
      have hd := hb d (by simp)
      simp only
      split
      · exact ⟨one _ hd, by simp, by simp, by simp, by simp⟩
      split
      · cases r2 with
        | nil => exact ⟨one _ (by simp [hexL]), by simp [hexL], by simp [hexL], by simp [hexL], by simp [hexL]⟩
        | cons x r3 =>
          cases r3 with
          | nil =>
            simp only [hexL]
            split
            · exact ⟨one _ (by simp), by simp, by simp, by simp, by simp⟩
            · exact ⟨one _ (by simp), by simp, by simp, by simp, by simp⟩
          | cons y r4 =>
            have h1 := hex_bd x
            have h2 := hex_bd y
            simp only [hexL]
            split
            · exact ⟨one _ (by simp), by simp, by simp, by simp, by simp⟩
            · rename_i hq
              exact ⟨one _ (by simp only; omega), by simp, by simp, by simp, by simp⟩
      · exact ⟨one _ (by simp), by simp, by simp, by simp, by simp⟩
theorem runL_all {f : Int → Bool} {l : List Int} : ∀ x ∈ l.take (runL f l), f x = true := by
  induction l with
  | nil => intro x hx; simp at hx
  | cons c l ih =>
    intro x hx
    cases h : f c with
    | true =>
      rw [runL_cons_t h, List.take_succ_cons] at hx
      rcases List.mem_cons.1 hx with rfl | hx
      · exact h
      · exact ih x hx
    | false => rw [runL_cons_f h] at hx; simp at hx
theorem eval_fn (γ : Nat → Option Nat) (α : Fm) (f : FuncId) : α.eval γ (.func f) = .func (.func f) #[] #[] := rfl
attribute [local simp] wb_bool wb_undef XL_nil XL_cons XLc_val XLc_call step1_eq stepW_t stepW_f stepC_n stepC_s stepX_s stepX_n stepN_s calleeX oneV xop_eq xopR_s xopR_n wantedA_eq wantedG_n wantedG_s plain1_int plain1_bool plain1_string bits_i64 bits_u64 bits_u32 bits_u16 bits_u8 xeqA xagg xcmp xarr allK_iv num_iv calleeOf xread xeff xbin xint xnil xun xstr xload xconv xpart xfield xfieldAddr xindexAddr xindex bnd asInt? xslice xlen xmin xmax xbuild xfill xappend xapp2 xappstr xappmk xcap xcopy xcells eval_tmp eval_const put_at put_none fr0_at cells_agg cells_int cells_bool cells_string cells_ptr cells_slice notTuple tab iv_all hget_app hget_app0 hget_cons0 hget_cons set_app set_app0 setR setR_one QL_nil QL_cons QLc_val stepQ_t stepQ_f stepQC_n stepQC_s stepQX_s SL_nil SL_cons SLc_val stepS_t stepS_f ltT ltF leT leF eqT eqF ltTn ltFn leTn leFn eqTn eqFn beqT beqF bneT bneF wi64 wu64 wu32 wu16 wu8 tmodP tdivP hgetL hgetNe hgetEq setL nums_def nums_len Nat.succ_le_of_lt List.getElem?_cons_zero List.getElem?_cons_succ Option.getD_some Int.toNat_add Int.toNat_mul agB agI agS agP agL agA okB okI okS okP okSl okA
section
variable {l : List Int}
theorem name_vc (hb : By l) (hl : l.length ≤ 1000000) : VC Try.prog 14 #[.string (strOfNums l)] (nameL l).val := by
  have hsz := sn_size l
  have hle := runL_le isWordB l
  have hru := run_vc (F := 19) (f := isWordB) (by kernel_rfl) (fun c hc => word_vc hc) hb hl
  unfold nameL
  generalize runL isWordB l = n at hle hru ⊢
  have hex := ex_take l n
  refine vc_of_ac (by simp [pv_iv, pv_int, pv_bool, pv_string, pv_tup2, pv_tup3, iv_plain, p2_int, p2_bool, p2_string]) (pv_tr _) ?_
  refine ac_of_aw Try.func14 rfl Try.ntmps14 Try.results14 (by simp) ?_
  refine aw_seq ?_
  (refine aw_ops (by kernel_rfl) (fun K hK => ?_); simp (disch := first | omega | (simp only [List.length_set, List.length_append, List.length_cons, List.length_nil, iv_length, zl_length]; try omega; done)) [-getElem?_pos, -getElem?_neg]; refine hK _ _ ?_; clear hK K)
  refine aw_seq ?_
  refine aw_ops (by kernel_rfl) (fun K hK => ?_)
  simp (disch := first | omega | (simp only [List.length_set, List.length_append, List.length_cons, List.length_nil, iv_length, zl_length]; try omega; done)) [-getElem?_pos, -getElem?_neg]
  refine ⟨by kernel_rfl, ac_of_vc (by simp [pv_fn, pv_string, pv_int, eval_fn]) hru ?_⟩
  try simp (disch := first | omega | (simp only [List.length_set, List.length_append, List.length_cons, List.length_nil, iv_length, zl_length]; try omega; done)) [-getElem?_pos, -getElem?_neg]
  refine hK _ _ ?_; clear hK K
  refine aw_seq ?_
  refine aw_seq ?_
  (refine aw_ops (by kernel_rfl) (fun K hK => ?_); simp (disch := first | omega | (simp only [List.length_set, List.length_append, List.length_cons, List.length_nil, iv_length, zl_length]; try omega; done)) [-getElem?_pos, -getElem?_neg]; refine hK _ _ ?_; clear hK K)
  by_cases h : 12 < n
  · rw [if_pos h]
    refine aw_t (by (first | (simp [eval_tmp, put_at, h]; done) | (simp [eval_tmp, put_at, h]; omega))) (by kernel_rfl) ?_
    refine aw_seq ?_
    (refine aw_ops (by kernel_rfl) (fun K hK => ?_); simp (disch := first | omega | (simp only [List.length_set, List.length_append, List.length_cons, List.length_nil, iv_length, zl_length]; try omega; done)) [-getElem?_pos, -getElem?_neg]; refine hK _ _ ?_; clear hK K)
    (refine aw_ret ?_; simp (disch := first | omega | (simp only [List.length_set, List.length_append, List.length_cons, List.length_nil, iv_length, zl_length]; try omega; done)) [-getElem?_pos, -getElem?_neg, thenQ_ret, scopeQ_ret, inBlockQ_ret, RQ, resL, resV, TR.val, Tk.val, tk0])
    rfl
  · rw [if_neg h]
    refine aw_f (by (first | (simp [eval_tmp, put_at, h]; done) | (simp [eval_tmp, put_at, h]; omega))) (by kernel_rfl) ?_
    refine aw_skip ?_
    refine aw_seq ?_
    (refine aw_ops (by kernel_rfl) (fun K hK => ?_); simp (disch := first | omega | (simp only [List.length_set, List.length_append, List.length_cons, List.length_nil, iv_length, zl_length]; try omega; done)) [-getElem?_pos, -getElem?_neg, hsz, hex]; refine hK _ _ ?_; clear hK K)
    (refine aw_ret ?_; simp (disch := first | omega | (simp only [List.length_set, List.length_append, List.length_cons, List.length_nil, iv_length, zl_length]; try omega; done)) [-getElem?_pos, -getElem?_neg, thenQ_ret, scopeQ_ret, inBlockQ_ret, RQ, resL, resV, TR.val, Tk.val, tk0])
theorem hexL_eq (r : List Int) : hexL r = if (r.take 2).any (fun c => decide (hexI c < 0)) = true then (0, 0, 25) else if r.length < 2 then (0, 0, 26) else ((r.take 2).foldl (fun v c => v * 16 + hexI c) 0, 4, 0) := by
  match r with
  | [] => simp [hexL]
  | [x] =>
    simp only [hexL, List.take, List.any_cons, List.any_nil, Bool.or_false, decide_eq_true_eq, List.length_singleton]
    rfl
  | x :: y :: r3 =>
    simp only [hexL, List.take, List.any_cons, List.any_nil, Bool.or_false, Bool.or_eq_true, decide_eq_true_eq, List.foldl_cons, List.foldl_nil, List.length_cons]
    rw [if_neg (by omega : ¬ r3.length + 1 + 1 < 2)]
    split
    · rfl
    · rw [Int.zero_mul, Int.zero_add, Int.mul_comm]
theorem hexv_bd (D : List Int) (i : Nat) (hD : D.length ≤ 2) (hi : i ≤ D.length) (h : (D.take i).any (fun c => decide (hexI c < 0)) = false) : 0 ≤ (D.take i).foldl (fun v c => v * 16 + hexI c) 0 ∧ (D.take i).foldl (fun v c => v * 16 + hexI c) 0 ≤ 255 := by
  match D, i with
  | [], _ => simp
  | x :: _, 0 => simp
  | [x], i + 1 =>
    have := hex_bd x
    simp at h ⊢
    omega
  | [x, y], 1 =>
    have := hex_bd x
    simp at h ⊢
    omega
  | [x, y], i + 2 =>
    have := hex_bd x
    have := hex_bd y
    simp at h ⊢
    omega
  | _ :: _ :: _ :: _, _ => simp at hD
theorem hex_vc {c d : Int} {r : List Int} (hb : By (c :: d :: r)) (hl : (c :: d :: r).length ≤ 1000000) : VC Try.prog 22 #[.string (strOfNums (c :: d :: r))] (.tuple #[.int .u8 (hexL r).1, .int .i64 ((hexL r).2.1 : Nat), .int .i64 (hexL r).2.2]) := by
  have hsz := sn_size (c :: d :: r)
  have hxe := hexL_eq r
  rw [List.length_cons, List.length_cons] at hsz hl
  have hbr : By r := fun x hx => hb x (by simp [hx])
  obtain ⟨m, hm⟩ : ∃ m : Nat, m = min (r.length + 1 + 1) 4 := ⟨_, rfl⟩
  have hmi : (if (4 : Int) < (r.length : Int) + 1 + 1 then (4 : Int) else (r.length : Int) + 1 + 1) = (m : Int) := by split <;> omega
  have hex := ex_range (c :: d :: r) 2 m
  have hD : ((c :: d :: r).take m).drop 2 = r.take 2 := by
    rw [List.drop_take]
    show List.take (m - 2) r = List.take 2 r
    rcases Nat.lt_or_ge r.length 2 with h | h
    · rw [List.take_of_length_le (by omega), List.take_of_length_le (by omega)]
    · rw [show m - 2 = 2 by omega]
  rw [hD] at hex
  obtain ⟨D, hDe⟩ : ∃ D, D = r.take 2 := ⟨_, rfl⟩
  have hD2 : D.length = m - 2 := by rw [hDe, List.length_take]; omega
  have hDb : By D := by rw [hDe]; exact hbr.take 2
  have hnD := nums_of D hDb
  have hszD := sn_size D
  rw [← hDe] at hex hxe
  refine vc_of_ac (by simp [pv_iv, pv_int, pv_bool, pv_string, pv_tup2, pv_tup3, iv_plain, p2_int, p2_bool, p2_string]) (by simp [pv_iv, pv_int, pv_bool, pv_string, pv_tup2, pv_tup3, iv_plain, p2_int, p2_bool, p2_string]) ?_
  refine ac_of_aw Try.func22 rfl Try.ntmps22 Try.results22 (by simp) ?_
  refine aw_seq ?_
  (refine aw_ops (by kernel_rfl) (fun K hK => ?_); simp (disch := first | omega | (simp only [List.length_set, List.length_append, List.length_cons, List.length_nil, iv_length, zl_length]; try omega; done)) [-getElem?_pos, -getElem?_neg]; refine hK _ _ ?_; clear hK K)
  refine aw_seq ?_
  (refine aw_ops (by kernel_rfl) (fun K hK => ?_); simp (disch := first | omega | (simp only [List.length_set, List.length_append, List.length_cons, List.length_nil, iv_length, zl_length]; try omega; done)) [-getElem?_pos, -getElem?_neg]; refine hK _ _ ?_; clear hK K)
  refine aw_seq ?_
  refine aw_seq ?_
  (refine aw_ops (by kernel_rfl) (fun K hK => ?_); simp (disch := first | omega | (simp only [List.length_set, List.length_append, List.length_cons, List.length_nil, iv_length, zl_length]; try omega; done)) [-getElem?_pos, -getElem?_neg, hsz, hmi, hex, hnD, hszD]; refine hK _ _ ?_; clear hK K)
  refine aw_block ?_
  refine aw_loop (fun q α G => G = [some ⟨iv .u8 D, 5, none⟩] ∧ ∃ i : Nat, i + q = D.length ∧ α 16 = .int .i64 (i : Nat) ∧ α 15 = .int .i64 (D.length : Nat) ∧ α 14 = .slice (some ⟨0, 0, none⟩) D.length D.length ∧ α 0 = .string (strOfNums (c :: d :: r)) ∧ α 5 = .int .i64 ((D.take i).foldl (fun v c => v * 16 + hexI c) 0) ∧ (D.take i).any (fun c => decide (hexI c < 0)) = false) D.length ?_ ?_
  · exact ⟨rfl, 0, by omega, by (first | (simp [put_at, put_none, fr0_at]; done) | rfl), by simp [put_at, hD2], by simp [put_at, hD2], by (first | (simp [put_at, put_none, fr0_at]; done) | rfl), by (first | (simp [put_at, put_none, fr0_at]; done) | rfl), by simp⟩
  rintro q α G ⟨rfl, i, hiq, h16, h15, h14, h0, h5, hany⟩
  refine aw_seq ?_
  (refine aw_ops (by kernel_rfl) (fun K hK => ?_); simp (disch := first | omega | (simp only [List.length_set, List.length_append, List.length_cons, List.length_nil, iv_length, zl_length]; try omega; done)) [-getElem?_pos, -getElem?_neg, h16, h15]; refine hK _ _ ?_; clear hK K)
  refine aw_seq ?_
  by_cases hi : i < D.length
  case neg =>
    refine aw_f (by (first | (simp [eval_tmp, put_at, hi]; done) | (simp [eval_tmp, put_at, hi]; omega))) (by kernel_rfl) ?_
    refine aw_exit ?_
    rw [List.take_of_length_le (by omega)] at h5 hany
    rw [hany, if_neg (by simp)] at hxe
    refine aw_seq ?_
    refine aw_seq ?_
    (refine aw_ops (by kernel_rfl) (fun K hK => ?_); simp (disch := first | omega | (simp only [List.length_set, List.length_append, List.length_cons, List.length_nil, iv_length, zl_length]; try omega; done)) [-getElem?_pos, -getElem?_neg, h0, hsz]; refine hK _ _ ?_; clear hK K)
    have hbd := hexv_bd D D.length (by omega) (Nat.le_refl _) (by rw [List.take_length]; exact hany)
    rw [List.take_length] at hbd
    obtain ⟨V, hV⟩ : ∃ V, V = D.foldl (fun v c => v * 16 + hexI c) 0 := ⟨_, rfl⟩
    rw [← hV] at h5 hbd hxe
    by_cases h4 : r.length < 2
    · rw [if_pos h4] at hxe
      refine aw_t (by (first | (simp [eval_tmp, put_at, h4]; done) | (simp [eval_tmp, put_at, h4]; omega))) (by kernel_rfl) ?_
      refine aw_seq ?_
      (refine aw_ops (by kernel_rfl) (fun K hK => ?_); simp (disch := first | omega | (simp only [List.length_set, List.length_append, List.length_cons, List.length_nil, iv_length, zl_length]; try omega; done)) [-getElem?_pos, -getElem?_neg]; refine hK _ _ ?_; clear hK K)
      (refine aw_ret ?_; simp (disch := first | omega | (simp only [List.length_set, List.length_append, List.length_cons, List.length_nil, iv_length, zl_length]; try omega; done)) [-getElem?_pos, -getElem?_neg, thenQ_ret, scopeQ_ret, inBlockQ_ret, RQ, resL, resV, hxe])
    · rw [if_neg h4] at hxe
      refine aw_f (by (first | (simp [eval_tmp, put_at, h4]; done) | (simp [eval_tmp, put_at, h4]; omega))) (by kernel_rfl) ?_
      refine aw_skip ?_
      refine aw_seq ?_
      (refine aw_ops (by kernel_rfl) (fun K hK => ?_); simp (disch := first | omega | (simp only [List.length_set, List.length_append, List.length_cons, List.length_nil, iv_length, zl_length]; try omega; done)) [-getElem?_pos, -getElem?_neg, h5]; refine hK _ _ ?_; clear hK K)
      (refine aw_ret ?_; simp (disch := first | omega | (simp only [List.length_set, List.length_append, List.length_cons, List.length_nil, iv_length, zl_length]; try omega; done)) [-getElem?_pos, -getElem?_neg, thenQ_ret, scopeQ_ret, inBlockQ_ret, RQ, resL, resV, hxe])
  refine aw_t (by (first | (simp [eval_tmp, put_at, hi]; done) | (simp [eval_tmp, put_at, hi]; omega))) (by kernel_rfl) ?_
  refine aw_skip ?_
  refine aw_seq ?_
  refine aw_block ?_
  refine aw_seq ?_
  obtain ⟨x, hx⟩ : ∃ x, D[i]? = some x := ⟨_, List.getElem?_eq_getElem hi⟩
  have hxb := hDb x (List.mem_of_getElem? hx)
  have hxi : (iv .u8 D)[i]? = some (.int .u8 x) := by simp [iv, hx]
  have hivl := iv_length .u8 D
  (refine aw_ops (by kernel_rfl) (fun K hK => ?_); simp (disch := first | omega | (simp only [List.length_set, List.length_append, List.length_cons, List.length_nil, iv_length, zl_length]; try omega; done)) [-getElem?_pos, -getElem?_neg, h14, h16, hxi, hivl]; refine hK _ _ ?_; clear hK K)
  refine aw_seq ?_
  refine aw_ops (by kernel_rfl) (fun K hK => ?_)
  simp (disch := first | omega | (simp only [List.length_set, List.length_append, List.length_cons, List.length_nil, iv_length, zl_length]; try omega; done)) [-getElem?_pos, -getElem?_neg]
  refine ⟨by kernel_rfl, ac_of_vc (by simp [pv_iv, pv_int, pv_bool, pv_string, pv_tup2, pv_tup3, iv_plain, p2_int, p2_bool, p2_string]) idx_vc ?_⟩
  rw [idx_hex hxb]
  have hxh := hex_bd x
  obtain ⟨h, hh⟩ : ∃ h, h = hexI x := ⟨_, rfl⟩
  rw [← hh] at hxh ⊢
  try simp (disch := first | omega | (simp only [List.length_set, List.length_append, List.length_cons, List.length_nil, iv_length, zl_length]; try omega; done)) [-getElem?_pos, -getElem?_neg]
  refine hK _ _ ?_; clear hK K
  refine aw_seq ?_
  refine aw_seq ?_
  (refine aw_ops (by kernel_rfl) (fun K hK => ?_); simp (disch := first | omega | (simp only [List.length_set, List.length_append, List.length_cons, List.length_nil, iv_length, zl_length]; try omega; done)) [-getElem?_pos, -getElem?_neg]; refine hK _ _ ?_; clear hK K)
  have htk : D.take (i + 1) = D.take i ++ [x] := by rw [List.take_add_one, hx]; rfl
  by_cases hneg : h < 0
  · refine aw_t (by (first | (simp [eval_tmp, put_at, hneg]; done) | (simp [eval_tmp, put_at, hneg]; omega))) (by kernel_rfl) ?_
    refine aw_seq ?_
    (refine aw_ops (by kernel_rfl) (fun K hK => ?_); simp (disch := first | omega | (simp only [List.length_set, List.length_append, List.length_cons, List.length_nil, iv_length, zl_length]; try omega; done)) [-getElem?_pos, -getElem?_neg]; refine hK _ _ ?_; clear hK K)
    have : (D.any fun c => decide (hexI c < 0)) = true := by
      rw [List.any_eq_true]
      exact ⟨x, List.mem_of_getElem? hx, by rw [← hh]; simpa using hneg⟩
    rw [this, if_pos rfl] at hxe
    (refine aw_ret ?_; simp (disch := first | omega | (simp only [List.length_set, List.length_append, List.length_cons, List.length_nil, iv_length, zl_length]; try omega; done)) [-getElem?_pos, -getElem?_neg, thenQ_ret, scopeQ_ret, inBlockQ_ret, RQ, resL, resV, hxe])
  · refine aw_f (by (first | (simp [eval_tmp, put_at, hneg]; done) | (simp [eval_tmp, put_at, hneg]; omega))) (by kernel_rfl) ?_
    refine aw_skip ?_
    have hany2 : (D.take (i + 1)).any (fun c => decide (hexI c < 0)) = false := by
      rw [htk, List.any_append, hany]
      simp only [List.any_cons, List.any_nil, Bool.or_false, Bool.false_or, decide_eq_false_iff_not]
      rw [← hh]; exact hneg
    have hbd := hexv_bd D i (by omega) (by omega) hany
    have hbd2 := hexv_bd D (i + 1) (by omega) (by omega) hany2
    have hnx : (D.take (i + 1)).foldl (fun v c => v * 16 + hexI c) 0 = (D.take i).foldl (fun v c => v * 16 + hexI c) 0 * 16 + h := by
      rw [htk, List.foldl_append, hh]; rfl
    obtain ⟨V, hV⟩ : ∃ V, V = (D.take i).foldl (fun v c => v * 16 + hexI c) 0 := ⟨_, rfl⟩
    rw [hnx] at hbd2
    rw [← hV] at h5 hbd hnx hbd2
    (refine aw_ops (by kernel_rfl) (fun K hK => ?_); simp (disch := first | omega | (simp only [List.length_set, List.length_append, List.length_cons, List.length_nil, iv_length, zl_length]; try omega; done)) [-getElem?_pos, -getElem?_neg, h5]; refine hK _ _ ?_; clear hK K)
    (refine aw_ops (by kernel_rfl) (fun K hK => ?_); simp (disch := first | omega | (simp only [List.length_set, List.length_append, List.length_cons, List.length_nil, iv_length, zl_length]; try omega; done)) [-getElem?_pos, -getElem?_neg, h16]; refine hK _ _ ?_; clear hK K)
    refine ⟨q - 1, by omega, rfl, i + 1, by omega, by (first | (simp [put_at, put_none, fr0_at]; done) | rfl), by (first | (simp [put_at, put_none, fr0_at, h15]; done) | rfl), by (first | (simp [put_at, put_none, fr0_at, h14]; done) | rfl), by (first | (simp [put_at, put_none, fr0_at, h0]; done) | rfl), by rw [hnx]; (first | (simp [put_at, put_none, fr0_at]; done) | rfl), hany2⟩
theorem letter_vc (hb : By l) (hl : l.length ≤ 1000000) (hne : l ≠ []) : VC Try.prog 20 #[.string (strOfNums l)] (.tuple #[.int .u8 (letterL l).1, .int .i64 ((letterL l).2.1 : Nat), .int .i64 (letterL l).2.2]) := by
  have hsz := sn_size l
  cases l with
  | nil => exact absurd rfl hne
  | cons c r =>
  have hc := hb c (by simp)
  have hg0 : gb (strOfNums (c :: r)) 0 = c := gb_get hb rfl
  rw [List.length_cons] at hsz hl
  refine vc_of_ac (by simp [pv_iv, pv_int, pv_bool, pv_string, pv_tup2, pv_tup3, iv_plain, p2_int, p2_bool, p2_string]) (by simp [pv_iv, pv_int, pv_bool, pv_string, pv_tup2, pv_tup3, iv_plain, p2_int, p2_bool, p2_string]) ?_
  obtain ⟨s, hs⟩ : ∃ s, s = strOfNums (c :: r) := ⟨_, rfl⟩
  obtain ⟨R, hR⟩ : ∃ R, R = letterL (c :: r) := ⟨_, rfl⟩
  have hR2 := hR
  simp only [letterL] at hR2
  rw [← hs] at hsz hg0
  rw [← hR, ← hs]
  refine ac_of_aw Try.func20 rfl Try.ntmps20 Try.results20 (by simp) ?_
  refine aw_seq ?_
  (refine aw_ops (by kernel_rfl) (fun K hK => ?_); simp (disch := first | omega | (simp only [List.length_set, List.length_append, List.length_cons, List.length_nil, iv_length, zl_length]; try omega; done)) [-getElem?_pos, -getElem?_neg]; refine hK _ _ ?_; clear hK K)
  refine aw_seq ?_
  refine aw_block ?_
  refine aw_seq ?_
  refine aw_cut (fun α G => G = [] ∧ α 0 = .string s ∧ α 5 = .bool (decide (c < 32 ∨ 126 < c))) ?_ ?_
  · by_cases h1 : c < 32
    · (refine aw_ops (by kernel_rfl) (fun K hK => ?_); simp (disch := first | omega | (simp only [List.length_set, List.length_append, List.length_cons, List.length_nil, iv_length, zl_length]; try omega; done)) [-getElem?_pos, -getElem?_neg, hsz, hg0, h1]; refine hK _ _ ?_; clear hK K)
      exact ⟨rfl, by (first | (simp [put_at, put_none, fr0_at]; done) | rfl), by simp [put_at, h1]⟩
    · (refine aw_ops (by kernel_rfl) (fun K hK => ?_); simp (disch := first | omega | (simp only [List.length_set, List.length_append, List.length_cons, List.length_nil, iv_length, zl_length]; try omega; done)) [-getElem?_pos, -getElem?_neg, hsz, hg0, h1]; refine hK _ _ ?_; clear hK K)
      exact ⟨rfl, by (first | (simp [put_at, put_none, fr0_at]; done) | rfl), by simp [put_at]; omega⟩
  rintro α G ⟨rfl, h0, h5⟩
  by_cases h1 : c < 32 ∨ 126 < c
  · rw [if_pos h1] at hR2
    refine aw_t (by (first | (simp [eval_tmp, put_at, h5, h1]; done) | (simp [eval_tmp, put_at, h5, h1]; omega))) (by kernel_rfl) ?_
    refine aw_seq ?_
    (refine aw_ops (by kernel_rfl) (fun K hK => ?_); simp (disch := first | omega | (simp only [List.length_set, List.length_append, List.length_cons, List.length_nil, iv_length, zl_length]; try omega; done)) [-getElem?_pos, -getElem?_neg]; refine hK _ _ ?_; clear hK K)
    (refine aw_ret ?_; simp (disch := first | omega | (simp only [List.length_set, List.length_append, List.length_cons, List.length_nil, iv_length, zl_length]; try omega; done)) [-getElem?_pos, -getElem?_neg, thenQ_ret, scopeQ_ret, inBlockQ_ret, RQ, resL, resV, hR2])
  rw [if_neg h1] at hR2
  refine aw_f (by (first | (simp [eval_tmp, put_at, h5, h1]; done) | (simp [eval_tmp, put_at, h5, h1]; omega))) (by kernel_rfl) ?_
  refine aw_seq ?_
  (refine aw_ops (by kernel_rfl) (fun K hK => ?_); simp (disch := first | omega | (simp only [List.length_set, List.length_append, List.length_cons, List.length_nil, iv_length, zl_length]; try omega; done)) [-getElem?_pos, -getElem?_neg, h0, hsz, hg0]; refine hK _ _ ?_; clear hK K)
  by_cases h2 : c = 92
  case neg =>
    rw [if_pos h2] at hR2
    refine aw_t (by (first | (simp [eval_tmp, put_at, h2]; done) | (simp [eval_tmp, put_at, h2]; omega))) (by kernel_rfl) ?_
    refine aw_seq ?_
    (refine aw_ops (by kernel_rfl) (fun K hK => ?_); simp (disch := first | omega | (simp only [List.length_set, List.length_append, List.length_cons, List.length_nil, iv_length, zl_length]; try omega; done)) [-getElem?_pos, -getElem?_neg, h0, hsz, hg0]; refine hK _ _ ?_; clear hK K)
    (refine aw_ret ?_; simp (disch := first | omega | (simp only [List.length_set, List.length_append, List.length_cons, List.length_nil, iv_length, zl_length]; try omega; done)) [-getElem?_pos, -getElem?_neg, thenQ_ret, scopeQ_ret, inBlockQ_ret, RQ, resL, resV, hR2])
  rw [if_neg (by simpa using h2)] at hR2
  refine aw_f (by (first | (simp [eval_tmp, put_at, h2]; done) | (simp [eval_tmp, put_at, h2]; omega))) (by kernel_rfl) ?_
  refine aw_seq ?_
  (refine aw_ops (by kernel_rfl) (fun K hK => ?_); simp (disch := first | omega | (simp only [List.length_set, List.length_append, List.length_cons, List.length_nil, iv_length, zl_length]; try omega; done)) [-getElem?_pos, -getElem?_neg, h0, hsz]; refine hK _ _ ?_; clear hK K)
  cases r with
  | nil =>
    simp only at hR2
    refine aw_t (by (first | (simp [eval_tmp, put_at]; done) | (simp [eval_tmp, put_at]; omega))) (by kernel_rfl) ?_
    refine aw_seq ?_
    (refine aw_ops (by kernel_rfl) (fun K hK => ?_); simp (disch := first | omega | (simp only [List.length_set, List.length_append, List.length_cons, List.length_nil, iv_length, zl_length]; try omega; done)) [-getElem?_pos, -getElem?_neg]; refine hK _ _ ?_; clear hK K)
    (refine aw_ret ?_; simp (disch := first | omega | (simp only [List.length_set, List.length_append, List.length_cons, List.length_nil, iv_length, zl_length]; try omega; done)) [-getElem?_pos, -getElem?_neg, thenQ_ret, scopeQ_ret, inBlockQ_ret, RQ, resL, resV, hR2])
  | cons d r2 =>
  have hd := hb d (by simp)
  have hg1 : gb s 1 = d := by rw [hs]; exact gb_get hb rfl
  rw [List.length_cons] at hsz hl
  simp only at hR2
  refine aw_f (by (first | (simp [eval_tmp, put_at]; done) | (simp [eval_tmp, put_at]; omega))) (by kernel_rfl) ?_
  refine aw_seq ?_
  refine aw_cut (fun α G => G = [] ∧ α 0 = .string s ∧ α 24 = .bool (decide (d = 34 ∨ d = 92))) ?_ ?_
  · by_cases h3 : d = 34
    · (refine aw_ops (by kernel_rfl) (fun K hK => ?_); simp (disch := first | omega | (simp only [List.length_set, List.length_append, List.length_cons, List.length_nil, iv_length, zl_length]; try omega; done)) [-getElem?_pos, -getElem?_neg, h0, hsz, hg1, h3]; refine hK _ _ ?_; clear hK K)
      exact ⟨rfl, by (first | (simp [put_at, put_none, fr0_at, h0]; done) | rfl), by simp [put_at, h3]⟩
    · (refine aw_ops (by kernel_rfl) (fun K hK => ?_); simp (disch := first | omega | (simp only [List.length_set, List.length_append, List.length_cons, List.length_nil, iv_length, zl_length]; try omega; done)) [-getElem?_pos, -getElem?_neg, h0, hsz, hg1, h3]; refine hK _ _ ?_; clear hK K)
      exact ⟨rfl, by (first | (simp [put_at, put_none, fr0_at, h0]; done) | rfl), by simp [put_at, h3]; rw [Bool.eq_iff_iff]; simp⟩
  clear h0 h5
  rintro α G ⟨rfl, h0, h24⟩
  by_cases h3 : d = 34 ∨ d = 92
  · rw [if_pos h3] at hR2
    refine aw_t (by (first | (simp [eval_tmp, put_at, h24, h3]; done) | (simp [eval_tmp, put_at, h24, h3]; omega))) (by kernel_rfl) ?_
    refine aw_seq ?_
    (refine aw_ops (by kernel_rfl) (fun K hK => ?_); simp (disch := first | omega | (simp only [List.length_set, List.length_append, List.length_cons, List.length_nil, iv_length, zl_length]; try omega; done)) [-getElem?_pos, -getElem?_neg, h0, hsz, hg1]; refine hK _ _ ?_; clear hK K)
    (refine aw_ret ?_; simp (disch := first | omega | (simp only [List.length_set, List.length_append, List.length_cons, List.length_nil, iv_length, zl_length]; try omega; done)) [-getElem?_pos, -getElem?_neg, thenQ_ret, scopeQ_ret, inBlockQ_ret, RQ, resL, resV, hR2])
  rw [if_neg h3] at hR2
  refine aw_f (by (first | (simp [eval_tmp, put_at, h24, h3]; done) | (simp [eval_tmp, put_at, h24, h3]; omega))) (by kernel_rfl) ?_
  refine aw_seq ?_
  (refine aw_ops (by kernel_rfl) (fun K hK => ?_); simp (disch := first | omega | (simp only [List.length_set, List.length_append, List.length_cons, List.length_nil, iv_length, zl_length]; try omega; done)) [-getElem?_pos, -getElem?_neg, h0, hsz, hg1]; refine hK _ _ ?_; clear hK K)
  by_cases h4 : d = 120
  · rw [if_pos h4] at hR2
    refine aw_t (by (first | (simp [eval_tmp, put_at, h4]; done) | (simp [eval_tmp, put_at, h4]; omega))) (by kernel_rfl) ?_
    have hx := hex_vc hb (by simpa using hl)
    rw [← hs, ← hR2] at hx
    refine aw_seq ?_
    refine aw_ops (by kernel_rfl) (fun K hK => ?_)
    simp (disch := first | omega | (simp only [List.length_set, List.length_append, List.length_cons, List.length_nil, iv_length, zl_length]; try omega; done)) [-getElem?_pos, -getElem?_neg, h0]
    refine ⟨by kernel_rfl, ac_of_vc (by simp [pv_iv, pv_int, pv_bool, pv_string, pv_tup2, pv_tup3, iv_plain, p2_int, p2_bool, p2_string]) hx ?_⟩
    try simp (disch := first | omega | (simp only [List.length_set, List.length_append, List.length_cons, List.length_nil, iv_length, zl_length]; try omega; done)) [-getElem?_pos, -getElem?_neg]
    refine hK _ _ ?_; clear hK K
    (refine aw_ret ?_; simp (disch := first | omega | (simp only [List.length_set, List.length_append, List.length_cons, List.length_nil, iv_length, zl_length]; try omega; done)) [-getElem?_pos, -getElem?_neg, thenQ_ret, scopeQ_ret, inBlockQ_ret, RQ, resL, resV])
  · rw [if_neg h4] at hR2
    refine aw_f (by (first | (simp [eval_tmp, put_at, h4]; done) | (simp [eval_tmp, put_at, h4]; omega))) (by kernel_rfl) ?_
    refine aw_skip ?_
    refine aw_seq ?_
    (refine aw_ops (by kernel_rfl) (fun K hK => ?_); simp (disch := first | omega | (simp only [List.length_set, List.length_append, List.length_cons, List.length_nil, iv_length, zl_length]; try omega; done)) [-getElem?_pos, -getElem?_neg]; refine hK _ _ ?_; clear hK K)
    (refine aw_ret ?_; simp (disch := first | omega | (simp only [List.length_set, List.length_append, List.length_cons, List.length_nil, iv_length, zl_length]; try omega; done)) [-getElem?_pos, -getElem?_neg, thenQ_ret, scopeQ_ret, inBlockQ_ret, RQ, resL, resV, hR2])
end
end Go.Proofs.Ytcdkpeepboofhaa
