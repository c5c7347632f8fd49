/-
  A reader's other calls: count, a text, a key, the end.
-/
import Derived.Test.YtpdijcaikjobiaaWk
import Derived.Test.YtpdijcaikjobiaaXpl
import Derived.Test.YtpdijcaikjobiaaXfp
namespace Go.Proofs.Ytpdijcaikjobiaa
open Go Go.RowKit
set_option linter.unusedVariables false
set_option linter.unusedSimpArgs false
set_option maxRecDepth 100000
set_option maxHeartbeats 4000000
theorem sn_nil0 : strOfNums [] = { data := #[] } := rfl
theorem sn_tl (l : List Int) : (strOfNums l).toList = l.map fun n => UInt8.ofNat n.toNat := by
  rw [ByteArray.toList_eq]; rfl
theorem sn_tnil (l : List Int) : ((strOfNums l).toList = []) = (l = []) := by
  rw [sn_tl]
  cases l <;> simp
theorem sn_eq {a b : List Int} (ha : By a) (hb : By b) : (strOfNums a).toList = (strOfNums b).toList ↔ a = b := by
  constructor
  · intro h
    rw [ByteArray.toList_eq, ByteArray.toList_eq] at h
    have h2 : strOfNums a = strOfNums b := ByteArray.ext (Array.toList_inj.1 h)
    rw [← nums_of a ha, h2, nums_of b hb]
  · rintro rfl; rfl
theorem rdN_by {g n : Nat} {l : List Int} (h : By l) : By (rdN g n l).2.1 ∧ (rdN g n l).2.1.length ≤ l.length := by
  induction g generalizing n l with
  | zero => exact ⟨h, Nat.le_refl _⟩
  | succ g ih =>
    cases l with
    | nil => exact ⟨h, Nat.le_refl _⟩
    | cons b l =>
      have hl : By l := fun x hx => h x (by simp [hx])
      unfold rdN
      split
      · exact ⟨hl, by simp⟩
      split
      · exact ⟨hl, by simp⟩
      · have := ih (n := n * 128 + b.toNat % 128) hl
        exact ⟨this.1, by simp; omega⟩
theorem rdN_val {g n : Nat} {l : List Int} : (rdN g n l).1 ≤ 4294967295 := by
  induction g generalizing n l with
  | zero => simp [rdN]
  | succ g ih =>
    cases l with
    | nil => simp [rdN]
    | cons b l =>
      unfold rdN
      split
      · simp
      split
      · simp; omega
      · exact ih
theorem rdN_err {g n : Nat} {l : List Int} : (rdN g n l).2.2 = 0 ∨ (rdN g n l).2.2 = 3 ∨ (rdN g n l).2.2 = 4 := by
  induction g generalizing n l with
  | zero => simp [rdN]
  | succ g ih =>
    cases l with
    | nil => simp [rdN]
    | cons b l =>
      unfold rdN
      split
      · simp
      split
      · simp
      · exact ih
theorem rdNum_by {l : List Int} (h : By l) : By (rdNum l).2.1 ∧ (rdNum l).2.1.length ≤ l.length := by
  unfold rdNum
  split
  · exact rdN_by h
  · exact ⟨h, Nat.le_refl _⟩
theorem rdNum_val {l : List Int} : (rdNum l).1 ≤ 4294967295 := by
  unfold rdNum
  split
  · exact rdN_val
  · simp
/-- A count read: it, what is left, the error. -/
def rdCount (most : Int) (l : List Int) : Nat × List Int × Int :=
  if (rdNum l).2.2 ≠ 0 then (0, l, (rdNum l).2.2) else if max most 0 < (rdNum l).1 then (0, l, 5) else rdNum l
def rdText (most : Int) (l : List Int) : List Int × List Int × Int :=
  if (rdCount most l).2.2 ≠ 0 then ([], l, (rdCount most l).2.2) else if (rdCount most l).2.1.length < (rdCount most l).1 then ([], l, 3)
  else ((rdCount most l).2.1.take (rdCount most l).1, (rdCount most l).2.1.drop (rdCount most l).1, 0)
theorem rdNum_bad {l : List Int} (h : (rdNum l).2.2 ≠ 0) : rdNum l = (0, l, (rdNum l).2.2) := by
  unfold rdNum at h ⊢
  split
  · rename_i e; rw [if_pos e, e] at h; exact absurd rfl h
  · rfl
theorem rdCount_by {most : Int} {l : List Int} (h : By l) : By (rdCount most l).2.1 ∧ (rdCount most l).2.1.length ≤ l.length := by
  unfold rdCount
  split
  · exact ⟨h, Nat.le_refl _⟩
  split
  · exact ⟨h, Nat.le_refl _⟩
  · exact rdNum_by h
theorem rdCount_val {most : Int} {l : List Int} : (rdCount most l).1 ≤ 4294967295 := by
  unfold rdCount
  split
  · simp
  split
  · simp
  · exact rdNum_val
theorem rdCount_bad {most : Int} {l : List Int} (h : (rdCount most l).2.2 ≠ 0) : rdCount most l = (0, l, (rdCount most l).2.2) := by
  unfold rdCount at h ⊢
  split
  · rfl
  split
  · rfl
  · rename_i e1 e2
    rw [if_neg e1, if_neg e2] at h
    exact absurd h e1
attribute [local simp] wb_bool wb_undef XL_nil XL_cons XLc_val XLc_call step1_eq stepW_t stepW_f stepC_n stepC_s stepX_s stepX_n stepN_s calleeX oneV xop_eq xopR_s xopR_n wantedA_eq wantedG_n wantedG_s plain1_int plain1_bool plain1_string bits_i64 bits_u64 bits_u32 bits_u16 bits_u8 xeqA xarr allK_iv num_iv calleeOf xread xeff xbin xint xnil xun xstr xload xconv xpart xfield xfieldAddr xindexAddr xindex bnd asInt? xslice xlen xmin xmax xbuild xfill xappend xapp2 xappstr xappmk xcap xcopy xcells eval_tmp eval_const put_at put_none fr0_at cells_agg cells_int cells_bool cells_string cells_ptr cells_slice notTuple tab iv_all hget_app hget_app0 hget_cons0 hget_cons set_app set_app0 setR setR_one QL_nil QL_cons QLc_val stepQ_t stepQ_f stepQC_n stepQC_s stepQX_s SL_nil SL_cons SLc_val stepS_t stepS_f ltT ltF leT leF eqT eqF ltTn ltFn leTn leFn eqTn eqFn beqT beqF bneT bneF wi64 wu64 wu32 wu16 wu8 tmodP tdivP hgetL hgetNe hgetEq setL nums_def nums_len Nat.succ_le_of_lt List.getElem?_cons_zero List.getElem?_cons_succ Option.getD_some Int.toNat_add Int.toNat_mul agB agI agS agP agL agA okB okI okS okP okSl okA
theorem end_ac {H : AH} {γ : Nat → Option Nat} {nro p : Nat} {l : List Int} {e : Int} (h : hget H p = some (rdC l e)) :
    AC Try.prog nro γ 19 #[.pointer (some ⟨p, 0, none⟩)] H (fun v' H' => v' = .int .i64 (if e = 0 ∧ l ≠ [] then 6 else e) ∧ H' = H) := by
  unfold rdC at h
  have hse := sn_tnil l
  refine ac_of_aw Try.func19 rfl Try.ntmps19 Try.results19 (by simp) ?_
  refine aw_seq ?_
  (refine aw_ops (by kernel_rfl) (fun K hK => ?_); simp (disch := first | omega | (simp only [List.length_set, List.length_append, List.length_cons, List.length_nil, iv_length, zl_length]; try omega; done)) [-getElem?_pos, -getElem?_neg]; refine hK _ _ ?_; clear hK K)
  refine aw_seq ?_
  refine aw_seq ?_
  by_cases he : e = 0
  · subst he
    (refine aw_ops (by kernel_rfl) (fun K hK => ?_); simp (disch := first | omega | (simp only [List.length_set, List.length_append, List.length_cons, List.length_nil, iv_length, zl_length]; try omega; done)) [-getElem?_pos, -getElem?_neg, h, hse]; refine hK _ _ ?_; clear hK K)
    by_cases hl : l = []
    · subst hl
      refine aw_f (by (first | (simp [eval_tmp, put_at, hse]; done) | (simp [eval_tmp, put_at, hse]; omega))) (by kernel_rfl) ?_
      refine aw_skip ?_
      refine aw_seq ?_
      (refine aw_ops (by kernel_rfl) (fun K hK => ?_); simp (disch := first | omega | (simp only [List.length_set, List.length_append, List.length_cons, List.length_nil, iv_length, zl_length]; try omega; done)) [-getElem?_pos, -getElem?_neg, h]; refine hK _ _ ?_; clear hK K)
      (refine aw_ret ?_; simp (disch := first | omega | (simp only [List.length_set, List.length_append, List.length_cons, List.length_nil, iv_length, zl_length]; try omega; done)) [-getElem?_pos, -getElem?_neg, thenQ_ret, scopeQ_ret, inBlockQ_ret, RQ, resL, resV])
    · refine aw_t (by (first | (simp [eval_tmp, put_at, hse, hl]; done) | (simp [eval_tmp, put_at, hse, hl]; omega))) (by kernel_rfl) ?_
      refine aw_seq ?_
      (refine aw_ops (by kernel_rfl) (fun K hK => ?_); simp (disch := first | omega | (simp only [List.length_set, List.length_append, List.length_cons, List.length_nil, iv_length, zl_length]; try omega; done)) [-getElem?_pos, -getElem?_neg]; refine hK _ _ ?_; clear hK K)
      (refine aw_ret ?_; simp (disch := first | omega | (simp only [List.length_set, List.length_append, List.length_cons, List.length_nil, iv_length, zl_length]; try omega; done)) [-getElem?_pos, -getElem?_neg, thenQ_ret, scopeQ_ret, inBlockQ_ret, RQ, resL, resV, hl])
  · (refine aw_ops (by kernel_rfl) (fun K hK => ?_); simp (disch := first | omega | (simp only [List.length_set, List.length_append, List.length_cons, List.length_nil, iv_length, zl_length]; try omega; done)) [-getElem?_pos, -getElem?_neg, h, he]; refine hK _ _ ?_; clear hK K)
    refine aw_f (by (first | (simp [eval_tmp, put_at]; done) | (simp [eval_tmp, put_at]; omega))) (by kernel_rfl) ?_
    refine aw_skip ?_
    refine aw_seq ?_
    (refine aw_ops (by kernel_rfl) (fun K hK => ?_); simp (disch := first | omega | (simp only [List.length_set, List.length_append, List.length_cons, List.length_nil, iv_length, zl_length]; try omega; done)) [-getElem?_pos, -getElem?_neg, h]; refine hK _ _ ?_; clear hK K)
    (refine aw_ret ?_; simp (disch := first | omega | (simp only [List.length_set, List.length_append, List.length_cons, List.length_nil, iv_length, zl_length]; try omega; done)) [-getElem?_pos, -getElem?_neg, thenQ_ret, scopeQ_ret, inBlockQ_ret, RQ, resL, resV, he])
theorem left_ac {H : AH} {γ : Nat → Option Nat} {nro p : Nat} {l : List Int} {e : Int} (h : hget H p = some (rdC l e)) (hl : l.length ≤ 1000000) :
    AC Try.prog nro γ 20 #[.pointer (some ⟨p, 0, none⟩)] H (fun v' H' => v' = .int .i64 (l.length : Nat) ∧ H' = H) := by
  unfold rdC at h
  have hsz := sn_size l
  refine ac_of_aw Try.func20 rfl Try.ntmps20 Try.results20 (by simp) ?_
  refine aw_seq ?_
  (refine aw_ops (by kernel_rfl) (fun K hK => ?_); simp (disch := first | omega | (simp only [List.length_set, List.length_append, List.length_cons, List.length_nil, iv_length, zl_length]; try omega; done)) [-getElem?_pos, -getElem?_neg]; refine hK _ _ ?_; clear hK K)
  refine aw_seq ?_
  (refine aw_ops (by kernel_rfl) (fun K hK => ?_); simp (disch := first | omega | (simp only [List.length_set, List.length_append, List.length_cons, List.length_nil, iv_length, zl_length]; try omega; done)) [-getElem?_pos, -getElem?_neg, h, hsz]; refine hK _ _ ?_; clear hK K)
  (refine aw_ret ?_; simp (disch := first | omega | (simp only [List.length_set, List.length_append, List.length_cons, List.length_nil, iv_length, zl_length]; try omega; done)) [-getElem?_pos, -getElem?_neg, thenQ_ret, scopeQ_ret, inBlockQ_ret, RQ, resL, resV])
theorem newreader_ac {H : AH} {γ : Nat → Option Nat} {nro : Nat} {l : List Int} :
    AC Try.prog nro γ 11 #[.string (strOfNums l)] H (fun v' H' => v' = .pointer (some ⟨H.length, 0, none⟩) ∧ H' = H ++ [some (rdC l 0)]) := by
  unfold rdC
  refine ac_of_aw Try.func11 rfl Try.ntmps11 Try.results11 (by simp) ?_
  refine aw_seq ?_
  (refine aw_ops (by kernel_rfl) (fun K hK => ?_); simp (disch := first | omega | (simp only [List.length_set, List.length_append, List.length_cons, List.length_nil, iv_length, zl_length]; try omega; done)) [-getElem?_pos, -getElem?_neg]; refine hK _ _ ?_; clear hK K)
  refine aw_seq ?_
  (refine aw_ops (by kernel_rfl) (fun K hK => ?_); simp (disch := first | omega | (simp only [List.length_set, List.length_append, List.length_cons, List.length_nil, iv_length, zl_length]; try omega; done)) [-getElem?_pos, -getElem?_neg]; refine hK _ _ ?_; clear hK K)
  (refine aw_ret ?_; simp (disch := first | omega | (simp only [List.length_set, List.length_append, List.length_cons, List.length_nil, iv_length, zl_length]; try omega; done)) [-getElem?_pos, -getElem?_neg, thenQ_ret, scopeQ_ret, inBlockQ_ret, RQ, resL, resV])
theorem giveup_ac {H : AH} {γ : Nat → Option Nat} {nro p : Nat} {l l2 : List Int} {e e2 : Int} (hp : nro ≤ p) (h : hget H p = some (rdC l e)) :
    AC Try.prog nro γ 31 #[.pointer (some ⟨p, 0, none⟩), .string (strOfNums l2), .int .i64 e2] H (fun v' H' => H' = H.set p (some (rdC l2 e2))) := by
  have hpl := hget_lt h
  unfold rdC at h ⊢
  refine ac_of_aw Try.func31 rfl Try.ntmps31 Try.results31 (by simp) ?_
  (refine aw_ops (by kernel_rfl) (fun K hK => ?_); simp (disch := first | omega | (simp only [List.length_set, List.length_append, List.length_cons, List.length_nil, iv_length, zl_length]; try omega; done)) [-getElem?_pos, -getElem?_neg, h]; refine hK _ _ ?_; clear hK K)
  exact ⟨_, _, rfl, rfl, rfl⟩
theorem count_ac {H : AH} {γ : Nat → Option Nat} {nro p : Nat} {l : List Int} {most : Int} (hp : nro ≤ p) (h : hget H p = some (rdC l 0)) (hb : By l) (hl : l.length ≤ 1000000) (hm : most ≤ 9223372036854775807) :
    AC Try.prog nro γ 30 #[.pointer (some ⟨p, 0, none⟩), .int .i64 most] H (fun v' H' => v' = .int .u64 ((rdCount most l).1 : Nat) ∧ H' = H.set p (some (rdC (rdCount most l).2.1 (rdCount most l).2.2))) := by
  have hnum := number_ac (γ := γ) hp h hb hl
  have hpl := hget_lt h
  obtain ⟨n, l2, e, hr⟩ : ∃ n l2 e, rdNum l = (n, l2, e) := ⟨_, _, _, rfl⟩
  have hv := rdNum_val (l := l)
  have hbad := rdNum_bad (l := l)
  have hc : rdCount most l = if e ≠ 0 then (0, l, e) else if max most 0 < n then (0, l, 5) else (n, l2, e) := by unfold rdCount; rw [hr]
  rw [hr] at hnum hv hbad
  simp only at hnum hv hbad
  obtain ⟨mx, hmx⟩ : ∃ mx, mx = max most 0 := ⟨_, rfl⟩
  have hmx0 : 0 ≤ mx ∧ mx ≤ 9223372036854775807 := by omega
  rw [← hmx] at hc
  unfold rdC at h hnum ⊢
  have hh := hgetEq (x := some ⟨[.string (strOfNums l2), .int .i64 e], 63, none⟩) hpl
  have hsl : p < (H.set p (some ⟨[.string (strOfNums l2), .int .i64 e], 63, none⟩)).length := by simpa using hpl
  refine ac_of_aw Try.func30 rfl Try.ntmps30 Try.results30 (by simp) ?_
  refine aw_seq ?_
  (refine aw_ops (by kernel_rfl) (fun K hK => ?_); simp (disch := first | omega | (simp only [List.length_set, List.length_append, List.length_cons, List.length_nil, iv_length, zl_length]; try omega; done)) [-getElem?_pos, -getElem?_neg]; refine hK _ _ ?_; clear hK K)
  refine aw_seq ?_
  (refine aw_ops (by kernel_rfl) (fun K hK => ?_); simp (disch := first | omega | (simp only [List.length_set, List.length_append, List.length_cons, List.length_nil, iv_length, zl_length]; try omega; done)) [-getElem?_pos, -getElem?_neg, h]; refine hK _ _ ?_; clear hK K)
  refine aw_seq ?_
  refine aw_ops (by kernel_rfl) (fun K hK => ?_)
  simp (disch := first | omega | (simp only [List.length_set, List.length_append, List.length_cons, List.length_nil, iv_length, zl_length]; try omega; done)) [-getElem?_pos, -getElem?_neg]
  refine ⟨by kernel_rfl, hnum.mono ?_⟩
  rintro v1 H1 ⟨rfl, rfl⟩
  try simp (disch := first | omega | (simp only [List.length_set, List.length_append, List.length_cons, List.length_nil, iv_length, zl_length]; try omega; done)) [-getElem?_pos, -getElem?_neg]
  refine hK _ _ ?_; clear hK K
  refine aw_seq ?_
  refine aw_seq ?_
  obtain ⟨H2, hH2⟩ : ∃ H2, H2 = H.set p (some ⟨[.string (strOfNums l2), .int .i64 e], 63, none⟩) := ⟨_, rfl⟩
  rw [← hH2] at hh hsl ⊢
  by_cases he : e = 0
  · subst he
    rw [if_neg (by simp)] at hc
    (refine aw_ops (by kernel_rfl) (fun K hK => ?_); simp (disch := first | omega | (simp only [List.length_set, List.length_append, List.length_cons, List.length_nil, iv_length, zl_length]; try omega; done)) [-getElem?_pos, -getElem?_neg, hh, ← hmx]; refine hK _ _ ?_; clear hK K)
    by_cases hq : mx < n
    · rw [if_pos hq] at hc
      refine aw_t (by (first | (simp [eval_tmp, put_at, hq]; done) | (simp [eval_tmp, put_at, hq]; omega))) (by kernel_rfl) ?_
      refine aw_seq ?_
      refine aw_ops (by kernel_rfl) (fun K hK => ?_)
      simp (disch := first | omega | (simp only [List.length_set, List.length_append, List.length_cons, List.length_nil, iv_length, zl_length]; try omega; done)) [-getElem?_pos, -getElem?_neg]
      refine ⟨by kernel_rfl, (giveup_ac (l := l2) (l2 := l) hp hh).mono ?_⟩
      rintro v1 H1 rfl
      try simp (disch := first | omega | (simp only [List.length_set, List.length_append, List.length_cons, List.length_nil, iv_length, zl_length]; try omega; done)) [-getElem?_pos, -getElem?_neg]
      refine hK _ _ ?_; clear hK K
      refine aw_seq ?_
      (refine aw_ops (by kernel_rfl) (fun K hK => ?_); simp (disch := first | omega | (simp only [List.length_set, List.length_append, List.length_cons, List.length_nil, iv_length, zl_length]; try omega; done)) [-getElem?_pos, -getElem?_neg]; refine hK _ _ ?_; clear hK K)
      (refine aw_ret ?_; simp (disch := first | omega | (simp only [List.length_set, List.length_append, List.length_cons, List.length_nil, iv_length, zl_length]; try omega; done)) [-getElem?_pos, -getElem?_neg, thenQ_ret, scopeQ_ret, inBlockQ_ret, RQ, resL, resV, hc, hH2, rdC])
    · rw [if_neg hq] at hc
      refine aw_f (by (first | (simp [eval_tmp, put_at, hq]; done) | (simp [eval_tmp, put_at, hq]; omega))) (by kernel_rfl) ?_
      refine aw_skip ?_
      refine aw_seq ?_
      (refine aw_ops (by kernel_rfl) (fun K hK => ?_); simp (disch := first | omega | (simp only [List.length_set, List.length_append, List.length_cons, List.length_nil, iv_length, zl_length]; try omega; done)) [-getElem?_pos, -getElem?_neg]; refine hK _ _ ?_; clear hK K)
      (refine aw_ret ?_; simp (disch := first | omega | (simp only [List.length_set, List.length_append, List.length_cons, List.length_nil, iv_length, zl_length]; try omega; done)) [-getElem?_pos, -getElem?_neg, thenQ_ret, scopeQ_ret, inBlockQ_ret, RQ, resL, resV, hc, hH2])
  · rw [if_pos he] at hc
    have hb2 := hbad he
    simp only [Prod.mk.injEq] at hb2
    obtain ⟨rfl, rfl, _⟩ := hb2
    (refine aw_ops (by kernel_rfl) (fun K hK => ?_); simp (disch := first | omega | (simp only [List.length_set, List.length_append, List.length_cons, List.length_nil, iv_length, zl_length]; try omega; done)) [-getElem?_pos, -getElem?_neg, hh, he]; refine hK _ _ ?_; clear hK K)
    refine aw_f (by (first | (simp [eval_tmp, put_at]; done) | (simp [eval_tmp, put_at]; omega))) (by kernel_rfl) ?_
    refine aw_skip ?_
    refine aw_seq ?_
    (refine aw_ops (by kernel_rfl) (fun K hK => ?_); simp (disch := first | omega | (simp only [List.length_set, List.length_append, List.length_cons, List.length_nil, iv_length, zl_length]; try omega; done)) [-getElem?_pos, -getElem?_neg]; refine hK _ _ ?_; clear hK K)
    (refine aw_ret ?_; simp (disch := first | omega | (simp only [List.length_set, List.length_append, List.length_cons, List.length_nil, iv_length, zl_length]; try omega; done)) [-getElem?_pos, -getElem?_neg, thenQ_ret, scopeQ_ret, inBlockQ_ret, RQ, resL, resV, hc, hH2])
theorem text_ac {H : AH} {γ : Nat → Option Nat} {nro p : Nat} {l : List Int} {most : Int} (hp : nro ≤ p) (h : hget H p = some (rdC l 0)) (hb : By l) (hl : l.length ≤ 1000000) (hm : most ≤ 9223372036854775807) :
    AC Try.prog nro γ 13 #[.pointer (some ⟨p, 0, none⟩), .int .i64 most] H (fun v' H' => v' = .string (strOfNums (rdText most l).1) ∧ H' = H.set p (some (rdC (rdText most l).2.1 (rdText most l).2.2))) := by
  have hnum := count_ac (γ := γ) hp h hb hl hm
  have hpl := hget_lt h
  obtain ⟨n, l2, e, hr⟩ : ∃ n l2 e, rdCount most l = (n, l2, e) := ⟨_, _, _, rfl⟩
  have hv := rdCount_val (l := l) (most := most)
  have hbad := rdCount_bad (l := l) (most := most)
  have hby := rdCount_by (l := l) (most := most) hb
  have hc : rdText most l = if e ≠ 0 then ([], l, e) else if l2.length < n then ([], l, 3) else (l2.take n, l2.drop n, 0) := by unfold rdText; rw [hr]
  rw [hr] at hnum hv hbad hby
  simp only at hnum hv hbad hby
  have hsz := sn_size l2
  have hex1 := ex_drop l2 n
  have hex2 := ex_take l2 n
  unfold rdC at h hnum ⊢
  have hh := hgetEq (x := some ⟨[.string (strOfNums l2), .int .i64 e], 63, none⟩) hpl
  have hsl : p < (H.set p (some ⟨[.string (strOfNums l2), .int .i64 e], 63, none⟩)).length := by simpa using hpl
  refine ac_of_aw Try.func13 rfl Try.ntmps13 Try.results13 (by simp) ?_
  refine aw_seq ?_
  (refine aw_ops (by kernel_rfl) (fun K hK => ?_); simp (disch := first | omega | (simp only [List.length_set, List.length_append, List.length_cons, List.length_nil, iv_length, zl_length]; try omega; done)) [-getElem?_pos, -getElem?_neg]; refine hK _ _ ?_; clear hK K)
  refine aw_seq ?_
  (refine aw_ops (by kernel_rfl) (fun K hK => ?_); simp (disch := first | omega | (simp only [List.length_set, List.length_append, List.length_cons, List.length_nil, iv_length, zl_length]; try omega; done)) [-getElem?_pos, -getElem?_neg, h]; refine hK _ _ ?_; clear hK K)
  refine aw_seq ?_
  refine aw_ops (by kernel_rfl) (fun K hK => ?_)
  simp (disch := first | omega | (simp only [List.length_set, List.length_append, List.length_cons, List.length_nil, iv_length, zl_length]; try omega; done)) [-getElem?_pos, -getElem?_neg]
  refine ⟨by kernel_rfl, hnum.mono ?_⟩
  rintro v1 H1 ⟨rfl, rfl⟩
  try simp (disch := first | omega | (simp only [List.length_set, List.length_append, List.length_cons, List.length_nil, iv_length, zl_length]; try omega; done)) [-getElem?_pos, -getElem?_neg]
  refine hK _ _ ?_; clear hK K
  refine aw_seq ?_
  obtain ⟨H2, hH2⟩ : ∃ H2, H2 = H.set p (some ⟨[.string (strOfNums l2), .int .i64 e], 63, none⟩) := ⟨_, rfl⟩
  rw [← hH2] at hh hsl ⊢
  by_cases he : e = 0
  · subst he
    rw [if_neg (by simp)] at hc
    refine aw_seq ?_
    (refine aw_ops (by kernel_rfl) (fun K hK => ?_); simp (disch := first | omega | (simp only [List.length_set, List.length_append, List.length_cons, List.length_nil, iv_length, zl_length]; try omega; done)) [-getElem?_pos, -getElem?_neg, hh, hsz]; refine hK _ _ ?_; clear hK K)
    by_cases hq : l2.length < n
    · rw [if_pos hq] at hc
      refine aw_t (by (first | (simp [eval_tmp, put_at, hq]; done) | (simp [eval_tmp, put_at, hq]; omega))) (by kernel_rfl) ?_
      refine aw_ops (by kernel_rfl) (fun K hK => ?_)
      simp (disch := first | omega | (simp only [List.length_set, List.length_append, List.length_cons, List.length_nil, iv_length, zl_length]; try omega; done)) [-getElem?_pos, -getElem?_neg]
      refine ⟨by kernel_rfl, (giveup_ac (l := l2) (l2 := l) hp hh).mono ?_⟩
      rintro v1 H1 rfl
      try simp (disch := first | omega | (simp only [List.length_set, List.length_append, List.length_cons, List.length_nil, iv_length, zl_length]; try omega; done)) [-getElem?_pos, -getElem?_neg]
      refine hK _ _ ?_; clear hK K
      have hh3 := hgetEq (x := some (rdC l 3)) hsl
      unfold rdC at hh3
      refine aw_seq ?_
      refine aw_seq ?_
      (refine aw_ops (by kernel_rfl) (fun K hK => ?_); simp (disch := first | omega | (simp only [List.length_set, List.length_append, List.length_cons, List.length_nil, iv_length, zl_length]; try omega; done)) [-getElem?_pos, -getElem?_neg, rdC, hh3]; refine hK _ _ ?_; clear hK K)
      refine aw_t (by (first | (simp [eval_tmp, put_at]; done) | (simp [eval_tmp, put_at]; omega))) (by kernel_rfl) ?_
      refine aw_seq ?_
      (refine aw_ops (by kernel_rfl) (fun K hK => ?_); simp (disch := first | omega | (simp only [List.length_set, List.length_append, List.length_cons, List.length_nil, iv_length, zl_length]; try omega; done)) [-getElem?_pos, -getElem?_neg]; refine hK _ _ ?_; clear hK K)
      (refine aw_ret ?_; simp (disch := first | omega | (simp only [List.length_set, List.length_append, List.length_cons, List.length_nil, iv_length, zl_length]; try omega; done)) [-getElem?_pos, -getElem?_neg, thenQ_ret, scopeQ_ret, inBlockQ_ret, RQ, resL, resV, hc, hH2, rdC, sn_nil0])
    · rw [if_neg hq] at hc
      refine aw_f (by (first | (simp [eval_tmp, put_at, hq]; done) | (simp [eval_tmp, put_at, hq]; omega))) (by kernel_rfl) ?_
      refine aw_skip ?_
      refine aw_seq ?_
      refine aw_seq ?_
      (refine aw_ops (by kernel_rfl) (fun K hK => ?_); simp (disch := first | omega | (simp only [List.length_set, List.length_append, List.length_cons, List.length_nil, iv_length, zl_length]; try omega; done)) [-getElem?_pos, -getElem?_neg, hh]; refine hK _ _ ?_; clear hK K)
      refine aw_f (by (first | (simp [eval_tmp, put_at]; done) | (simp [eval_tmp, put_at]; omega))) (by kernel_rfl) ?_
      refine aw_skip ?_
      refine aw_seq ?_
      (refine aw_ops (by kernel_rfl) (fun K hK => ?_); simp (disch := first | omega | (simp only [List.length_set, List.length_append, List.length_cons, List.length_nil, iv_length, zl_length]; try omega; done)) [-getElem?_pos, -getElem?_neg, hh, hsz, hex2]; refine hK _ _ ?_; clear hK K)
      refine aw_seq ?_
      (refine aw_ops (by kernel_rfl) (fun K hK => ?_); simp (disch := first | omega | (simp only [List.length_set, List.length_append, List.length_cons, List.length_nil, iv_length, zl_length]; try omega; done)) [-getElem?_pos, -getElem?_neg, hh, hsz, hex1]; refine hK _ _ ?_; clear hK K)
      refine aw_seq ?_
      (refine aw_ops (by kernel_rfl) (fun K hK => ?_); simp (disch := first | omega | (simp only [List.length_set, List.length_append, List.length_cons, List.length_nil, iv_length, zl_length]; try omega; done)) [-getElem?_pos, -getElem?_neg]; refine hK _ _ ?_; clear hK K)
      (refine aw_ret ?_; simp (disch := first | omega | (simp only [List.length_set, List.length_append, List.length_cons, List.length_nil, iv_length, zl_length]; try omega; done)) [-getElem?_pos, -getElem?_neg, thenQ_ret, scopeQ_ret, inBlockQ_ret, RQ, resL, resV, hc, hH2])
  · rw [if_pos he] at hc
    have hb2 := hbad he
    simp only [Prod.mk.injEq] at hb2
    obtain ⟨rfl, rfl, _⟩ := hb2
    refine aw_seq ?_
    (refine aw_ops (by kernel_rfl) (fun K hK => ?_); simp (disch := first | omega | (simp only [List.length_set, List.length_append, List.length_cons, List.length_nil, iv_length, zl_length]; try omega; done)) [-getElem?_pos, -getElem?_neg, hh, he]; refine hK _ _ ?_; clear hK K)
    refine aw_f (by (first | (simp [eval_tmp, put_at]; done) | (simp [eval_tmp, put_at]; omega))) (by kernel_rfl) ?_
    refine aw_skip ?_
    refine aw_seq ?_
    refine aw_seq ?_
    (refine aw_ops (by kernel_rfl) (fun K hK => ?_); simp (disch := first | omega | (simp only [List.length_set, List.length_append, List.length_cons, List.length_nil, iv_length, zl_length]; try omega; done)) [-getElem?_pos, -getElem?_neg, hh, he]; refine hK _ _ ?_; clear hK K)
    refine aw_t (by (first | (simp [eval_tmp, put_at, he]; done) | (simp [eval_tmp, put_at, he]; omega))) (by kernel_rfl) ?_
    refine aw_seq ?_
    (refine aw_ops (by kernel_rfl) (fun K hK => ?_); simp (disch := first | omega | (simp only [List.length_set, List.length_append, List.length_cons, List.length_nil, iv_length, zl_length]; try omega; done)) [-getElem?_pos, -getElem?_neg]; refine hK _ _ ?_; clear hK K)
    (refine aw_ret ?_; simp (disch := first | omega | (simp only [List.length_set, List.length_append, List.length_cons, List.length_nil, iv_length, zl_length]; try omega; done)) [-getElem?_pos, -getElem?_neg, thenQ_ret, scopeQ_ret, inBlockQ_ret, RQ, resL, resV, hc, hH2, sn_nil0])
end Go.Proofs.Ytpdijcaikjobiaa
