/-
  A reader's other calls: count, a text, a key, the end.
  A disk, as lists of texts: what is settled, what is unsynced, a fuse, whether it is dead; and where it lies.
  The disk's small functions, walked.
  A disk's fuse, and writing, walked.
  A new disk; the bytes that a law writes.
  A disk's sync and crash, walked.
  Records as bytes; too long ones.
  Records read of bytes.
  A journal in memory; half, areaSize, start, Room, bytes.
  The journal's bytes, as they are on the disk.
  A disk's journal, opened.
  The blocks that have some bytes of an area.
  Numbers as bytes and back: by numbers alone.
  Texts and lists as bytes and back: by numbers alone.
  What was written is read: records, the mark.
  slices.Concat, slices.Clone, at slices of texts.
  The same records; too many or too long ones.
-/
import Derived.Test.YtgamobjfeaeddaaGreatDoorMpD
import Derived.Test.YtgamobjfeaeddaaGreatDoorMpC
import Derived.Test.YtgamobjfeaeddaaGreatDoorMpB
import Derived.Test.YtgamobjfeaeddaaGreatDoorTabm
namespace Go.Proofs.YtgamobjfeaeddaaGreatDoor
open Go Go.RowKit
set_option linter.unusedSimpArgs false
set_option linter.unusedVariables false
set_option maxRecDepth 100000
set_option maxHeartbeats 4000000
section
theorem rdN_by {g n : Nat} {l : List Int} (h : By l) : By (rdN g n l).2.1 ∧ (rdN g n l).2.1.length ≤ l.length := by
  induction g generalizing n l with
  | zero => exact ⟨h, Nat.le_refl _⟩
  | succ g ih =>
    cases l with
    | nil => exact ⟨h, Nat.le_refl _⟩
    | cons b l =>
      have hl : By l := fun x hx => h x (by simp [hx])
      unfold rdN
      split
      · exact ⟨hl, by simp⟩
      split
      · exact ⟨hl, by simp⟩
      · have := ih (n := n * 128 + b.toNat % 128) hl
        exact ⟨this.1, by simp; omega⟩
theorem rdN_val {g n : Nat} {l : List Int} : (rdN g n l).1 ≤ 4294967295 := by
  induction g generalizing n l with
  | zero => simp [rdN]
  | succ g ih =>
    cases l with
    | nil => simp [rdN]
    | cons b l =>
      unfold rdN
      split
      · simp
      split
      · simp; omega
      · exact ih
theorem rdNum_by {l : List Int} (h : By l) : By (rdNum l).2.1 ∧ (rdNum l).2.1.length ≤ l.length := by
  unfold rdNum
  split
  · exact rdN_by h
  · exact ⟨h, Nat.le_refl _⟩
theorem rdNum_val {l : List Int} : (rdNum l).1 ≤ 4294967295 := by
  unfold rdNum
  split
  · exact rdN_val
  · simp
/-- A count read: it, what is left, the error. -/
def rdCount (most : Int) (l : List Int) : Nat × List Int × Int :=
  if (rdNum l).2.2 ≠ 0 then (0, l, (rdNum l).2.2) else if max most 0 < (rdNum l).1 then (0, l, 5) else rdNum l
def rdText (most : Int) (l : List Int) : List Int × List Int × Int :=
  if (rdCount most l).2.2 ≠ 0 then ([], l, (rdCount most l).2.2) else if (rdCount most l).2.1.length < (rdCount most l).1 then ([], l, 3)
  else ((rdCount most l).2.1.take (rdCount most l).1, (rdCount most l).2.1.drop (rdCount most l).1, 0)
theorem rdNum_bad {l : List Int} (h : (rdNum l).2.2 ≠ 0) : rdNum l = (0, l, (rdNum l).2.2) := by
  unfold rdNum at h ⊢
  split
  · rename_i e; rw [if_pos e, e] at h; exact absurd rfl h
  · rfl
theorem rdCount_by {most : Int} {l : List Int} (h : By l) : By (rdCount most l).2.1 ∧ (rdCount most l).2.1.length ≤ l.length := by
  unfold rdCount
  split
  · exact ⟨h, Nat.le_refl _⟩
  split
  · exact ⟨h, Nat.le_refl _⟩
  · exact rdNum_by h
theorem rdCount_val {most : Int} {l : List Int} : (rdCount most l).1 ≤ 4294967295 := by
  unfold rdCount
  split
  · simp
  split
  · simp
  · exact rdNum_val
theorem rdCount_bad {most : Int} {l : List Int} (h : (rdCount most l).2.2 ≠ 0) : rdCount most l = (0, l, (rdCount most l).2.2) := by
  unfold rdCount at h ⊢
  split
  · rfl
  split
  · rfl
  · rename_i e1 e2
    rw [if_neg e1, if_neg e2] at h
    exact absurd h e1
attribute [local simp] wb_bool wb_undef XL_nil XL_cons XLc_val XLc_call step1_eq stepW_t stepW_f stepC_n stepC_s stepX_s stepX_n stepN_s calleeX oneV xop_eq xopR_s xopR_n wantedA_eq wantedG_n wantedG_s plain1_int plain1_bool plain1_string bits_i64 bits_u64 bits_u32 bits_u16 bits_u8 xeqA xagg xcmp xarr allK_iv num_iv calleeOf xread xeff xbin xint xnil xun xstr xload xconv xpart xfield xfieldAddr xindexAddr xindex bnd asInt? xslice xlen xmin xmax xbuild xfill xappend xapp2 xappstr xappmk xcap xcopy xcells eval_tmp eval_const put_at put_none fr0_at cells_agg cells_int cells_bool cells_string cells_ptr cells_slice notTuple tab iv_all hget_app hget_app0 hget_cons0 hget_cons set_app set_app0 setR setR_one QL_nil QL_cons QLc_val stepQ_t stepQ_f stepQC_n stepQC_s stepQX_s SL_nil SL_cons SLc_val stepS_t stepS_f ltT ltF leT leF eqT eqF ltTn ltFn leTn leFn eqTn eqFn beqT beqF bneT bneF wi64 wu64 wu32 wu16 wu8 tmodP tdivP hgetL hgetNe hgetEq setL nums_def nums_len Nat.succ_le_of_lt List.getElem?_cons_zero List.getElem?_cons_succ Option.getD_some Int.toNat_add Int.toNat_mul agB agI agS agP agL agA okB okI okS okP okSl okA
theorem left_ac {H : AH} {γ : Nat → Option Nat} {nro p : Nat} {l : List Int} {e : Int} (h : hget H p = some (rdC l e)) (hl : l.length ≤ 1000000) :
    AC Tryz.prog nro γ 52 #[.pointer (some ⟨p, 0, none⟩)] H (fun v' H' => v' = .int .i64 (l.length : Nat) ∧ H' = H) := by
  unfold rdC at h
  have hsz := sn_size l
  refine ac_of_aw Tryz.func52 rfl Tryz.ntmps52 Tryz.results52 (by simp) ?_
  refine aw_seq ?_
  (refine aw_ops (by kernel_rfl) (fun K hK => ?_); simp (disch := first | omega | (simp only [lnS]; try omega; done)) [-getElem?_pos, -getElem?_neg]; refine hK _ _ ?_; clear hK K)
  refine aw_seq ?_
  (refine aw_ops (by kernel_rfl) (fun K hK => ?_); simp (disch := first | omega | (simp only [lnS]; try omega; done)) [-getElem?_pos, -getElem?_neg, h, hsz]; refine hK _ _ ?_; clear hK K)
  (refine aw_ret ?_; simp (disch := first | omega | (simp only [lnS]; try omega; done)) [-getElem?_pos, -getElem?_neg, thenQ_ret, scopeQ_ret, inBlockQ_ret, RQ, resL, resV])
theorem newreader_ac {H : AH} {γ : Nat → Option Nat} {nro : Nat} {l : List Int} :
    AC Tryz.prog nro γ 51 #[.string (strOfNums l)] H (fun v' H' => v' = .pointer (some ⟨H.length, 0, none⟩) ∧ H' = H ++ [some (rdC l 0)]) := by
  unfold rdC
  refine ac_of_aw Tryz.func51 rfl Tryz.ntmps51 Tryz.results51 (by simp) ?_
  refine aw_seq ?_
  (refine aw_ops (by kernel_rfl) (fun K hK => ?_); simp (disch := first | omega | (simp only [lnS]; try omega; done)) [-getElem?_pos, -getElem?_neg]; refine hK _ _ ?_; clear hK K)
  refine aw_seq ?_
  (refine aw_ops (by kernel_rfl) (fun K hK => ?_); simp (disch := first | omega | (simp only [lnS]; try omega; done)) [-getElem?_pos, -getElem?_neg]; refine hK _ _ ?_; clear hK K)
  (refine aw_ret ?_; simp (disch := first | omega | (simp only [lnS]; try omega; done)) [-getElem?_pos, -getElem?_neg, thenQ_ret, scopeQ_ret, inBlockQ_ret, RQ, resL, resV])
theorem giveup_ac {H : AH} {γ : Nat → Option Nat} {nro p : Nat} {l l2 : List Int} {e e2 : Int} (hp : nro ≤ p) (h : hget H p = some (rdC l e)) :
    AC Tryz.prog nro γ 78 #[.pointer (some ⟨p, 0, none⟩), .string (strOfNums l2), .int .i64 e2] H (fun v' H' => H' = H.set p (some (rdC l2 e2))) := by
  have hpl := hget_lt h
  unfold rdC at h ⊢
  refine ac_of_aw Tryz.func78 rfl Tryz.ntmps78 Tryz.results78 (by simp) ?_
  (refine aw_ops (by kernel_rfl) (fun K hK => ?_); simp (disch := first | omega | (simp only [lnS]; try omega; done)) [-getElem?_pos, -getElem?_neg, h]; refine hK _ _ ?_; clear hK K)
  exact ⟨_, _, rfl, rfl, rfl⟩
theorem count_ac {H : AH} {γ : Nat → Option Nat} {nro p : Nat} {l : List Int} {most : Int} (hp : nro ≤ p) (h : hget H p = some (rdC l 0)) (hb : By l) (hl : l.length ≤ 1000000) (hm : most ≤ 9223372036854775807) :
    AC Tryz.prog nro γ 77 #[.pointer (some ⟨p, 0, none⟩), .int .i64 most] H (fun v' H' => v' = .int .u64 ((rdCount most l).1 : Nat) ∧ H' = H.set p (some (rdC (rdCount most l).2.1 (rdCount most l).2.2))) := by
  have hnum := number_ac (γ := γ) hp h hb hl
  have hpl := hget_lt h
  obtain ⟨n, l2, e, hr⟩ : ∃ n l2 e, rdNum l = (n, l2, e) := ⟨_, _, _, rfl⟩
  have hv := rdNum_val (l := l)
  have hbad := rdNum_bad (l := l)
  have hc : rdCount most l = if e ≠ 0 then (0, l, e) else if max most 0 < n then (0, l, 5) else (n, l2, e) := by unfold rdCount; rw [hr]
  rw [hr] at hnum hv hbad
  simp only at hnum hv hbad
  obtain ⟨mx, hmx⟩ : ∃ mx, mx = max most 0 := ⟨_, rfl⟩
  have hmx0 : 0 ≤ mx ∧ mx ≤ 9223372036854775807 := by omega
  rw [← hmx] at hc
  unfold rdC at h hnum ⊢
  have hh := hgetEq (x := some ⟨[.string (strOfNums l2), .int .i64 e], 127, none⟩) hpl
  have hsl : p < (H.set p (some ⟨[.string (strOfNums l2), .int .i64 e], 127, none⟩)).length := by simpa using hpl
  refine ac_of_aw Tryz.func77 rfl Tryz.ntmps77 Tryz.results77 (by simp) ?_
  refine aw_seq ?_
  (refine aw_ops (by kernel_rfl) (fun K hK => ?_); simp (disch := first | omega | (simp only [lnS]; try omega; done)) [-getElem?_pos, -getElem?_neg]; refine hK _ _ ?_; clear hK K)
  refine aw_seq ?_
  (refine aw_ops (by kernel_rfl) (fun K hK => ?_); simp (disch := first | omega | (simp only [lnS]; try omega; done)) [-getElem?_pos, -getElem?_neg, h]; refine hK _ _ ?_; clear hK K)
  refine aw_seq ?_
  refine aw_ops (by kernel_rfl) (fun K hK => ?_)
  simp (disch := first | omega | (simp only [lnS]; try omega; done)) [-getElem?_pos, -getElem?_neg]
  refine ⟨by kernel_rfl, hnum.mono ?_⟩
  rintro v1 H1 ⟨rfl, rfl⟩
  try simp (disch := first | omega | (simp only [lnS]; try omega; done)) [-getElem?_pos, -getElem?_neg]
  refine hK _ _ ?_; clear hK K
  refine aw_seq ?_
  refine aw_seq ?_
  obtain ⟨H2, hH2⟩ : ∃ H2, H2 = H.set p (some ⟨[.string (strOfNums l2), .int .i64 e], 127, none⟩) := ⟨_, rfl⟩
  rw [← hH2] at hh hsl ⊢
  by_cases he : e = 0
  · subst he
    rw [if_neg (by simp)] at hc
    (refine aw_ops (by kernel_rfl) (fun K hK => ?_); simp (disch := first | omega | (simp only [lnS]; try omega; done)) [-getElem?_pos, -getElem?_neg, hh, ← hmx]; refine hK _ _ ?_; clear hK K)
    by_cases hq : mx < n
    · rw [if_pos hq] at hc
      refine aw_t (by (first | (simp [eval_tmp, put_at, hq]; done) | (simp [eval_tmp, put_at, hq]; omega))) (by kernel_rfl) ?_
      refine aw_seq ?_
      refine aw_ops (by kernel_rfl) (fun K hK => ?_)
      simp (disch := first | omega | (simp only [lnS]; try omega; done)) [-getElem?_pos, -getElem?_neg]
      refine ⟨by kernel_rfl, (giveup_ac (l := l2) (l2 := l) hp hh).mono ?_⟩
      rintro v1 H1 rfl
      try simp (disch := first | omega | (simp only [lnS]; try omega; done)) [-getElem?_pos, -getElem?_neg]
      refine hK _ _ ?_; clear hK K
      refine aw_seq ?_
      (refine aw_ops (by kernel_rfl) (fun K hK => ?_); simp (disch := first | omega | (simp only [lnS]; try omega; done)) [-getElem?_pos, -getElem?_neg]; refine hK _ _ ?_; clear hK K)
      (refine aw_ret ?_; simp (disch := first | omega | (simp only [lnS]; try omega; done)) [-getElem?_pos, -getElem?_neg, thenQ_ret, scopeQ_ret, inBlockQ_ret, RQ, resL, resV, hc, hH2, rdC])
    · rw [if_neg hq] at hc
      refine aw_f (by (first | (simp [eval_tmp, put_at, hq]; done) | (simp [eval_tmp, put_at, hq]; omega))) (by kernel_rfl) ?_
      refine aw_skip ?_
      refine aw_seq ?_
      (refine aw_ops (by kernel_rfl) (fun K hK => ?_); simp (disch := first | omega | (simp only [lnS]; try omega; done)) [-getElem?_pos, -getElem?_neg]; refine hK _ _ ?_; clear hK K)
      (refine aw_ret ?_; simp (disch := first | omega | (simp only [lnS]; try omega; done)) [-getElem?_pos, -getElem?_neg, thenQ_ret, scopeQ_ret, inBlockQ_ret, RQ, resL, resV, hc, hH2])
  · rw [if_pos he] at hc
    have hb2 := hbad he
    simp only [Prod.mk.injEq] at hb2
    obtain ⟨rfl, rfl, _⟩ := hb2
    (refine aw_ops (by kernel_rfl) (fun K hK => ?_); simp (disch := first | omega | (simp only [lnS]; try omega; done)) [-getElem?_pos, -getElem?_neg, hh, he]; refine hK _ _ ?_; clear hK K)
    refine aw_f (by (first | (simp [eval_tmp, put_at]; done) | (simp [eval_tmp, put_at]; omega))) (by kernel_rfl) ?_
    refine aw_skip ?_
    refine aw_seq ?_
    (refine aw_ops (by kernel_rfl) (fun K hK => ?_); simp (disch := first | omega | (simp only [lnS]; try omega; done)) [-getElem?_pos, -getElem?_neg]; refine hK _ _ ?_; clear hK K)
    (refine aw_ret ?_; simp (disch := first | omega | (simp only [lnS]; try omega; done)) [-getElem?_pos, -getElem?_neg, thenQ_ret, scopeQ_ret, inBlockQ_ret, RQ, resL, resV, hc, hH2])
theorem text_ac {H : AH} {γ : Nat → Option Nat} {nro p : Nat} {l : List Int} {most : Int} (hp : nro ≤ p) (h : hget H p = some (rdC l 0)) (hb : By l) (hl : l.length ≤ 1000000) (hm : most ≤ 9223372036854775807) :
    AC Tryz.prog nro γ 53 #[.pointer (some ⟨p, 0, none⟩), .int .i64 most] H (fun v' H' => v' = .string (strOfNums (rdText most l).1) ∧ H' = H.set p (some (rdC (rdText most l).2.1 (rdText most l).2.2))) := by
  have hnum := count_ac (γ := γ) hp h hb hl hm
  have hpl := hget_lt h
  obtain ⟨n, l2, e, hr⟩ : ∃ n l2 e, rdCount most l = (n, l2, e) := ⟨_, _, _, rfl⟩
  have hv := rdCount_val (l := l) (most := most)
  have hbad := rdCount_bad (l := l) (most := most)
  have hby := rdCount_by (l := l) (most := most) hb
  have hc : rdText most l = if e ≠ 0 then ([], l, e) else if l2.length < n then ([], l, 3) else (l2.take n, l2.drop n, 0) := by unfold rdText; rw [hr]
  rw [hr] at hnum hv hbad hby
  simp only at hnum hv hbad hby
  have hsz := sn_size l2
  have hex1 := ex_drop l2 n
  have hex2 := ex_take l2 n
  unfold rdC at h hnum ⊢
  have hh := hgetEq (x := some ⟨[.string (strOfNums l2), .int .i64 e], 127, none⟩) hpl
  have hsl : p < (H.set p (some ⟨[.string (strOfNums l2), .int .i64 e], 127, none⟩)).length := by simpa using hpl
  refine ac_of_aw Tryz.func53 rfl Tryz.ntmps53 Tryz.results53 (by simp) ?_
  refine aw_seq ?_
  (refine aw_ops (by kernel_rfl) (fun K hK => ?_); simp (disch := first | omega | (simp only [lnS]; try omega; done)) [-getElem?_pos, -getElem?_neg]; refine hK _ _ ?_; clear hK K)
  refine aw_seq ?_
  (refine aw_ops (by kernel_rfl) (fun K hK => ?_); simp (disch := first | omega | (simp only [lnS]; try omega; done)) [-getElem?_pos, -getElem?_neg, h]; refine hK _ _ ?_; clear hK K)
  refine aw_seq ?_
  refine aw_ops (by kernel_rfl) (fun K hK => ?_)
  simp (disch := first | omega | (simp only [lnS]; try omega; done)) [-getElem?_pos, -getElem?_neg]
  refine ⟨by kernel_rfl, hnum.mono ?_⟩
  rintro v1 H1 ⟨rfl, rfl⟩
  try simp (disch := first | omega | (simp only [lnS]; try omega; done)) [-getElem?_pos, -getElem?_neg]
  refine hK _ _ ?_; clear hK K
  refine aw_seq ?_
  obtain ⟨H2, hH2⟩ : ∃ H2, H2 = H.set p (some ⟨[.string (strOfNums l2), .int .i64 e], 127, none⟩) := ⟨_, rfl⟩
  rw [← hH2] at hh hsl ⊢
  by_cases he : e = 0
  · subst he
    rw [if_neg (by simp)] at hc
    refine aw_seq ?_
    (refine aw_ops (by kernel_rfl) (fun K hK => ?_); simp (disch := first | omega | (simp only [lnS]; try omega; done)) [-getElem?_pos, -getElem?_neg, hh, hsz]; refine hK _ _ ?_; clear hK K)
    by_cases hq : l2.length < n
    · rw [if_pos hq] at hc
      refine aw_t (by (first | (simp [eval_tmp, put_at, hq]; done) | (simp [eval_tmp, put_at, hq]; omega))) (by kernel_rfl) ?_
      refine aw_ops (by kernel_rfl) (fun K hK => ?_)
      simp (disch := first | omega | (simp only [lnS]; try omega; done)) [-getElem?_pos, -getElem?_neg]
      refine ⟨by kernel_rfl, (giveup_ac (l := l2) (l2 := l) hp hh).mono ?_⟩
      rintro v1 H1 rfl
      try simp (disch := first | omega | (simp only [lnS]; try omega; done)) [-getElem?_pos, -getElem?_neg]
      refine hK _ _ ?_; clear hK K
      have hh3 := hgetEq (x := some (rdC l 3)) hsl
      unfold rdC at hh3
      refine aw_seq ?_
      refine aw_seq ?_
      (refine aw_ops (by kernel_rfl) (fun K hK => ?_); simp (disch := first | omega | (simp only [lnS]; try omega; done)) [-getElem?_pos, -getElem?_neg, rdC, hh3]; refine hK _ _ ?_; clear hK K)
      refine aw_t (by (first | (simp [eval_tmp, put_at]; done) | (simp [eval_tmp, put_at]; omega))) (by kernel_rfl) ?_
      refine aw_seq ?_
      (refine aw_ops (by kernel_rfl) (fun K hK => ?_); simp (disch := first | omega | (simp only [lnS]; try omega; done)) [-getElem?_pos, -getElem?_neg]; refine hK _ _ ?_; clear hK K)
      (refine aw_ret ?_; simp (disch := first | omega | (simp only [lnS]; try omega; done)) [-getElem?_pos, -getElem?_neg, thenQ_ret, scopeQ_ret, inBlockQ_ret, RQ, resL, resV, hc, hH2, rdC, sn_nil0])
    · rw [if_neg hq] at hc
      refine aw_f (by (first | (simp [eval_tmp, put_at, hq]; done) | (simp [eval_tmp, put_at, hq]; omega))) (by kernel_rfl) ?_
      refine aw_skip ?_
      refine aw_seq ?_
      refine aw_seq ?_
      (refine aw_ops (by kernel_rfl) (fun K hK => ?_); simp (disch := first | omega | (simp only [lnS]; try omega; done)) [-getElem?_pos, -getElem?_neg, hh]; refine hK _ _ ?_; clear hK K)
      refine aw_f (by (first | (simp [eval_tmp, put_at]; done) | (simp [eval_tmp, put_at]; omega))) (by kernel_rfl) ?_
      refine aw_skip ?_
      refine aw_seq ?_
      (refine aw_ops (by kernel_rfl) (fun K hK => ?_); simp (disch := first | omega | (simp only [lnS]; try omega; done)) [-getElem?_pos, -getElem?_neg, hh, hsz, hex2]; refine hK _ _ ?_; clear hK K)
      refine aw_seq ?_
      (refine aw_ops (by kernel_rfl) (fun K hK => ?_); simp (disch := first | omega | (simp only [lnS]; try omega; done)) [-getElem?_pos, -getElem?_neg, hh, hsz, hex1]; refine hK _ _ ?_; clear hK K)
      refine aw_seq ?_
      (refine aw_ops (by kernel_rfl) (fun K hK => ?_); simp (disch := first | omega | (simp only [lnS]; try omega; done)) [-getElem?_pos, -getElem?_neg]; refine hK _ _ ?_; clear hK K)
      (refine aw_ret ?_; simp (disch := first | omega | (simp only [lnS]; try omega; done)) [-getElem?_pos, -getElem?_neg, thenQ_ret, scopeQ_ret, inBlockQ_ret, RQ, resL, resV, hc, hH2])
  · rw [if_pos he] at hc
    have hb2 := hbad he
    simp only [Prod.mk.injEq] at hb2
    obtain ⟨rfl, rfl, _⟩ := hb2
    refine aw_seq ?_
    (refine aw_ops (by kernel_rfl) (fun K hK => ?_); simp (disch := first | omega | (simp only [lnS]; try omega; done)) [-getElem?_pos, -getElem?_neg, hh, he]; refine hK _ _ ?_; clear hK K)
    refine aw_f (by (first | (simp [eval_tmp, put_at]; done) | (simp [eval_tmp, put_at]; omega))) (by kernel_rfl) ?_
    refine aw_skip ?_
    refine aw_seq ?_
    refine aw_seq ?_
    (refine aw_ops (by kernel_rfl) (fun K hK => ?_); simp (disch := first | omega | (simp only [lnS]; try omega; done)) [-getElem?_pos, -getElem?_neg, hh, he]; refine hK _ _ ?_; clear hK K)
    refine aw_t (by (first | (simp [eval_tmp, put_at, he]; done) | (simp [eval_tmp, put_at, he]; omega))) (by kernel_rfl) ?_
    refine aw_seq ?_
    (refine aw_ops (by kernel_rfl) (fun K hK => ?_); simp (disch := first | omega | (simp only [lnS]; try omega; done)) [-getElem?_pos, -getElem?_neg]; refine hK _ _ ?_; clear hK K)
    (refine aw_ret ?_; simp (disch := first | omega | (simp only [lnS]; try omega; done)) [-getElem?_pos, -getElem?_neg, thenQ_ret, scopeQ_ret, inBlockQ_ret, RQ, resL, resV, hc, hH2, sn_nil0])
end
section
structure DM where
  firm : List ByteArray
  uns : List (Nat × ByteArray)
  fuse : Int
  dead : Bool
def lateOf (firm : List ByteArray) (uns : List (Nat × ByteArray)) : List ByteArray := uns.foldl (fun l w => l.set w.1 w.2) firm
structure DM.Ok (D : DM) : Prop where
  one : 1 ≤ D.firm.length
  most : D.firm.length ≤ 1024
  rows : ∀ r ∈ D.firm, r.size = 256
  uns : ∀ w ∈ D.uns, w.1 < D.firm.length ∧ w.2.size = 256
  fuse : -1 ≤ D.fuse ∧ D.fuse ≤ 9223372036854775807
  few : D.uns.length ≤ 1000
theorem late_len (firm : List ByteArray) (uns : List (Nat × ByteArray)) : (lateOf firm uns).length = firm.length := by
  unfold lateOf
  induction uns generalizing firm with
  | nil => rfl
  | cons w uns ih => rw [List.foldl_cons, ih, List.length_set]
theorem mem_set {β : Type} {l : List β} {i : Nat} {x y : β} (h : y ∈ l.set i x) : y ∈ l ∨ y = x := by
  rcases List.mem_or_eq_of_mem_set h with h | h
  · exact .inl h
  · exact .inr h
theorem late_rows {uns : List (Nat × ByteArray)} : ∀ {firm : List ByteArray}, (∀ r ∈ firm, r.size = 256) → (∀ w ∈ uns, w.2.size = 256) → ∀ r ∈ lateOf firm uns, r.size = 256 := by
  unfold lateOf
  induction uns with
  | nil => intro firm h _; exact h
  | cons w uns ih =>
    intro firm h hu
    rw [List.foldl_cons]
    refine ih (fun r hr => ?_) (fun w' hw' => hu w' (List.mem_cons_of_mem _ hw'))
    rcases mem_set hr with hr | rfl
    · exact h r hr
    · exact hu w List.mem_cons_self
theorem late_app (firm : List ByteArray) (uns : List (Nat × ByteArray)) (w : Nat × ByteArray) : lateOf firm (uns ++ [w]) = (lateOf firm uns).set w.1 w.2 := by
  unfold lateOf; rw [List.foldl_append]; rfl
def DM.late (D : DM) : List ByteArray := lateOf D.firm D.uns
/-- Blocks, as cells; writes, as cells. -/
def fc (l : List ByteArray) : List Value := (l.map sv).flatten
def uc (u : List (Nat × ByteArray)) : List Value := (u.map fun w => Value.int .i64 (w.1 : Nat) :: sv w.2).flatten
theorem fc_rows {l : List ByteArray} (h : ∀ r ∈ l, r.size = 256) : ∀ r ∈ l.map sv, r.length = 256 := by
  intro r hr
  obtain ⟨s, hs, rfl⟩ := List.mem_map.1 hr
  rw [sv_length]; exact h s hs
theorem uc_rows {u : List (Nat × ByteArray)} (h : ∀ w ∈ u, w.2.size = 256) : ∀ r ∈ u.map (fun w => Value.int .i64 (w.1 : Nat) :: sv w.2), r.length = 257 := by
  intro r hr
  obtain ⟨s, hs, rfl⟩ := List.mem_map.1 hr
  rw [List.length_cons, sv_length, h s hs]
theorem fc_len {l : List ByteArray} (h : ∀ r ∈ l, r.size = 256) : (fc l).length = l.length * 256 := by
  unfold fc; rw [fl_len (fc_rows h), List.length_map]
theorem uc_len {u : List (Nat × ByteArray)} (h : ∀ w ∈ u, w.2.size = 256) : (uc u).length = u.length * 257 := by
  unfold uc; rw [fl_len (uc_rows h), List.length_map]
theorem fc_get {l : List ByteArray} (h : ∀ r ∈ l, r.size = 256) {k : Nat} {r : ByteArray} (hk : l[k]? = some r) : ((fc l).drop (k * 256)).take 256 = sv r :=
  fl_get (fc_rows h) (by rw [List.getElem?_map, hk]; rfl)
theorem uc_get {u : List (Nat × ByteArray)} (h : ∀ w ∈ u, w.2.size = 256) {k : Nat} {w : Nat × ByteArray} (hk : u[k]? = some w) : ((uc u).drop (k * 257)).take 257 = .int .i64 (w.1 : Nat) :: sv w.2 :=
  fl_get (uc_rows h) (by rw [List.getElem?_map, hk]; rfl)
theorem fc_set {l : List ByteArray} (h : ∀ r ∈ l, r.size = 256) {k : Nat} {r : ByteArray} (hk : k < l.length) (hr : r.size = 256) : setR (fc l) (k * 256) (sv r) = fc (l.set k r) := by
  unfold fc
  rw [fl_setR (fc_rows h) (q := sv l[k]) (by rw [List.getElem?_map, List.getElem?_eq_getElem hk]; rfl) (by rw [sv_length, hr]; exact Nat.le_refl _), List.map_set]
  rw [List.drop_of_length_le (by rw [sv_length, sv_length, h _ (List.getElem_mem hk), hr]; exact Nat.le_refl _), List.append_nil]
theorem fc_part {l : List ByteArray} (h : ∀ r ∈ l, r.size = 256) {k n : Nat} {r q : ByteArray} (hk : l[k]? = some q) (hr : r.size = 256) (hn : n ≤ 256) :
    setR (fc l) (k * 256) ((sv r).take n) = fc (l.set k (r.extract 0 n ++ q.extract n q.size)) := by
  have hq := h q (List.mem_of_getElem? hk)
  unfold fc
  rw [fl_setR (fc_rows h) (q := sv q) (by rw [List.getElem?_map, hk]; rfl) (by rw [List.length_take, sv_length]; omega), List.map_set]
  congr 2
  rw [List.length_take, sv_length, hr, Nat.min_eq_left hn, sv_take, sv_drop, sv_app]
theorem uc_app (u : List (Nat × ByteArray)) (w : Nat × ByteArray) : uc u ++ (.int .i64 (w.1 : Nat) :: sv w.2) = uc (u ++ [w]) := by
  unfold uc; rw [fl_app, List.map_append]; rfl
/-- Where a disk lies. -/
structure DkR (H : AH) (p s l : Nat) (U : Value) (FU : List Nat) (D : DM) : Prop where
  hp : hget H p = some ⟨[.slice (some ⟨s, 0, none⟩) D.firm.length D.firm.length, .slice (some ⟨l, 0, none⟩) D.firm.length D.firm.length, U, .int .i64 D.fuse, .bool D.dead], 61, none⟩
  hs : hget H s = some ⟨fc D.firm, 86, some 256⟩
  hl : hget H l = some ⟨fc D.late, 86, some 256⟩
  hu : OwnF H U 88 257 (uc D.uns) FU
  ps : p ≠ s
  pl : p ≠ l
  sl : s ≠ l
  fu : p ∉ FU ∧ s ∉ FU ∧ l ∉ FU
def Dk (H : AH) (p : Nat) (F : List Nat) (D : DM) : Prop := D.Ok ∧ ∃ s l U FU, F = p :: s :: l :: FU ∧ DkR H p s l U FU D
theorem Dk.low {H H' : AH} {p : Nat} {F : List Nat} {D : DM} (h : Dk H p F D) (hl : ∀ j ∈ F, hget H' j = hget H j) : Dk H' p F D := by
  obtain ⟨h0, s, l, U, FU, rfl, h⟩ := h
  exact ⟨h0, s, l, U, FU, rfl, ⟨by rw [hl p (by simp)]; exact h.hp, by rw [hl s (by simp)]; exact h.hs, by rw [hl l (by simp)]; exact h.hl, h.hu.low (fun j hj => hl j (by simp [hj])), h.ps, h.pl, h.sl, h.fu⟩⟩
theorem Dk.lt {H : AH} {p : Nat} {F : List Nat} {D : DM} (h : Dk H p F D) : ∀ j ∈ F, j < H.length := by
  obtain ⟨h0, s, l, U, FU, rfl, h⟩ := h
  intro j hj
  simp only [List.mem_cons] at hj
  rcases hj with rfl | rfl | rfl | hj
  · exact hget_lt h.hp
  · exact hget_lt h.hs
  · exact hget_lt h.hl
  · rcases h.hu with ⟨_, _, rfl⟩ | ⟨i, len, _, h2, _, rfl⟩
    · cases hj
    · rw [List.mem_singleton] at hj; subst hj; exact hget_lt h2
end
section
attribute [local simp] wb_bool wb_undef XL_nil XL_cons XLc_val XLc_call step1_eq stepW_t stepW_f stepC_n stepC_s stepX_s stepX_n stepN_s calleeX oneV xop_eq xopR_s xopR_n wantedA_eq wantedG_n wantedG_s plain1_int plain1_bool plain1_string bits_i64 bits_u64 bits_u32 bits_u16 bits_u8 xeqA xagg xcmp xarr allK_iv num_iv calleeOf xread xeff xbin xint xnil xun xstr xload xconv xpart xfield xfieldAddr xindexAddr xindex bnd asInt? xslice xlen xmin xmax xbuild xfill xappend xapp2 xappstr xappmk xcap xcopy xcells eval_tmp eval_const put_at put_none fr0_at cells_agg cells_int cells_bool cells_string cells_ptr cells_slice notTuple tab iv_all hget_app hget_app0 hget_cons0 hget_cons set_app set_app0 setR setR_one QL_nil QL_cons QLc_val stepQ_t stepQ_f stepQC_n stepQC_s stepQX_s SL_nil SL_cons SLc_val stepS_t stepS_f ltT ltF leT leF eqT eqF ltTn ltFn leTn leFn eqTn eqFn beqT beqF bneT bneF wi64 wu64 wu32 wu16 wu8 tmodP tdivP hgetL hgetNe hgetEq setL nums_def nums_len Nat.succ_le_of_lt List.getElem?_cons_zero List.getElem?_cons_succ Option.getD_some Int.toNat_add Int.toNat_mul agB agI agS agP agL agA okB okI okS okP okSl okA
section
variable {H : AH} {γ : Nat → Option Nat} {nro p : Nat} {F : List Nat} {D : DM}
theorem blocks_ac (h : Dk H p F D) : AC Tryz.prog nro γ 24 #[.pointer (some ⟨p, 0, none⟩)] H (fun v' H' => v' = .int .i64 D.firm.length ∧ H' = H) := by
  obtain ⟨ho, s, l, U, FU, rfl, h⟩ := h
  have hp := h.hp
  refine ac_of_aw Tryz.func24 rfl Tryz.ntmps24 Tryz.results24 (by simp) ?_
  refine aw_seq ?_
  (refine aw_ops (by kernel_rfl) (fun K hK => ?_); simp (disch := first | omega | (simp only [lnS]; try omega; done)) [-getElem?_pos, -getElem?_neg]; refine hK _ _ ?_; clear hK K)
  refine aw_seq ?_
  refine aw_seq ?_
  (refine aw_ops (by kernel_rfl) (fun K hK => ?_); simp (disch := first | omega | (simp only [lnS]; try omega; done)) [-getElem?_pos, -getElem?_neg]; refine hK _ _ ?_; clear hK K)
  refine aw_f (by (first | (simp [eval_tmp, put_at]; done) | (simp [eval_tmp, put_at]; omega))) (by kernel_rfl) ?_
  refine aw_skip ?_
  refine aw_seq ?_
  (refine aw_ops (by kernel_rfl) (fun K hK => ?_); simp (disch := first | omega | (simp only [lnS]; try omega; done)) [-getElem?_pos, -getElem?_neg, hp]; refine hK _ _ ?_; clear hK K)
  (refine aw_ret ?_; simp (disch := first | omega | (simp only [lnS]; try omega; done)) [-getElem?_pos, -getElem?_neg, thenQ_ret, scopeQ_ret, inBlockQ_ret, RQ, resL, resV])
/-- Is there such a block? -/
def hasB (n : Nat) (at_ : Int) : Bool := decide (0 ≤ at_) && decide (at_ < n)
theorem has_ac (h : Dk H p F D) (at_ : Int) : AC Tryz.prog nro γ 47 #[.pointer (some ⟨p, 0, none⟩), .int .i64 at_] H (fun v' H' => v' = .bool (hasB D.firm.length at_) ∧ H' = H) := by
  refine ac_of_aw Tryz.func47 rfl Tryz.ntmps47 Tryz.results47 (by simp) ?_
  refine aw_seq ?_
  (refine aw_ops (by kernel_rfl) (fun K hK => ?_); simp (disch := first | omega | (simp only [lnS]; try omega; done)) [-getElem?_pos, -getElem?_neg]; refine hK _ _ ?_; clear hK K)
  refine aw_seq ?_
  refine aw_ops (by kernel_rfl) (fun K hK => ?_)
  by_cases hc : 0 ≤ at_
  · simp (disch := first | omega | (simp only [lnS]; try omega; done)) [-getElem?_pos, -getElem?_neg, hc]
    refine ⟨by kernel_rfl, (blocks_ac h).mono ?_⟩
    rintro v H' ⟨rfl, rfl⟩
    simp (disch := first | omega | (simp only [lnS]; try omega; done)) [-getElem?_pos, -getElem?_neg, hc]
    refine hK _ _ ?_; clear hK K
    (refine aw_ret ?_; simp (disch := first | omega | (simp only [lnS]; try omega; done)) [-getElem?_pos, -getElem?_neg, thenQ_ret, scopeQ_ret, inBlockQ_ret, RQ, resL, resV])
    simp [hasB, hc]
  · simp (disch := first | omega | (simp only [lnS]; try omega; done)) [-getElem?_pos, -getElem?_neg, hc]
    refine hK _ _ ?_; clear hK K
    (refine aw_ret ?_; simp (disch := first | omega | (simp only [lnS]; try omega; done)) [-getElem?_pos, -getElem?_neg, thenQ_ret, scopeQ_ret, inBlockQ_ret, RQ, resL, resV])
    simp [hasB, hc]
theorem dead_ac (h : Dk H p F D) : AC Tryz.prog nro γ 86 #[.pointer (some ⟨p, 0, none⟩)] H (fun v' H' => v' = .bool D.dead ∧ H' = H) := by
  obtain ⟨ho, s, l, U, FU, rfl, h⟩ := h
  have hp := h.hp
  refine ac_of_aw Tryz.func86 rfl Tryz.ntmps86 Tryz.results86 (by simp) ?_
  refine aw_seq ?_
  (refine aw_ops (by kernel_rfl) (fun K hK => ?_); simp (disch := first | omega | (simp only [lnS]; try omega; done)) [-getElem?_pos, -getElem?_neg]; refine hK _ _ ?_; clear hK K)
  refine aw_seq ?_
  (refine aw_ops (by kernel_rfl) (fun K hK => ?_); simp (disch := first | omega | (simp only [lnS]; try omega; done)) [-getElem?_pos, -getElem?_neg, hp]; refine hK _ _ ?_; clear hK K)
  (refine aw_ret ?_; simp (disch := first | omega | (simp only [lnS]; try omega; done)) [-getElem?_pos, -getElem?_neg, thenQ_ret, scopeQ_ret, inBlockQ_ret, RQ, resL, resV])
/-- A block's text, and the error. -/
theorem row_of {L : List ByteArray} (h : ∀ r ∈ L, r.size = 256) {i : Nat} (hi : i < L.length) : ∃ r, L[i]? = some r ∧ r.size = 256 ∧ (fc L).length = L.length * 256 ∧ ((fc L).drop (i * 256)).take 256 = sv r :=
  ⟨L[i], List.getElem?_eq_getElem hi, h _ (List.getElem_mem hi), fc_len h, fc_get h (List.getElem?_eq_getElem hi)⟩
def readV (L : List ByteArray) (at_ : Int) : ByteArray := if hasB L.length at_ = true then L.getD at_.toNat ⟨#[]⟩ else ⟨#[]⟩
theorem settled_ac (h : Dk H p F D) (at_ : Int) : AC Tryz.prog nro γ 23 #[.pointer (some ⟨p, 0, none⟩), .int .i64 at_] H (fun v' H' => v' = .string (readV D.firm at_) ∧ H' = H) := by
  have hh := has_ac (nro := nro) (γ := γ) h at_
  obtain ⟨ho, s, l, U, FU, rfl, h⟩ := h
  have hp := h.hp
  have hs := h.hs
  have hr := ho.rows
  refine ac_of_aw Tryz.func23 rfl Tryz.ntmps23 Tryz.results23 (by simp) ?_
  refine aw_seq ?_
  (refine aw_ops (by kernel_rfl) (fun K hK => ?_); simp (disch := first | omega | (simp only [lnS]; try omega; done)) [-getElem?_pos, -getElem?_neg]; refine hK _ _ ?_; clear hK K)
  refine aw_seq ?_
  refine aw_seq ?_
  refine aw_ops (by kernel_rfl) (fun K hK => ?_)
  simp (disch := first | omega | (simp only [lnS]; try omega; done)) [-getElem?_pos, -getElem?_neg]
  refine ⟨by kernel_rfl, hh.mono ?_⟩
  rintro v H' ⟨rfl, rfl⟩
  simp (disch := first | omega | (simp only [lnS]; try omega; done)) [-getElem?_pos, -getElem?_neg]
  refine hK _ _ ?_; clear hK K
  cases hc : hasB D.firm.length at_ with
  | false =>
    refine aw_t (by (first | (simp [eval_tmp, put_at, hc]; done) | (simp [eval_tmp, put_at, hc]; omega))) (by kernel_rfl) ?_
    refine aw_seq ?_
    (refine aw_ops (by kernel_rfl) (fun K hK => ?_); simp (disch := first | omega | (simp only [lnS]; try omega; done)) [-getElem?_pos, -getElem?_neg]; refine hK _ _ ?_; clear hK K)
    (refine aw_ret ?_; simp (disch := first | omega | (simp only [lnS]; try omega; done)) [-getElem?_pos, -getElem?_neg, thenQ_ret, scopeQ_ret, inBlockQ_ret, RQ, resL, resV])
    simp [readV, hc]
  | true =>
    refine aw_f (by (first | (simp [eval_tmp, put_at, hc]; done) | (simp [eval_tmp, put_at, hc]; omega))) (by kernel_rfl) ?_
    refine aw_skip ?_
    refine aw_seq ?_
    have hcc := hc
    simp only [hasB, Bool.and_eq_true, decide_eq_true_eq] at hcc
    obtain ⟨i, rfl⟩ : ∃ i : Nat, at_ = (i : Nat) := ⟨at_.toNat, by omega⟩
    have hi : i < D.firm.length := by omega
    obtain ⟨r, h1, h2, h3, h4⟩ := row_of hr hi
    have h5 := sv_bytes r
    have hle : i * 256 + 256 ≤ (fc D.firm).length := by rw [h3]; omega
    have hnl := nums_len r
    have hg : readV D.firm (i : Nat) = r := by simp [readV, hc, h1]
    have ho := of_nums' r
    (refine aw_ops (by kernel_rfl) (fun K hK => ?_); simp (disch := first | omega | (simp only [lnS]; try omega; done)) [-getElem?_pos, -getElem?_neg, hp, hs, h4, h5, hnl, h2, ho]; refine hK _ _ ?_; clear hK K)
    (refine aw_ret ?_; simp (disch := first | omega | (simp only [lnS]; try omega; done)) [-getElem?_pos, -getElem?_neg, thenQ_ret, scopeQ_ret, inBlockQ_ret, RQ, resL, resV])
    simp [hg]
theorem read_ac (h : Dk H p F D) (at_ : Int) : AC Tryz.prog nro γ 25 #[.pointer (some ⟨p, 0, none⟩), .int .i64 at_] H (fun v' H' => v' = .tuple #[.string (readV D.late at_), .int .i64 (if hasB D.firm.length at_ = true then 0 else 1)] ∧ H' = H) := by
  have hh := has_ac (nro := nro) (γ := γ) h at_
  obtain ⟨ho, s, l, U, FU, rfl, h⟩ := h
  have hp := h.hp
  have hs := h.hl
  have hr : ∀ r ∈ D.late, r.size = 256 := late_rows ho.rows (fun w hw => (ho.uns w hw).2)
  have hll : D.late.length = D.firm.length := late_len _ _
  refine ac_of_aw Tryz.func25 rfl Tryz.ntmps25 Tryz.results25 (by simp) ?_
  refine aw_seq ?_
  (refine aw_ops (by kernel_rfl) (fun K hK => ?_); simp (disch := first | omega | (simp only [lnS]; try omega; done)) [-getElem?_pos, -getElem?_neg]; refine hK _ _ ?_; clear hK K)
  refine aw_seq ?_
  refine aw_seq ?_
  refine aw_ops (by kernel_rfl) (fun K hK => ?_)
  simp (disch := first | omega | (simp only [lnS]; try omega; done)) [-getElem?_pos, -getElem?_neg]
  refine ⟨by kernel_rfl, hh.mono ?_⟩
  rintro v H' ⟨rfl, rfl⟩
  simp (disch := first | omega | (simp only [lnS]; try omega; done)) [-getElem?_pos, -getElem?_neg]
  refine hK _ _ ?_; clear hK K
  cases hc : hasB D.firm.length at_ with
  | false =>
    refine aw_t (by (first | (simp [eval_tmp, put_at, hc]; done) | (simp [eval_tmp, put_at, hc]; omega))) (by kernel_rfl) ?_
    refine aw_seq ?_
    (refine aw_ops (by kernel_rfl) (fun K hK => ?_); simp (disch := first | omega | (simp only [lnS]; try omega; done)) [-getElem?_pos, -getElem?_neg]; refine hK _ _ ?_; clear hK K)
    (refine aw_ret ?_; simp (disch := first | omega | (simp only [lnS]; try omega; done)) [-getElem?_pos, -getElem?_neg, thenQ_ret, scopeQ_ret, inBlockQ_ret, RQ, resL, resV])
    simp [readV, hll, hc]
  | true =>
    refine aw_f (by (first | (simp [eval_tmp, put_at, hc]; done) | (simp [eval_tmp, put_at, hc]; omega))) (by kernel_rfl) ?_
    refine aw_skip ?_
    refine aw_seq ?_
    have hcc := hc
    simp only [hasB, Bool.and_eq_true, decide_eq_true_eq] at hcc
    obtain ⟨i, rfl⟩ : ∃ i : Nat, at_ = (i : Nat) := ⟨at_.toNat, by omega⟩
    have hi : i < D.late.length := by omega
    obtain ⟨r, h1, h2, h3, h4⟩ := row_of hr hi
    have h5 := sv_bytes r
    have hle : i * 256 + 256 ≤ (fc D.late).length := by rw [h3]; omega
    have hnl := nums_len r
    have hg : readV D.late (i : Nat) = r := by simp [readV, hll, hc, h1]
    have ho := of_nums' r
    (refine aw_ops (by kernel_rfl) (fun K hK => ?_); simp (disch := first | omega | (simp only [lnS]; try omega; done)) [-getElem?_pos, -getElem?_neg, hp, hs, h4, h5, hnl, h2, ho]; refine hK _ _ ?_; clear hK K)
    (refine aw_ret ?_; simp (disch := first | omega | (simp only [lnS]; try omega; done)) [-getElem?_pos, -getElem?_neg, thenQ_ret, scopeQ_ret, inBlockQ_ret, RQ, resL, resV])
    simp [hg, hc]
end
end
section
def DM.burn (D : DM) : DM := if D.fuse = 0 then { D with dead := true } else if 0 < D.fuse then { D with fuse := D.fuse - 1 } else D
def DM.burnV (D : DM) : Int := if D.fuse = 0 then 7 else 0
theorem burn_firm (D : DM) : D.burn.firm = D.firm := by unfold DM.burn; split <;> (try split) <;> rfl
theorem burn_uns (D : DM) : D.burn.uns = D.uns := by unfold DM.burn; split <;> (try split) <;> rfl
theorem DM.Ok.upd {D D' : DM} (h : D.Ok) (hf : D'.firm = D.firm) (hu : D'.uns = D.uns) (hz : -1 ≤ D'.fuse ∧ D'.fuse ≤ 9223372036854775807) : D'.Ok :=
  ⟨by rw [hf]; exact h.one, by rw [hf]; exact h.most, by rw [hf]; exact h.rows, by rw [hf, hu]; exact h.uns, hz, by rw [hu]; exact h.few⟩
theorem fr_set {H : AH} {F : List Nat} {p : Nat} {x : Option Blk} (hp : p ∈ F) : Fr H (H.set p x) F F :=
  ⟨by simp, fun j hj hn => hget_set_ne (fun e => hn (e ▸ hp)), fun j h => .inl h⟩
theorem DkR.upd {H : AH} {p s l : Nat} {U : Value} {FU : List Nat} {D D' : DM} (h : DkR H p s l U FU D) (ho : D.Ok) (hf : D'.firm = D.firm) (hu : D'.uns = D.uns) (hz : -1 ≤ D'.fuse ∧ D'.fuse ≤ 9223372036854775807) :
    Dk (H.set p (some ⟨[.slice (some ⟨s, 0, none⟩) D.firm.length D.firm.length, .slice (some ⟨l, 0, none⟩) D.firm.length D.firm.length, U, .int .i64 D'.fuse, .bool D'.dead], 61, none⟩)) p (p :: s :: l :: FU) D' := by
  have hl : D'.late = D.late := by unfold DM.late; rw [hf, hu]
  have hpl := hget_lt h.hp
  refine ⟨ho.upd hf hu hz, s, l, U, FU, rfl, ⟨by rw [hget_set_eq hpl, hf], by rw [hget_set_ne h.ps, hf]; exact h.hs, by rw [hget_set_ne h.pl, hl]; exact h.hl, ?_, h.ps, h.pl, h.sl, h.fu⟩⟩
  rw [hu]
  exact h.hu.low (fun j hj => hget_set_ne (fun e => h.fu.1 (e ▸ hj)))
attribute [local simp] wb_bool wb_undef XL_nil XL_cons XLc_val XLc_call step1_eq stepW_t stepW_f stepC_n stepC_s stepX_s stepX_n stepN_s calleeX oneV xop_eq xopR_s xopR_n wantedA_eq wantedG_n wantedG_s plain1_int plain1_bool plain1_string bits_i64 bits_u64 bits_u32 bits_u16 bits_u8 xeqA xagg xcmp xarr allK_iv num_iv calleeOf xread xeff xbin xint xnil xun xstr xload xconv xpart xfield xfieldAddr xindexAddr xindex bnd asInt? xslice xlen xmin xmax xbuild xfill xappend xapp2 xappstr xappmk xcap xcopy xcells eval_tmp eval_const put_at put_none fr0_at cells_agg cells_int cells_bool cells_string cells_ptr cells_slice notTuple tab iv_all hget_app hget_app0 hget_cons0 hget_cons set_app set_app0 setR setR_one QL_nil QL_cons QLc_val stepQ_t stepQ_f stepQC_n stepQC_s stepQX_s SL_nil SL_cons SLc_val stepS_t stepS_f ltT ltF leT leF eqT eqF ltTn ltFn leTn leFn eqTn eqFn beqT beqF bneT bneF wi64 wu64 wu32 wu16 wu8 tmodP tdivP hgetL hgetNe hgetEq setL nums_def nums_len Nat.succ_le_of_lt List.getElem?_cons_zero List.getElem?_cons_succ Option.getD_some Int.toNat_add Int.toNat_mul agB agI agS agP agL agA okB okI okS okP okSl okA
section
variable {H : AH} {γ : Nat → Option Nat} {nro p : Nat} {F : List Nat} {D : DM}
theorem burn_ac (h : Dk H p F D) (hn : nro ≤ p) : AC Tryz.prog nro γ 85 #[.pointer (some ⟨p, 0, none⟩)] H (fun v' H' => v' = .int .i64 D.burnV ∧ Dk H' p F D.burn ∧ Fr H H' F F) := by
  obtain ⟨ho, s, l, U, FU, rfl, h⟩ := h
  have hp := h.hp
  have hpl := hget_lt hp
  have hz := ho.fuse
  refine ac_of_aw Tryz.func85 rfl Tryz.ntmps85 Tryz.results85 (by simp) ?_
  refine aw_seq ?_
  (refine aw_ops (by kernel_rfl) (fun K hK => ?_); simp (disch := first | omega | (simp only [lnS]; try omega; done)) [-getElem?_pos, -getElem?_neg]; refine hK _ _ ?_; clear hK K)
  refine aw_seq ?_
  refine aw_block ?_
  refine aw_seq ?_
  by_cases h0 : D.fuse = 0
  · (refine aw_ops (by kernel_rfl) (fun K hK => ?_); simp (disch := first | omega | (simp only [lnS]; try omega; done)) [-getElem?_pos, -getElem?_neg, hp, h0]; refine hK _ _ ?_; clear hK K)
    refine aw_t (by (first | (simp [eval_tmp, put_at, h0]; done) | (simp [eval_tmp, put_at, h0]; omega))) (by kernel_rfl) ?_
    refine aw_seq ?_
    (refine aw_ops (by kernel_rfl) (fun K hK => ?_); simp (disch := first | omega | (simp only [lnS]; try omega; done)) [-getElem?_pos, -getElem?_neg, hp, h0]; refine hK _ _ ?_; clear hK K)
    refine aw_seq ?_
    (refine aw_ops (by kernel_rfl) (fun K hK => ?_); simp (disch := first | omega | (simp only [lnS]; try omega; done)) [-getElem?_pos, -getElem?_neg]; refine hK _ _ ?_; clear hK K)
    (refine aw_ret ?_; simp (disch := first | omega | (simp only [lnS]; try omega; done)) [-getElem?_pos, -getElem?_neg, thenQ_ret, scopeQ_ret, inBlockQ_ret, RQ, resL, resV])
    have hb : D.burn = { D with dead := true } := by simp [DM.burn, h0]
    refine ⟨by simp [DM.burnV, h0], ?_, fr_set (by simp)⟩
    rw [hb]
    have := h.upd (D' := { D with dead := true }) ho rfl rfl hz
    simpa only [h0] using this
  · (refine aw_ops (by kernel_rfl) (fun K hK => ?_); simp (disch := first | omega | (simp only [lnS]; try omega; done)) [-getElem?_pos, -getElem?_neg, hp, h0]; refine hK _ _ ?_; clear hK K)
    refine aw_f (by (first | (simp [eval_tmp, put_at, h0]; done) | (simp [eval_tmp, put_at, h0]; omega))) (by kernel_rfl) ?_
    refine aw_seq ?_
    by_cases h1 : 0 < D.fuse
    · (refine aw_ops (by kernel_rfl) (fun K hK => ?_); simp (disch := first | omega | (simp only [lnS]; try omega; done)) [-getElem?_pos, -getElem?_neg, hp, h1]; refine hK _ _ ?_; clear hK K)
      refine aw_t (by (first | (simp [eval_tmp, put_at, h1]; done) | (simp [eval_tmp, put_at, h1]; omega))) (by kernel_rfl) ?_
      (refine aw_ops (by kernel_rfl) (fun K hK => ?_); simp (disch := first | omega | (simp only [lnS]; try omega; done)) [-getElem?_pos, -getElem?_neg, hp]; refine hK _ _ ?_; clear hK K)
      refine aw_seq ?_
      (refine aw_ops (by kernel_rfl) (fun K hK => ?_); simp (disch := first | omega | (simp only [lnS]; try omega; done)) [-getElem?_pos, -getElem?_neg]; refine hK _ _ ?_; clear hK K)
      (refine aw_ret ?_; simp (disch := first | omega | (simp only [lnS]; try omega; done)) [-getElem?_pos, -getElem?_neg, thenQ_ret, scopeQ_ret, inBlockQ_ret, RQ, resL, resV])
      have hb : D.burn = { D with fuse := D.fuse - 1 } := by simp [DM.burn, h0, h1]
      refine ⟨by simp [DM.burnV, h0], ?_, fr_set (by simp)⟩
      rw [hb]
      exact h.upd (D' := { D with fuse := D.fuse - 1 }) ho rfl rfl (by simp only; omega)
    · (refine aw_ops (by kernel_rfl) (fun K hK => ?_); simp (disch := first | omega | (simp only [lnS]; try omega; done)) [-getElem?_pos, -getElem?_neg, hp, h1]; refine hK _ _ ?_; clear hK K)
      refine aw_f (by (first | (simp [eval_tmp, put_at, h1]; done) | (simp [eval_tmp, put_at, h1]; omega))) (by kernel_rfl) ?_
      refine aw_skip ?_
      refine aw_seq ?_
      (refine aw_ops (by kernel_rfl) (fun K hK => ?_); simp (disch := first | omega | (simp only [lnS]; try omega; done)) [-getElem?_pos, -getElem?_neg]; refine hK _ _ ?_; clear hK K)
      (refine aw_ret ?_; simp (disch := first | omega | (simp only [lnS]; try omega; done)) [-getElem?_pos, -getElem?_neg, thenQ_ret, scopeQ_ret, inBlockQ_ret, RQ, resL, resV])
      have hb : D.burn = D := by simp [DM.burn, h0, h1]
      rw [hb]
      exact ⟨by simp [DM.burnV, h0], ⟨ho, s, l, U, FU, rfl, h⟩, Fr.refl _ _⟩
theorem fuse_ac (h : Dk H p F D) (hn : nro ≤ p) {n : Int} (hnb : n ≤ 9223372036854775807) : AC Tryz.prog nro γ 15 #[.pointer (some ⟨p, 0, none⟩), .int .i64 n] H (fun v' H' => Dk H' p F { D with fuse := if n < -1 then -1 else n } ∧ Fr H H' F F) := by
  obtain ⟨ho, s, l, U, FU, rfl, h⟩ := h
  have hp := h.hp
  have hpl := hget_lt hp
  have hz := ho.fuse
  refine ac_of_aw Tryz.func15 rfl Tryz.ntmps15 Tryz.results15 (by simp) ?_
  have hm := h.upd (D' := { D with fuse := if n < -1 then -1 else n }) ho rfl rfl (by simp only; split <;> omega)
  simp only at hm
  refine aw_seq ?_
  (refine aw_ops (by kernel_rfl) (fun K hK => ?_); simp (disch := first | omega | (simp only [lnS]; try omega; done)) [-getElem?_pos, -getElem?_neg]; refine hK _ _ ?_; clear hK K)
  refine aw_t (by (first | (simp [eval_tmp, put_at]; done) | (simp [eval_tmp, put_at]; omega))) (by kernel_rfl) ?_
  have hmx : (if (-1 : Int) > n then (-1 : Int) else n) = if n < -1 then -1 else n := by by_cases hc : n < -1 <;> simp [hc]
  (refine aw_ops (by kernel_rfl) (fun K hK => ?_); simp (disch := first | omega | (simp only [lnS]; try omega; done)) [-getElem?_pos, -getElem?_neg, hp, hmx]; refine hK _ _ ?_; clear hK K)
  refine ⟨_, _, rfl, rfl, hm, fr_set (by simp)⟩
/-- Writing. -/
def okW (D : DM) (at_ : Int) (t : ByteArray) : Bool := hasB D.firm.length at_ && decide (t.size = 256)
def DM.put (D : DM) (at_ : Int) (t : ByteArray) : DM := { D with uns := D.uns ++ [(at_.toNat, t)] }
def DM.write (D : DM) (at_ : Int) (t : ByteArray) : DM := if okW D at_ t = true ∧ D.dead = false then (D.put at_ t).burn else D
def DM.writeV (D : DM) (at_ : Int) (t : ByteArray) : Int := if okW D at_ t = true then (if D.dead = true then 7 else (D.put at_ t).burnV) else 1
theorem dwrite_ac (h : Dk H p F D) (hn : ∀ j ∈ F, nro ≤ j) (hfew : D.uns.length < 1000) (at_ : Int) (t : ByteArray) :
    AC Tryz.prog nro γ 67 #[.pointer (some ⟨p, 0, none⟩), .int .i64 at_, .string t] H (fun v' H' => v' = .int .i64 (D.writeV at_ t) ∧ ∃ F', Dk H' p F' (D.write at_ t) ∧ Fr H H' F F') := by
  have hdk := h
  have hh := has_ac (nro := nro) (γ := γ) h at_
  obtain ⟨ho, s, l, U, FU, rfl, h⟩ := h
  have hp := h.hp
  have hpl := hget_lt hp
  have hnp : nro ≤ p := hn p (by simp)
  have hnl : nro ≤ l := hn l (by simp)
  refine ac_of_aw Tryz.func67 rfl Tryz.ntmps67 Tryz.results67 (by simp) ?_
  refine aw_seq ?_
  (refine aw_ops (by kernel_rfl) (fun K hK => ?_); simp (disch := first | omega | (simp only [lnS]; try omega; done)) [-getElem?_pos, -getElem?_neg]; refine hK _ _ ?_; clear hK K)
  refine aw_seq ?_
  refine aw_seq ?_
  refine aw_ops (by kernel_rfl) (fun K hK => ?_)
  simp (disch := first | omega | (simp only [lnS]; try omega; done)) [-getElem?_pos, -getElem?_neg]
  refine ⟨by kernel_rfl, hh.mono ?_⟩
  rintro v H' ⟨rfl, rfl⟩
  cases hok : okW D at_ t with
  | false =>
    have hww : D.writeV at_ t = 1 := by simp [DM.writeV, hok]
    have hwd : D.write at_ t = D := by simp [DM.write, hok]
    cases hb : hasB D.firm.length at_ with
    | false =>
      simp (disch := first | omega | (simp only [lnS]; try omega; done)) [-getElem?_pos, -getElem?_neg, hb]
      refine hK _ _ ?_; clear hK K
      refine aw_t (by (first | (simp [eval_tmp, put_at]; done) | (simp [eval_tmp, put_at]; omega))) (by kernel_rfl) ?_
      refine aw_seq ?_
      (refine aw_ops (by kernel_rfl) (fun K hK => ?_); simp (disch := first | omega | (simp only [lnS]; try omega; done)) [-getElem?_pos, -getElem?_neg]; refine hK _ _ ?_; clear hK K)
      (refine aw_ret ?_; simp (disch := first | omega | (simp only [lnS]; try omega; done)) [-getElem?_pos, -getElem?_neg, thenQ_ret, scopeQ_ret, inBlockQ_ret, RQ, resL, resV, hww, hwd])
      exact ⟨_, hdk, Fr.refl _ _⟩
    | true =>
      have hs : t.size ≠ 256 := by intro e; simp [okW, hb, e] at hok
      have hs' : ¬ (t.size : Int) = 256 := by omega
      simp (disch := first | omega | (simp only [lnS]; try omega; done)) [-getElem?_pos, -getElem?_neg, hb, hs, hs']
      refine hK _ _ ?_; clear hK K
      refine aw_t (by (first | (simp [eval_tmp, put_at, hs, hs']; done) | (simp [eval_tmp, put_at, hs, hs']; omega))) (by kernel_rfl) ?_
      refine aw_seq ?_
      (refine aw_ops (by kernel_rfl) (fun K hK => ?_); simp (disch := first | omega | (simp only [lnS]; try omega; done)) [-getElem?_pos, -getElem?_neg]; refine hK _ _ ?_; clear hK K)
      (refine aw_ret ?_; simp (disch := first | omega | (simp only [lnS]; try omega; done)) [-getElem?_pos, -getElem?_neg, thenQ_ret, scopeQ_ret, inBlockQ_ret, RQ, resL, resV, hww, hwd])
      exact ⟨_, hdk, Fr.refl _ _⟩
  | true =>
    have hokk := hok
    simp only [okW, Bool.and_eq_true, decide_eq_true_eq] at hokk
    obtain ⟨hb, hs⟩ := hokk
    have hs' : (t.size : Int) = 256 := by omega
    simp (disch := first | omega | (simp only [lnS]; try omega; done)) [-getElem?_pos, -getElem?_neg, hb, hs, hs']
    refine hK _ _ ?_; clear hK K
    refine aw_f (by (first | (simp [eval_tmp, put_at]; done) | (simp [eval_tmp, put_at]; omega))) (by kernel_rfl) ?_
    refine aw_skip ?_
    refine aw_seq ?_
    refine aw_seq ?_
    (refine aw_ops (by kernel_rfl) (fun K hK => ?_); simp (disch := first | omega | (simp only [lnS]; try omega; done)) [-getElem?_pos, -getElem?_neg, hp]; refine hK _ _ ?_; clear hK K)
    cases hd : D.dead with
    | true =>
      have hww : D.writeV at_ t = 7 := by simp [DM.writeV, hok, hd]
      have hwd : D.write at_ t = D := by simp [DM.write, hok, hd]
      refine aw_t (by (first | (simp [eval_tmp, put_at, hd]; done) | (simp [eval_tmp, put_at, hd]; omega))) (by kernel_rfl) ?_
      refine aw_seq ?_
      (refine aw_ops (by kernel_rfl) (fun K hK => ?_); simp (disch := first | omega | (simp only [lnS]; try omega; done)) [-getElem?_pos, -getElem?_neg]; refine hK _ _ ?_; clear hK K)
      (refine aw_ret ?_; simp (disch := first | omega | (simp only [lnS]; try omega; done)) [-getElem?_pos, -getElem?_neg, thenQ_ret, scopeQ_ret, inBlockQ_ret, RQ, resL, resV, hww, hwd])
      exact ⟨_, hdk, Fr.refl _ _⟩
    | false =>
      have hww : D.writeV at_ t = (D.put at_ t).burnV := by simp [DM.writeV, hok, hd]
      have hwd : D.write at_ t = (D.put at_ t).burn := by simp [DM.write, hok, hd]
      refine aw_f (by (first | (simp [eval_tmp, put_at, hd]; done) | (simp [eval_tmp, put_at, hd]; omega))) (by kernel_rfl) ?_
      refine aw_skip ?_
      have hbb := hb
      simp only [hasB, Bool.and_eq_true, decide_eq_true_eq] at hbb
      obtain ⟨i, rfl⟩ : ∃ i : Nat, at_ = (i : Nat) := ⟨at_.toNat, by omega⟩
      have hi : i < D.firm.length := by omega
      have hlr : ∀ r ∈ D.late, r.size = 256 := late_rows ho.rows (fun w hw => (ho.uns w hw).2)
      have hll : D.late.length = D.firm.length := late_len _ _
      have hhl := h.hl
      have hfl := fc_len hlr
      have hfs := fc_set hlr (by omega) hs (k := i)
      have hsv : iv .u8 (nums t) = sv t := rfl
      have hst : (sv t).take 256 = sv t := List.take_of_length_le (by simp [hs])
      have hsl : (sv t).length = 256 := by simp [hs]
      have hpt : D.put (i : Nat) t = { D with uns := D.uns ++ [(i, t)] } := by simp [DM.put]
      have hset : ∀ x : Value, setR (x :: iv .u8 (zl 256)) 1 (sv t) = x :: sv t := fun x => by
        have := setR_right [x] (iv .u8 (zl 256)) (sv t) 0 (by simp [hs])
        rw [setR_all _ _ (by simp [hs])] at this
        exact this
      have hset0 : ∀ x : Value, setR (x :: iv .u8 (zl 256)) 1 (iv .u8 (zl 256)) = x :: iv .u8 (zl 256) := fun x => by
        have := setR_right [x] (iv .u8 (zl 256)) (iv .u8 (zl 256)) 0 (by simp)
        rw [setR_all _ _ (by simp)] at this
        exact this
      have hlt : ∀ j ∈ FU, j < H'.length := fun j hj => hdk.lt j (by simp [hj])
      have hll' := hget_lt hhl
      have hss' := hget_lt h.hs
      have hps := h.ps
      have hpl2 := h.pl
      have hsl2 := h.sl
      have hfu := h.fu
      refine aw_seq ?_
      (refine aw_ops (by kernel_rfl) (fun K hK => ?_); simp (disch := first | omega | (simp only [lnS]; try omega; done)) [-getElem?_pos, -getElem?_neg, hp, hset0]; refine hK _ _ ?_; clear hK K)
      refine aw_seq ?_
      (refine aw_ops (by kernel_rfl) (fun K hK => ?_); simp (disch := first | omega | (simp only [lnS]; try omega; done)) [-getElem?_pos, -getElem?_neg, hsv, hst, hset, hsl, hs]; refine hK _ _ ?_; clear hK K)
      refine aw_seq ?_
      (refine aw_plan [] [] [0, 1, 2, 3, 4, 5, 6, 7] 8 1 (by kernel_rfl) (by kernel_rfl) (by kernel_rfl) (fun K hK => ?_)); simp only [sel, List.getElem?_cons_succ, List.getElem?_cons_zero, List.drop_succ_cons, List.drop_zero]; simp (disch := first | omega | (simp only [lnS]; try omega; done)) [-getElem?_pos, -getElem?_neg, hp, hhl, hst, hset, hsl, hs, hfl, hfs, PL_nil, PL_cons, PLc_val, PLc_new, stepP_t, stepP_f, stepPC_n, stepPC_s, stepPX_s, stepPX_n, stepPA_t, stepPA_c, stepPA_l, stepPN_s, allocOp, reloc_sl, reloc_ptr, List.map_cons, List.map_nil, List.nil_append, List.append_assoc, List.cons_append, Nat.add_assoc]
      refine hK _ _ ?_; clear hK K
      obtain ⟨X, hX⟩ : ∃ X, X = (some ⟨fc (D.late.set i t), 86, some 256⟩ : Option Blk) := ⟨_, rfl⟩
      obtain ⟨W, hW⟩ : ∃ W, W = (some ⟨.int .i64 (i : Nat) :: sv t, 88, none⟩ : Option Blk) := ⟨_, rfl⟩
      obtain ⟨B, hB⟩ : ∃ B, B = (some ⟨.int .i64 (i : Nat) :: sv t, 88, some 257⟩ : Option Blk) := ⟨_, rfl⟩
      obtain ⟨v2, H2, hap, hown, hlen2, hkeep⟩ := ownF_append (P := Tryz.prog) (nro := nro) (t := 59) (e := 88) (H := H'.set l X ++ [W, B]) (v := U) (x := .slice (some ⟨H'.length + 1, 0, none⟩) 1 1) (sz := 257)
        (cells := uc D.uns) (news := .int .i64 (i : Nat) :: sv t) (F := FU) (by simp) (by simp) (by omega) (by simp) (h.hu.low (fun j hj => by rw [hget_left (by rw [List.length_set]; exact hlt j hj), hget_set_ne (fun e : l = j => hfu.2.2 (by rw [e]; exact hj))]))
        (fun j hj => hn j (by simp [hj])) (fun s e => by cases e) (by simp [xcells, hB, hsl, hst, hga]) (by simp) (by simp [hs]) (by rw [uc_len (fun w hw => (ho.uns w hw).2)]; simp [hs]; omega) (by rw [uc_len (fun w hw => (ho.uns w hw).2)]; simp [hs, maxLen]; omega)
      have hgl : (H'.set l X ++ [W, B]).length = H'.length + 2 := by simp
      have hp2 : hget H2 p = some ⟨[.slice (some ⟨s, 0, none⟩) D.firm.length D.firm.length, .slice (some ⟨l, 0, none⟩) D.firm.length D.firm.length, U, .int .i64 D.fuse, .bool D.dead], 61, none⟩ := by
        rw [hkeep p (by omega) hfu.1, hget_left (by rw [List.length_set]; exact hpl), hget_set_ne (fun e => hpl2 e.symm)]; exact hp
      have hs2 : hget H2 s = some ⟨fc D.firm, 86, some 256⟩ := by
        rw [hkeep s (by omega) hfu.2.1, hget_left (by rw [List.length_set]; exact hss'), hget_set_ne (fun e => hsl2 e.symm)]; exact h.hs
      have hl2 : hget H2 l = some ⟨fc (D.late.set i t), 86, some 256⟩ := by
        rw [hkeep l (by omega) hfu.2.2, hget_left (by rw [List.length_set]; exact hll'), hget_set_eq hll', hX]
      have hpl3 : p < H2.length := by omega
      have hzr : setR (((List.range 257).map fun j => ((Value.int .i64 0 :: iv .u8 (zl 256))[j % 257]?).getD undef).set 0 (.int .i64 (i : Nat))) 1 (sv t) = .int .i64 (i : Nat) :: sv t := setR_all (List.map _ (List.range 257)) (.int .i64 (i : Nat) :: sv t) (by simp [hs])
      have hpln : ∀ x ∈ sv t, plain1 x = true := fun x hx => List.all_eq_true.1 (sv_plain t) x hx
      obtain ⟨len2, rfl⟩ := hown.new
      subst hX hW hB
      refine aw_seq ?_
      (refine aw_plan [] [0] [1, 2, 3, 4, 5, 6] 7 4 (by kernel_rfl) (by kernel_rfl) (by kernel_rfl) (fun K hK => ?_)); simp only [sel, List.getElem?_cons_succ, List.getElem?_cons_zero, List.drop_succ_cons, List.drop_zero]; simp (disch := first | omega | (simp only [lnS]; try omega; done)) [-getElem?_pos, -getElem?_neg, -xappend, hap, hp, hst, hsl, hs, hp2, hzr, hga, hga0, PL_nil, PL_cons, PLc_val, PLc_new, stepP_t, stepP_f, stepPC_n, stepPC_s, stepPX_s, stepPX_n, stepPA_t, stepPA_c, stepPA_l, stepPN_s, allocOp, reloc_sl, reloc_ptr, List.map_cons, List.map_nil, List.nil_append, List.append_assoc, List.cons_append, Nat.add_assoc]
      refine ⟨hpln, ?_⟩
      refine hK _ _ ?_; clear hK K
      rw [hgl] at hown
      have hp3 : p ∉ [H'.length + 2] := by rw [List.mem_singleton]; omega
      have hdk2 : Dk (H2.set p (some ⟨[.slice (some ⟨s, 0, none⟩) D.firm.length D.firm.length, .slice (some ⟨l, 0, none⟩) D.firm.length D.firm.length, .slice (some ⟨H'.length + 2, 0, none⟩) len2 len2, .int .i64 D.fuse, .bool false], 61, none⟩)) p (p :: s :: l :: [H'.length + 2]) (D.put (i : Nat) t) := by
        rw [hpt]
        refine ⟨⟨ho.one, ho.most, ho.rows, fun w hw => ?_, ho.fuse, by simp; omega⟩, s, l, .slice (some ⟨H'.length + 2, 0, none⟩) len2 len2, [H'.length + 2], rfl, ⟨by rw [hget_set_eq hpl3, hd], by rw [hget_set_ne hps]; exact hs2, ?_, ?_, hps, hpl2, hsl2, hp3, by rw [List.mem_singleton]; omega, by rw [List.mem_singleton]; omega⟩⟩
        · rcases List.mem_append.1 hw with hw | hw
          · exact ho.uns w hw
          · rw [List.mem_singleton] at hw; subst hw; exact ⟨hi, hs⟩
        · rw [hget_set_ne hpl2, hl2]
          unfold DM.late
          rw [late_app]
        · have := hown.low (H' := H2.set p (some ⟨[.slice (some ⟨s, 0, none⟩) D.firm.length D.firm.length, .slice (some ⟨l, 0, none⟩) D.firm.length D.firm.length, .slice (some ⟨H'.length + 2, 0, none⟩) len2 len2, .int .i64 D.fuse, .bool false], 61, none⟩)) (fun j hj => hget_set_ne (fun e => hp3 (e ▸ hj)))
          have e := uc_app D.uns (i, t)
          simp only at e
          rwa [e] at this
      have hfr2 : Fr H' (H2.set p (some ⟨[.slice (some ⟨s, 0, none⟩) D.firm.length D.firm.length, .slice (some ⟨l, 0, none⟩) D.firm.length D.firm.length, .slice (some ⟨H'.length + 2, 0, none⟩) len2 len2, .int .i64 D.fuse, .bool false], 61, none⟩)) (p :: s :: l :: FU) (p :: s :: l :: [H'.length + 2]) := by
        refine ⟨by simp; omega, fun j hj hnj => ?_, fun j hj => ?_⟩
        · simp only [List.mem_cons, not_or] at hnj
          rw [hget_set_ne (fun e => hnj.1 e.symm), hkeep j (by omega) hnj.2.2.2, hget_left (by rw [List.length_set]; exact hj), hget_set_ne (fun e => hnj.2.2.1 e.symm)]
        · simp only [List.mem_cons, List.not_mem_nil, or_false] at hj ⊢
          rcases hj with h1 | h1 | h1 | h1
          · exact .inl (.inl h1)
          · exact .inl (.inr (.inl h1))
          · exact .inl (.inr (.inr (.inl h1)))
          · right; omega
      have hbn := burn_ac (nro := nro) (γ := γ) hdk2 hnp
      refine aw_seq ?_
      refine aw_ops (by kernel_rfl) (fun K hK => ?_)
      rw [hd]
      simp (disch := first | omega | (simp only [lnS]; try omega; done)) [-getElem?_pos, -getElem?_neg]
      refine ⟨by kernel_rfl, hbn.mono ?_⟩
      rintro v H3 ⟨rfl, hdk3, hfr3⟩
      try simp (disch := first | omega | (simp only [lnS]; try omega; done)) [-getElem?_pos, -getElem?_neg]
      refine hK _ _ ?_; clear hK K
      (refine aw_ret ?_; simp (disch := first | omega | (simp only [lnS]; try omega; done)) [-getElem?_pos, -getElem?_neg, thenQ_ret, scopeQ_ret, inBlockQ_ret, RQ, resL, resV, hww, hwd])
      exact ⟨_, hdk3, hfr2.trans hfr3⟩
end
end
section
/-- A new disk's blocks, of noughts. -/
def newN (b : Int) : Nat := (if (if b < 1 then 1 else b) > 1024 then 1024 else (if b < 1 then 1 else b)).toNat
theorem newN_bd (b : Int) : 1 ≤ newN b ∧ newN b ≤ 1024 := by unfold newN; split <;> split <;> omega
def newD (b : Int) : DM := ⟨List.replicate (newN b) (zs 256), [], -1, false⟩
theorem newD_ok (b : Int) : (newD b).Ok := by
  have := newN_bd b
  refine ⟨?_, ?_, fun r hr => ?_, fun w hw => (by cases hw), by simp [newD], by simp [newD]⟩
  · simp [newD]; omega
  · simp [newD]; omega
  · simp only [newD] at hr; rw [List.eq_of_mem_replicate hr]; simp
theorem all_zl (n : Nat) : (∀ (i : Nat) (x : i < n), plain1 ((iv IntKind.u8 (zl n))[i]'(by simpa using x)) = true) = True := by
  refine eq_true fun i x => ?_
  have := List.all_eq_true.1 (iv_all .u8 (zl n)) _ (List.getElem_mem (by simpa using x : i < (iv IntKind.u8 (zl n)).length))
  exact this
theorem fc_plain (l : List ByteArray) : ∀ x ∈ fc l, plain1 x = true := by
  intro x hx
  obtain ⟨r, hr, hx⟩ := List.mem_flatten.1 hx
  obtain ⟨s, _, rfl⟩ := List.mem_map.1 hr
  exact List.all_eq_true.1 (sv_plain s) x hx
theorem plain_nil : plain1 (.slice none 0 0) = true := rfl
theorem rep_fc (n : Nat) : ((List.range (n * 256)).map fun j => ((iv .u8 (zl 256))[j % 256]?).getD undef) = fc (List.replicate n (zs 256)) := by
  simp only [← List.getD_eq_getElem?_getD]
  rw [zero_rows 256 n undef (iv .u8 (zl 256)) (by simp), fc, List.map_replicate, sv_zs]
attribute [local simp] wb_bool wb_undef XL_nil XL_cons XLc_val XLc_call step1_eq stepW_t stepW_f stepC_n stepC_s stepX_s stepX_n stepN_s calleeX oneV xop_eq xopR_s xopR_n wantedA_eq wantedG_n wantedG_s plain1_int plain1_bool plain1_string bits_i64 bits_u64 bits_u32 bits_u16 bits_u8 xeqA xagg xcmp xarr allK_iv num_iv calleeOf xread xeff xbin xint xnil xun xstr xload xconv xpart xfield xfieldAddr xindexAddr xindex bnd asInt? xslice xlen xmin xmax xbuild xfill xappend xapp2 xappstr xappmk xcap xcopy xcells eval_tmp eval_const put_at put_none fr0_at cells_agg cells_int cells_bool cells_string cells_ptr cells_slice notTuple tab iv_all hget_app hget_app0 hget_cons0 hget_cons set_app set_app0 setR setR_one QL_nil QL_cons QLc_val stepQ_t stepQ_f stepQC_n stepQC_s stepQX_s SL_nil SL_cons SLc_val stepS_t stepS_f ltT ltF leT leF eqT eqF ltTn ltFn leTn leFn eqTn eqFn beqT beqF bneT bneF wi64 wu64 wu32 wu16 wu8 tmodP tdivP hgetL hgetNe hgetEq setL nums_def nums_len Nat.succ_le_of_lt List.getElem?_cons_zero List.getElem?_cons_succ Option.getD_some Int.toNat_add Int.toNat_mul agB agI agS agP agL agA okB okI okS okP okSl okA
section
variable {H : AH} {γ : Nat → Option Nat} {nro : Nat}
theorem new_ac (b : Int) (hnro : nro ≤ H.length) : AC Tryz.prog nro γ 5 #[.int .i64 b] H (fun v' H' => v' = .pointer (some ⟨H.length + 2, 0, none⟩) ∧ Dk H' (H.length + 2) [H.length + 2, H.length, H.length + 1] (newD b) ∧ ∃ L, H' = H ++ L) := by
  have hbd := newN_bd b
  have hrep := rep_fc (newN b)
  have hmm : (if (if b < 1 then 1 else b) > 1024 then 1024 else (if b < 1 then 1 else b)) = (newN b : Int) := by unfold newN; split <;> split <;> omega
  refine ac_of_aw Tryz.func5 rfl Tryz.ntmps5 Tryz.results5 (by simp) ?_
  have hmx : newN b ≤ maxLen := by simp only [maxLen]; omega
  have hpl : ∀ n, (iv .u8 (zl n)).all plain1 = true := fun n => iv_all _ _
  refine aw_seq ?_
  (refine aw_ops (by kernel_rfl) (fun K hK => ?_); simp (disch := first | omega | (simp only [lnS]; try omega; done)) [-getElem?_pos, -getElem?_neg]; refine hK _ _ ?_; clear hK K)
  refine aw_seq ?_
  (refine aw_ops (by kernel_rfl) (fun K hK => ?_); simp (disch := first | omega | (simp only [lnS]; try omega; done)) [-getElem?_pos, -getElem?_neg, hmm]; refine hK _ _ ?_; clear hK K)
  refine aw_seq ?_
  (refine aw_plan [] [] [0, 1, 2, 3] 4 3 (by kernel_rfl) (by kernel_rfl) (by kernel_rfl) (fun K hK => ?_)); simp only [sel, List.getElem?_cons_succ, List.getElem?_cons_zero, List.drop_succ_cons, List.drop_zero]; simp (disch := first | omega | (simp only [lnS]; try omega; done)) [-getElem?_pos, -getElem?_neg, hmm, hrep, all_zl, plain_nil, PL_nil, PL_cons, PLc_val, PLc_new, stepP_t, stepP_f, stepPC_n, stepPC_s, stepPX_s, stepPX_n, stepPA_t, stepPA_c, stepPA_l, stepPN_s, allocOp, reloc_sl, reloc_ptr, List.map_cons, List.map_nil, List.nil_append, List.append_assoc, List.cons_append, Nat.add_assoc]
  refine ⟨fc_plain _, ?_⟩
  refine hK _ _ ?_; clear hK K
  (refine aw_ret ?_; simp (disch := first | omega | (simp only [lnS]; try omega; done)) [-getElem?_pos, -getElem?_neg, thenQ_ret, scopeQ_ret, inBlockQ_ret, RQ, resL, resV])
  have hl0 : (newD b).firm.length = newN b := by simp [newD]
  have hla : (newD b).late = (newD b).firm := rfl
  refine ⟨newD_ok b, H.length, H.length + 1, .slice none 0 0, [], rfl, ⟨?_, ?_, ?_, .inl ⟨rfl, rfl, rfl⟩, by omega, by omega, by omega, by simp⟩⟩
  · rw [hget_app, hl0]; rfl
  · rw [hget_app0]; rfl
  · rw [hget_app, hla]; rfl
end
end
section
def DM.sync (D : DM) : DM := if D.dead = true then D else if D.burnV = 0 then { D.burn with firm := D.late, uns := [] } else D.burn
def DM.syncV (D : DM) : Int := if D.dead = true then 7 else D.burnV
theorem late_take {firm : List ByteArray} {uns : List (Nat × ByteArray)} {i : Nat} {w : Nat × ByteArray} (h : uns[i]? = some w) : lateOf firm (uns.take (i + 1)) = (lateOf firm (uns.take i)).set w.1 w.2 := by
  rw [List.take_add_one, h]; exact late_app _ _ _
theorem burn_late (D : DM) : D.burn.late = D.late := by unfold DM.late; rw [burn_firm, burn_uns]
theorem rows_take {D : DM} (h : D.Ok) (i : Nat) : ∀ r ∈ lateOf D.firm (D.uns.take i), r.size = 256 := late_rows h.rows (fun w hw => (h.uns w (List.mem_of_mem_take hw)).2)
theorem OwnF.slice {H : AH} {v : Value} {e : TypeId} {sz : Nat} {cells : List Value} {F : List Nat} (h : OwnF H v e sz cells F) (hc : cells ≠ []) (h0 : 0 < sz) {n : Nat} (hn : cells.length = n * sz) : ∃ u, v = .slice (some ⟨u, 0, none⟩) n n ∧ hget H u = some ⟨cells, e, some sz⟩ ∧ F = [u] := by
  rcases h with ⟨_, h, _⟩ | ⟨j, len, rfl, h2, h3, rfl⟩
  · exact absurd h hc
  · have : len = n := Nat.eq_of_mul_eq_mul_right h0 (h3.symm.trans hn)
    subst this
    exact ⟨j, rfl, h2, rfl⟩
attribute [local simp] wb_bool wb_undef XL_nil XL_cons XLc_val XLc_call step1_eq stepW_t stepW_f stepC_n stepC_s stepX_s stepX_n stepN_s calleeX oneV xop_eq xopR_s xopR_n wantedA_eq wantedG_n wantedG_s plain1_int plain1_bool plain1_string bits_i64 bits_u64 bits_u32 bits_u16 bits_u8 xeqA xagg xcmp xarr allK_iv num_iv calleeOf xread xeff xbin xint xnil xun xstr xload xconv xpart xfield xfieldAddr xindexAddr xindex bnd asInt? xslice xlen xmin xmax xbuild xfill xappend xapp2 xappstr xappmk xcap xcopy xcells eval_tmp eval_const put_at put_none fr0_at cells_agg cells_int cells_bool cells_string cells_ptr cells_slice notTuple tab iv_all hget_app hget_app0 hget_cons0 hget_cons set_app set_app0 setR setR_one QL_nil QL_cons QLc_val stepQ_t stepQ_f stepQC_n stepQC_s stepQX_s SL_nil SL_cons SLc_val stepS_t stepS_f ltT ltF leT leF eqT eqF ltTn ltFn leTn leFn eqTn eqFn beqT beqF bneT bneF wi64 wu64 wu32 wu16 wu8 tmodP tdivP hgetL hgetNe hgetEq setL nums_def nums_len Nat.succ_le_of_lt List.getElem?_cons_zero List.getElem?_cons_succ Option.getD_some Int.toNat_add Int.toNat_mul agB agI agS agP agL agA okB okI okS okP okSl okA
section
variable {H : AH} {γ : Nat → Option Nat} {nro p : Nat} {F : List Nat} {D : DM}
theorem sync_ac (h : Dk H p F D) (hn : ∀ j ∈ F, nro ≤ j) (hnl : nro ≤ H.length) :
    AC Tryz.prog nro γ 68 #[.pointer (some ⟨p, 0, none⟩)] H (fun v' H' => v' = .int .i64 D.syncV ∧ ∃ F', Dk H' p F' D.sync ∧ Fr H H' F F') := by
  have hdk := h
  have hde := dead_ac (nro := nro) (γ := γ) h
  obtain ⟨ho, s, l, U, FU, rfl, h⟩ := h
  have hbu := burn_ac (nro := nro) (γ := γ) hdk (hn p (by simp))
  refine ac_of_aw Tryz.func68 rfl Tryz.ntmps68 Tryz.results68 (by simp) ?_
  refine aw_seq ?_
  (refine aw_ops (by kernel_rfl) (fun K hK => ?_); simp (disch := first | omega | (simp only [lnS]; try omega; done)) [-getElem?_pos, -getElem?_neg]; refine hK _ _ ?_; clear hK K)
  refine aw_seq ?_
  refine aw_seq ?_
  refine aw_ops (by kernel_rfl) (fun K hK => ?_)
  simp (disch := first | omega | (simp only [lnS]; try omega; done)) [-getElem?_pos, -getElem?_neg]
  refine ⟨by kernel_rfl, hde.mono ?_⟩
  rintro v H' ⟨rfl, rfl⟩
  try simp (disch := first | omega | (simp only [lnS]; try omega; done)) [-getElem?_pos, -getElem?_neg]
  refine hK _ _ ?_; clear hK K
  cases hd : D.dead with
  | true =>
    refine aw_t (by (first | (simp [eval_tmp, put_at, hd]; done) | (simp [eval_tmp, put_at, hd]; omega))) (by kernel_rfl) ?_
    refine aw_seq ?_
    (refine aw_ops (by kernel_rfl) (fun K hK => ?_); simp (disch := first | omega | (simp only [lnS]; try omega; done)) [-getElem?_pos, -getElem?_neg]; refine hK _ _ ?_; clear hK K)
    have e1 : D.syncV = 7 := by simp [DM.syncV, hd]
    have e2 : D.sync = D := by simp [DM.sync, hd]
    (refine aw_ret ?_; simp (disch := first | omega | (simp only [lnS]; try omega; done)) [-getElem?_pos, -getElem?_neg, thenQ_ret, scopeQ_ret, inBlockQ_ret, RQ, resL, resV, e1, e2])
    exact ⟨_, hdk, Fr.refl _ _⟩
  | false =>
    refine aw_f (by (first | (simp [eval_tmp, put_at, hd]; done) | (simp [eval_tmp, put_at, hd]; omega))) (by kernel_rfl) ?_
    refine aw_skip ?_
    refine aw_seq ?_
    refine aw_seq ?_
    refine aw_ops (by kernel_rfl) (fun K hK => ?_)
    simp (disch := first | omega | (simp only [lnS]; try omega; done)) [-getElem?_pos, -getElem?_neg]
    refine ⟨by kernel_rfl, hbu.mono ?_⟩
    rintro v H1 ⟨rfl, hdk1, hfr1⟩
    try simp (disch := first | omega | (simp only [lnS]; try omega; done)) [-getElem?_pos, -getElem?_neg]
    refine hK _ _ ?_; clear hK K
    refine aw_seq ?_
    have e1 : D.syncV = D.burnV := by simp [DM.syncV, hd]
    by_cases hb : D.burnV = 0
    case neg =>
      have e2 : D.sync = D.burn := by simp [DM.sync, hd, hb]
      (refine aw_ops (by kernel_rfl) (fun K hK => ?_); simp (disch := first | omega | (simp only [lnS]; try omega; done)) [-getElem?_pos, -getElem?_neg, hb]; refine hK _ _ ?_; clear hK K)
      refine aw_t (by (first | (simp [eval_tmp, put_at, hb]; done) | (simp [eval_tmp, put_at, hb]; omega))) (by kernel_rfl) ?_
      refine aw_seq ?_
      (refine aw_ops (by kernel_rfl) (fun K hK => ?_); simp (disch := first | omega | (simp only [lnS]; try omega; done)) [-getElem?_pos, -getElem?_neg]; refine hK _ _ ?_; clear hK K)
      (refine aw_ret ?_; simp (disch := first | omega | (simp only [lnS]; try omega; done)) [-getElem?_pos, -getElem?_neg, thenQ_ret, scopeQ_ret, inBlockQ_ret, RQ, resL, resV, e1, e2])
      exact ⟨_, hdk1, hfr1⟩
    have e2 : D.sync = { D.burn with firm := D.late, uns := [] } := by simp [DM.sync, hd, hb]
    rw [hb] at e1
    (refine aw_ops (by kernel_rfl) (fun K hK => ?_); simp (disch := first | omega | (simp only [lnS]; try omega; done)) [-getElem?_pos, -getElem?_neg, hb]; refine hK _ _ ?_; clear hK K)
    refine aw_f (by (first | (simp [eval_tmp, put_at, hb]; done) | (simp [eval_tmp, put_at, hb]; omega))) (by kernel_rfl) ?_
    refine aw_skip ?_
    refine aw_seq ?_
    refine aw_seq ?_
    have hlate := burn_late D
    rw [← hlate] at e2
    clear hbu hde h hdk hlate ho
    generalize D.burn = D1 at *
    obtain ⟨ho, s1, l1, U, FU1, hFF, h⟩ := hdk1
    simp only [List.cons.injEq] at hFF
    obtain ⟨_, rfl, rfl, rfl⟩ := hFF
    have hp := h.hp
    have hs0 := h.hs
    have hl0 := h.hl
    have hplt := hget_lt hp
    have hslt := hget_lt hs0
    have hllt := hget_lt hl0
    have hnp : nro ≤ p := hn p (by simp)
    have hns : nro ≤ s := hn s (by simp)
    have hps := h.ps
    have hpl := h.pl
    have hsl := h.sl
    have hul := uc_len (fun w hw => (ho.uns w hw).2)
    have hxl := h.hu.len (P := Tryz.prog) (t := 59) (by simp) hul (by omega)
    have hfew := ho.few
    (refine aw_ops (by kernel_rfl) (fun K hK => ?_); simp (disch := first | omega | (simp only [lnS]; try omega; done)) [-getElem?_pos, -getElem?_neg, hp, -xlen, hxl]; refine hK _ _ ?_; clear hK K)
    refine aw_block ?_
    refine aw_loop (fun q α G => ∃ i : Nat, i + q = D1.uns.length ∧ α 18 = .int .i64 (i : Nat) ∧ α 17 = .int .i64 (D1.uns.length : Nat) ∧ α 16 = U ∧ α 0 = .pointer (some ⟨p, 0, none⟩) ∧ H1.length ≤ G.length ∧ (∀ j, j < H1.length → j ≠ s → hget G j = hget H1 j) ∧
      hget G s = some ⟨fc (lateOf D1.firm (D1.uns.take i)), 86, some 256⟩) D1.uns.length ?_ ?_
    · exact ⟨0, by omega, by (first | (simp [put_at, put_none, fr0_at]; done) | rfl), by (first | (simp [put_at, put_none, fr0_at]; done) | rfl), by (first | (simp [put_at, put_none, fr0_at]; done) | rfl), by (first | (simp [put_at, put_none, fr0_at]; done) | rfl), Nat.le_refl _, fun _ _ _ => rfl, by rw [List.take_zero]; exact hs0⟩
    rintro q α G ⟨i, hiq, h18, h17, h16, h0, hgl, hgo, hgs⟩
    have hgp : hget G p = _ := (hgo p hplt hps).trans hp
    refine aw_seq ?_
    (refine aw_ops (by kernel_rfl) (fun K hK => ?_); simp (disch := first | omega | (simp only [lnS]; try omega; done)) [-getElem?_pos, -getElem?_neg, h18, h17]; refine hK _ _ ?_; clear hK K)
    refine aw_seq ?_
    by_cases hi : i < D1.uns.length
    · refine aw_t (by (first | (simp [eval_tmp, put_at, hi]; done) | (simp [eval_tmp, put_at, hi]; omega))) (by kernel_rfl) ?_
      refine aw_skip ?_
      refine aw_seq ?_
      refine aw_block ?_
      obtain ⟨w, hw⟩ : ∃ w, D1.uns[i]? = some w := ⟨_, List.getElem?_eq_getElem hi⟩
      have hwm := ho.uns w (List.mem_of_getElem? hw)
      have hwm2 := hwm.2
      have hwm1 := hwm.1
      obtain ⟨u, hU, hu, hFU⟩ := h.hu.slice (by intro e; rw [e] at hul; simp at hul; omega) (by omega) hul
      subst hU
      have hus : u ≠ s := fun e => h.fu.2.1 (by rw [hFU, e]; simp)
      have hgu : hget G u = _ := (hgo u (hget_lt hu) hus).trans hu
      have hrow := uc_get (fun w hw => (ho.uns w hw).2) hw
      have hst : (sv w.2).take 256 = sv w.2 := List.take_of_length_le (by simp [hwm2])
      have hsz : (sv w.2).length = 256 := by simp [hwm2]
      have hset0 : ∀ x : Value, setR (x :: iv .u8 (zl 256)) 1 (sv w.2) = x :: sv w.2 := fun x => by
        have := setR_right [x] (iv .u8 (zl 256)) (sv w.2) 0 (by simp [hwm2])
        rw [setR_all _ _ (by simp [hwm2])] at this
        exact this
      have hgb : i * 257 + 257 ≤ (uc D1.uns).length := by rw [hul]; omega
      refine aw_seq ?_
      (refine aw_ops (by kernel_rfl) (fun K hK => ?_); simp (disch := first | omega | (simp only [lnS]; try omega; done)) [-getElem?_pos, -getElem?_neg, h18, h17, h16, hgu, hrow, hset0, hsz, hst]; refine hK _ _ ?_; clear hK K)
      have hgs' := hget_lt hgs
      have hgp' := hget_lt hgp
      have hrl := rows_take ho i
      have hll : (lateOf D1.firm (D1.uns.take i)).length = D1.firm.length := late_len _ _
      have hfl := fc_len hrl
      have hfs := fc_set hrl (by omega) hwm2 (k := w.1)
      have hlt := late_take (firm := D1.firm) hw
      generalize lateOf D1.firm (D1.uns.take i) = L0 at *
      (refine aw_plan [] [] [0, 1, 2, 3, 4, 5, 6, 7, 8] 9 1 (by kernel_rfl) (by kernel_rfl) (by kernel_rfl) (fun K hK => ?_)); simp only [sel, List.getElem?_cons_succ, List.getElem?_cons_zero, List.drop_succ_cons, List.drop_zero]; simp (disch := first | omega | (simp only [lnS]; try omega; done)) [-getElem?_pos, -getElem?_neg, h0, hgp, hgs, hsz, hst, hfl, hfs, hga, hga0, sga, sga0, PL_nil, PL_cons, PLc_val, PLc_new, stepP_t, stepP_f, stepPC_n, stepPC_s, stepPX_s, stepPX_n, stepPA_t, stepPA_c, stepPA_l, stepPN_s, allocOp, reloc_sl, reloc_ptr, List.map_cons, List.map_nil, List.nil_append, List.append_assoc, List.cons_append, Nat.add_assoc]
      refine hK _ _ ?_; clear hK K
      (refine aw_ops (by kernel_rfl) (fun K hK => ?_); simp (disch := first | omega | (simp only [lnS]; try omega; done)) [-getElem?_pos, -getElem?_neg, h18]; refine hK _ _ ?_; clear hK K)
      refine ⟨q - 1, by omega, i + 1, by omega, by (first | (simp [put_at, put_none, fr0_at]; done) | rfl), by (first | (simp [put_at, put_none, fr0_at, h17]; done) | rfl), by (first | (simp [put_at, put_none, fr0_at, h16]; done) | rfl), by (first | (simp [put_at, put_none, fr0_at, h0]; done) | rfl), by simp; omega, fun j hj hjs => ?_, ?_⟩
      · rw [hget_left (by simp; omega), hget_set_ne (fun e => hjs e.symm)]
        exact hgo j hj hjs
      · rw [hget_left (by simp; omega), hget_set_eq hgs', hlt]
    · obtain rfl : i = D1.uns.length := by omega
      refine aw_f (by (first | (simp [eval_tmp, put_at]; done) | (simp [eval_tmp, put_at]; omega))) (by kernel_rfl) ?_
      refine aw_exit ?_
      have hgp' := hget_lt hgp
      have hgs' := hget_lt hgs
      rw [List.take_length] at hgs
      refine aw_seq ?_
      (refine aw_ops (by kernel_rfl) (fun K hK => ?_); simp (disch := first | omega | (simp only [lnS]; try omega; done)) [-getElem?_pos, -getElem?_neg, h0, hgp]; refine hK _ _ ?_; clear hK K)
      refine aw_seq ?_
      (refine aw_ops (by kernel_rfl) (fun K hK => ?_); simp (disch := first | omega | (simp only [lnS]; try omega; done)) [-getElem?_pos, -getElem?_neg]; refine hK _ _ ?_; clear hK K)
      (refine aw_ret ?_; simp (disch := first | omega | (simp only [lnS]; try omega; done)) [-getElem?_pos, -getElem?_neg, thenQ_ret, scopeQ_ret, inBlockQ_ret, RQ, resL, resV, e1, e2])
      refine ⟨[p, s, l], ⟨⟨?_, ?_, ?_, fun w hw => (by cases hw), ho.fuse, by simp⟩, s, l, .slice none 0 0, [], rfl, ⟨?_, ?_, ?_, .inl ⟨rfl, rfl, rfl⟩, hps, hpl, hsl, by simp⟩⟩, hfr1.trans ⟨by simp; omega, fun j hj hnj => ?_, fun j hj => .inl (by simp only [List.mem_cons, List.not_mem_nil, or_false] at hj ⊢; rcases hj with h1 | h1 | h1 <;> simp [h1])⟩⟩
      · simp only [DM.late, late_len]; exact ho.one
      · simp only [DM.late, late_len]; exact ho.most
      · exact late_rows ho.rows (fun w hw => (ho.uns w hw).2)
      · rw [hget_set_eq hgp']; simp only [DM.late, late_len]
      · rw [hget_set_ne hps, hgs]; rfl
      · rw [hget_set_ne hpl, hgo l hllt (fun e => hsl e.symm), hl0]; rfl
      · simp only [List.mem_cons, not_or] at hnj
        rw [hget_set_ne (fun e => hnj.1 e.symm), hgo j hj hnj.2.1]
/-- How much of a write a crash keeps. -/
def keptN (ks : List Int) (i : Nat) : Nat := if i < ks.length then ((ks.getD i 0) % 5).toNat * 64 else 0
def crF (firm : List ByteArray) (uns : List (Nat × ByteArray)) (ks : List Int) : Nat → List ByteArray
  | 0 => firm
  | i + 1 => match uns[i]? with
    | some w => (crF firm uns ks i).set w.1 (w.2.extract 0 (keptN ks i) ++ ((crF firm uns ks i).getD w.1 ⟨#[]⟩).extract (keptN ks i) 256)
    | none => crF firm uns ks i
def DM.crash (D : DM) (ks : List Int) : DM := ⟨crF D.firm D.uns ks D.uns.length, [], -1, false⟩
theorem keptN_bd (ks : List Int) (i : Nat) : keptN ks i ≤ 256 := by unfold keptN; split <;> omega
theorem crF_ok {firm : List ByteArray} {uns : List (Nat × ByteArray)} {ks : List Int} (hf : ∀ r ∈ firm, r.size = 256) (hu : ∀ w ∈ uns, w.1 < firm.length ∧ w.2.size = 256) : ∀ i, (crF firm uns ks i).length = firm.length ∧ ∀ r ∈ crF firm uns ks i, r.size = 256 := by
  intro i
  induction i with
  | zero => exact ⟨rfl, hf⟩
  | succ i ih =>
    unfold crF
    cases hw : uns[i]? with
    | none => exact ih
    | some w =>
      have hwm := hu w (List.mem_of_getElem? hw)
      have hk := keptN_bd ks i
      refine ⟨by rw [List.length_set]; exact ih.1, fun r hr => ?_⟩
      rcases mem_set hr with hr | rfl
      · exact ih.2 r hr
      · have : ((crF firm uns ks i).getD w.1 ⟨#[]⟩).size = 256 := by
          rw [List.getD_eq_getElem?_getD, List.getElem?_eq_getElem (by omega)]
          exact ih.2 _ (List.getElem_mem _)
        rw [ByteArray.size_append, ByteArray.size_extract, ByteArray.size_extract, this, hwm.2]
        omega
theorem crash_ac (h : Dk H p F D) (hn : ∀ j ∈ F, nro ≤ j) (hnl : nro ≤ H.length) {kv : Value} {ks : List Int} (hk : SlS H F kv (iv .u8 ks)) (hkb : By ks) :
    AC Tryz.prog nro γ 17 #[.pointer (some ⟨p, 0, none⟩), kv] H (fun v' H' => ∃ F', Dk H' p F' (D.crash ks) ∧ Fr H H' F F') := by
  obtain ⟨ho, s, l, U, FU, rfl, h⟩ := h
  have hp := h.hp
  have hs0 := h.hs
  have hl0 := h.hl
  have hplt := hget_lt hp
  have hslt := hget_lt hs0
  have hllt := hget_lt hl0
  have hnp : nro ≤ p := hn p (by simp)
  have hns : nro ≤ s := hn s (by simp)
  have hnl : nro ≤ l := hn l (by simp)
  have hps := h.ps
  have hpl := h.pl
  have hsl := h.sl
  have hul := uc_len (fun w hw => (ho.uns w hw).2)
  have hxl := h.hu.len (P := Tryz.prog) (t := 59) (by simp) hul (by omega)
  have hfew := ho.few
  have hkl := fun (G : AH) (hG : ∀ j, j < H.length → j ∉ p :: s :: l :: FU → hget G j = hget H j) => (hk G hG).len (P := Tryz.prog) (t := 37) (e := 5) (by simp)
  have hkl0 := hkl H (fun _ _ _ => rfl)
  rw [iv_length] at hkl0
  have hno : notTuple kv = true := by rcases hk.now with ⟨a, rfl, _⟩ | ⟨j, off, k, rfl, _⟩ <;> rfl
  refine ac_of_aw Tryz.func17 rfl Tryz.ntmps17 Tryz.results17 (by simp) ?_
  refine aw_seq ?_
  refine aw_seq ?_
  (refine aw_ops (by kernel_rfl) (fun K hK => ?_); simp (disch := first | omega | (simp only [lnS]; try omega; done)) [-getElem?_pos, -getElem?_neg]; refine hK _ _ ?_; clear hK K)
  refine aw_f (by (first | (simp [eval_tmp, put_at]; done) | (simp [eval_tmp, put_at]; omega))) (by kernel_rfl) ?_
  refine aw_skip ?_
  refine aw_seq ?_
  refine aw_seq ?_
  (refine aw_ops (by kernel_rfl) (fun K hK => ?_); simp (disch := first | omega | (simp only [lnS]; try omega; done)) [-getElem?_pos, -getElem?_neg, hp, -xlen, hxl]; refine hK _ _ ?_; clear hK K)
  refine aw_block ?_
  refine aw_loop (fun q α G => ∃ i : Nat, i + q = D.uns.length ∧ α 14 = .int .i64 (i : Nat) ∧ α 13 = .int .i64 (D.uns.length : Nat) ∧ α 12 = U ∧ α 1 = kv ∧ α 0 = .pointer (some ⟨p, 0, none⟩) ∧ H.length ≤ G.length ∧ (∀ j, j < H.length → j ≠ s → hget G j = hget H j) ∧
    hget G s = some ⟨fc (crF D.firm D.uns ks i), 86, some 256⟩) D.uns.length ?_ ?_
  · exact ⟨0, by omega, by (first | (simp [put_at, put_none, fr0_at]; done) | rfl), by (first | (simp [put_at, put_none, fr0_at]; done) | rfl), by (first | (simp [put_at, put_none, fr0_at]; done) | rfl), by (first | (simp [put_at, put_none, fr0_at]; done) | rfl), by (first | (simp [put_at, put_none, fr0_at]; done) | rfl), Nat.le_refl _, fun _ _ _ => rfl, hs0⟩
  rintro q α G ⟨i, hiq, h14, h13, h12, h1, h0, hgl, hgo, hgs⟩
  have hgp : hget G p = _ := (hgo p hplt hps).trans hp
  refine aw_seq ?_
  (refine aw_ops (by kernel_rfl) (fun K hK => ?_); simp (disch := first | omega | (simp only [lnS]; try omega; done)) [-getElem?_pos, -getElem?_neg, h14, h13]; refine hK _ _ ?_; clear hK K)
  refine aw_seq ?_
  by_cases hi : i < D.uns.length
  · refine aw_t (by (first | (simp [eval_tmp, put_at, hi]; done) | (simp [eval_tmp, put_at, hi]; omega))) (by kernel_rfl) ?_
    refine aw_skip ?_
    refine aw_seq ?_
    refine aw_block ?_
    obtain ⟨w, hw⟩ : ∃ w, D.uns[i]? = some w := ⟨_, List.getElem?_eq_getElem hi⟩
    have hwm := ho.uns w (List.mem_of_getElem? hw)
    have hwm2 := hwm.2
    have hwm1 := hwm.1
    obtain ⟨u, hU, hu, hFU⟩ := h.hu.slice (by intro e; rw [e] at hul; simp at hul; omega) (by omega) hul
    subst hU
    have hus : u ≠ s := fun e => h.fu.2.1 (by rw [hFU, e]; simp)
    have hgu : hget G u = _ := (hgo u (hget_lt hu) hus).trans hu
    have hrow := uc_get (fun w hw => (ho.uns w hw).2) hw
    have hst : (sv w.2).take 256 = sv w.2 := List.take_of_length_le (by simp [hwm2])
    have hsz : (sv w.2).length = 256 := by simp [hwm2]
    have hset0 : ∀ x : Value, setR (x :: iv .u8 (zl 256)) 1 (sv w.2) = x :: sv w.2 := fun x => by
      have := setR_right [x] (iv .u8 (zl 256)) (sv w.2) 0 (by simp [hwm2])
      rw [setR_all _ _ (by simp [hwm2])] at this
      exact this
    have hgb : i * 257 + 257 ≤ (uc D.uns).length := by rw [hul]; omega
    refine aw_seq ?_
    (refine aw_ops (by kernel_rfl) (fun K hK => ?_); simp (disch := first | omega | (simp only [lnS]; try omega; done)) [-getElem?_pos, -getElem?_neg, h14, h13, h12, hgu, hrow, hset0, hsz, hst]; refine hK _ _ ?_; clear hK K)
    refine aw_seq ?_
    (refine aw_ops (by kernel_rfl) (fun K hK => ?_); simp (disch := first | omega | (simp only [lnS]; try omega; done)) [-getElem?_pos, -getElem?_neg]; refine hK _ _ ?_; clear hK K)
    refine aw_seq ?_
    refine aw_seq ?_
    (refine aw_ops (by kernel_rfl) (fun K hK => ?_); simp (disch := first | omega | (simp only [lnS]; try omega; done)) [-getElem?_pos, -getElem?_neg, h1, -xlen, hkl0]; refine hK _ _ ?_; clear hK K)
    have hkb2 := hkb.get i
    have hkn := keptN_bd ks i
    have hkne : keptN ks i = if i < ks.length then ((ks.getD i 0) % 5).toNat * 64 else 0 := rfl
    refine aw_cut (fun α G2 => α 6 = .int .i64 (keptN ks i : Nat) ∧ α 5 = .pointer (some ⟨G.length, 0, none⟩) ∧ α 14 = .int .i64 (i : Nat) ∧ α 13 = .int .i64 (D.uns.length : Nat) ∧ α 12 = .slice (some ⟨u, 0, none⟩) D.uns.length D.uns.length ∧ α 1 = kv ∧ α 0 = .pointer (some ⟨p, 0, none⟩) ∧
      G2 = G ++ [some ⟨.int .i64 (w.1 : Nat) :: sv w.2, 88, none⟩]) ?_ ?_
    · by_cases hik : i < ks.length
      · refine aw_t (by (first | (simp [eval_tmp, put_at, hik]; done) | (simp [eval_tmp, put_at, hik]; omega))) (by kernel_rfl) ?_
        have hkG := hk G (fun j hj hnj => hgo j hj (fun e => hnj (by simp [e])))
        obtain ⟨q1, hq1, hq2⟩ := (hkG.app [some ⟨.int .i64 (w.1 : Nat) :: sv w.2, 88, none⟩]).cell (P := Tryz.prog) (t := 37) (e := 5) (i := i) (x := .int .u8 (ks.getD i 0)) (by simp) (by simp) (by simp [agI]) (by simp [okI]) (iv_getN _ _ _ hik)
        generalize ks.getD i 0 = kb at *
        have hkz : (((kb % 5).toNat * 64 : Nat) : Int) = kb % 5 * 64 := by omega
        rw [if_pos hik] at hkne
        (refine aw_ops (by kernel_rfl) (fun K hK => ?_); simp (disch := first | omega | (simp only [lnS]; try omega; done)) [-getElem?_pos, -getElem?_neg, h1, -xindexAddr, -xload, hq1, hq2]; refine hK _ _ ?_; clear hK K)
        exact ⟨by simp [put_at, hkne]; omega, by (first | (simp [put_at, put_none, fr0_at]; done) | rfl), by (first | (simp [put_at, put_none, fr0_at, h14]; done) | rfl), by (first | (simp [put_at, put_none, fr0_at, h13]; done) | rfl), by (first | (simp [put_at, put_none, fr0_at, h12]; done) | rfl), by (first | (simp [put_at, put_none, fr0_at, h1]; done) | rfl), by (first | (simp [put_at, put_none, fr0_at, h0]; done) | rfl), rfl⟩
      · refine aw_f (by (first | (simp [eval_tmp, put_at, hik]; done) | (simp [eval_tmp, put_at, hik]; omega))) (by kernel_rfl) ?_
        refine aw_skip ?_
        rw [if_neg hik] at hkne
        exact ⟨by simp [put_at, hkne], by (first | (simp [put_at, put_none, fr0_at]; done) | rfl), by (first | (simp [put_at, put_none, fr0_at, h14]; done) | rfl), by (first | (simp [put_at, put_none, fr0_at, h13]; done) | rfl), by (first | (simp [put_at, put_none, fr0_at, h12]; done) | rfl), by (first | (simp [put_at, put_none, fr0_at, h1]; done) | rfl), by (first | (simp [put_at, put_none, fr0_at, h0]; done) | rfl), rfl⟩
    clear h14 h13 h12 h1 h0
    rintro α G2 ⟨h6, h5, h14, h13, h12, h1, h0, rfl⟩
    have hgs' := hget_lt hgs
    have hgp' := hget_lt hgp
    obtain ⟨hll, hrl⟩ := crF_ok (ks := ks) ho.rows ho.uns i
    have hfl := fc_len hrl
    have hL1 : crF D.firm D.uns ks (i + 1) = (crF D.firm D.uns ks i).set w.1 (w.2.extract 0 (keptN ks i) ++ ((crF D.firm D.uns ks i).getD w.1 ⟨#[]⟩).extract (keptN ks i) 256) := by
      rw [crF, hw]
    have hq : (crF D.firm D.uns ks i)[w.1]? = some ((crF D.firm D.uns ks i).getD w.1 ⟨#[]⟩) := by
      rw [List.getD_eq_getElem?_getD, List.getElem?_eq_getElem (by omega)]; rfl
    have hfs := fc_part hrl hq hwm2 hkn
    rw [hrl _ (List.mem_of_getElem? hq), ← hL1] at hfs
    have htl : ((sv w.2).take (keptN ks i)).length = keptN ks i := by rw [List.length_take, hsz]; omega
    have htt : ((sv w.2).take (keptN ks i)).take (keptN ks i) = (sv w.2).take (keptN ks i) := List.take_of_length_le (by omega)
    clear hL1 hkne
    generalize crF D.firm D.uns ks i = L0 at *
    generalize hLL : crF D.firm D.uns ks (i + 1) = L1 at *
    generalize keptN ks i = kn at *
    (refine aw_plan [] [] [0, 1, 2, 3, 4, 5, 6, 7, 8, 9, 10, 11] 12 1 (by kernel_rfl) (by kernel_rfl) (by kernel_rfl) (fun K hK => ?_)); simp only [sel, List.getElem?_cons_succ, List.getElem?_cons_zero, List.drop_succ_cons, List.drop_zero]; simp (disch := first | omega | (simp only [lnS]; try omega; done)) [-getElem?_pos, -getElem?_neg, h0, h5, h6, hgp, hgs, hsz, hst, hfl, hfs, htl, htt, hga, hga0, sga, sga0, PL_nil, PL_cons, PLc_val, PLc_new, stepP_t, stepP_f, stepPC_n, stepPC_s, stepPX_s, stepPX_n, stepPA_t, stepPA_c, stepPA_l, stepPN_s, allocOp, reloc_sl, reloc_ptr, List.map_cons, List.map_nil, List.nil_append, List.append_assoc, List.cons_append, Nat.add_assoc]
    refine hK _ _ ?_; clear hK K
    (refine aw_ops (by kernel_rfl) (fun K hK => ?_); simp (disch := first | omega | (simp only [lnS]; try omega; done)) [-getElem?_pos, -getElem?_neg, h14]; refine hK _ _ ?_; clear hK K)
    refine ⟨q - 1, by omega, i + 1, by omega, by (first | (simp [put_at, put_none, fr0_at]; done) | rfl), by (first | (simp [put_at, put_none, fr0_at, h13]; done) | rfl), by (first | (simp [put_at, put_none, fr0_at, h12]; done) | rfl), by (first | (simp [put_at, put_none, fr0_at, h1]; done) | rfl), by (first | (simp [put_at, put_none, fr0_at, h0]; done) | rfl), by simp; omega, fun j hj hjs => ?_, ?_⟩
    · rw [hget_left (by simp; omega), hget_set_ne (fun e => hjs e.symm)]
      exact hgo j hj hjs
    · rw [hget_left (by simp; omega), hget_set_eq hgs', hLL]
  · obtain rfl : i = D.uns.length := by omega
    refine aw_f (by (first | (simp [eval_tmp, put_at]; done) | (simp [eval_tmp, put_at]; omega))) (by kernel_rfl) ?_
    refine aw_exit ?_
    have hgp' := hget_lt hgp
    have hgs' := hget_lt hgs
    have hgl2 : hget G l = _ := (hgo l hllt (fun e => hsl e.symm)).trans hl0
    have hgl' := hget_lt hgl2
    obtain ⟨hll, hrl⟩ := crF_ok (ks := ks) ho.rows ho.uns D.uns.length
    have hlr : ∀ r ∈ D.late, r.size = 256 := late_rows ho.rows (fun w hw => (ho.uns w hw).2)
    have hlateL : D.late.length = D.firm.length := late_len _ _
    have hf1 := fc_len hrl
    have hf2 := fc_len hlr
    rw [hlateL] at hf2
    rw [hll] at hf1
    have hcr : D.crash ks = ⟨crF D.firm D.uns ks D.uns.length, [], -1, false⟩ := rfl
    rw [hcr]
    generalize crF D.firm D.uns ks D.uns.length = L0 at *
    have htk : (fc L0).take (D.firm.length * 256) = fc L0 := List.take_of_length_le (by omega)
    have hsa : setR (fc D.late) 0 (fc L0) = fc L0 := setR_all _ _ (by omega)
    refine aw_seq ?_
    (refine aw_plan [] [] [0, 1, 2, 3, 4, 5, 6, 7] 8 1 (by kernel_rfl) (by kernel_rfl) (by kernel_rfl) (fun K hK => ?_)); simp only [sel, List.getElem?_cons_succ, List.getElem?_cons_zero, List.drop_succ_cons, List.drop_zero]; simp (disch := first | omega | (simp only [lnS]; try omega; done)) [-getElem?_pos, -getElem?_neg, h0, hgp, hgs, hgl2, hf1, hf2, htk, hsa, PL_nil, PL_cons, PLc_val, PLc_new, stepP_t, stepP_f, stepPC_n, stepPC_s, stepPX_s, stepPX_n, stepPA_t, stepPA_c, stepPA_l, stepPN_s, allocOp, reloc_sl, reloc_ptr, List.map_cons, List.map_nil, List.nil_append, List.append_assoc, List.cons_append, Nat.add_assoc]
    refine hK _ _ ?_; clear hK K
    (refine aw_ops (by kernel_rfl) (fun K hK => ?_); simp (disch := first | omega | (simp only [lnS]; try omega; done)) [-getElem?_pos, -getElem?_neg, h0, hgp]; refine hK _ _ ?_; clear hK K)
    refine ⟨_, _, rfl, rfl, [p, s, l], ⟨⟨by simp only [hll]; exact ho.one, by simp only [hll]; exact ho.most, hrl, fun w hw => (by cases hw), by simp, by simp⟩, s, l, .slice none 0 0, [], rfl, ⟨?_, ?_, ?_, .inl ⟨rfl, rfl, rfl⟩, hps, hpl, hsl, by simp⟩⟩, ⟨by simp; omega, fun j hj hnj => ?_, fun j hj => .inl (by simp only [List.mem_cons, List.not_mem_nil, or_false] at hj ⊢; rcases hj with h1 | h1 | h1 <;> simp [h1])⟩⟩
    · rw [hget_set_eq (by simpa using hgp')]; simp only [hll]
    · rw [hget_set_ne hps, hget_set_ne (fun e => hsl e.symm)]; exact hgs
    · rw [hget_set_ne hpl, hget_set_eq hgl']; rfl
    · simp only [List.mem_cons, not_or] at hnj
      rw [hget_set_ne (fun e => hnj.1 e.symm), hget_set_ne (fun e => hnj.2.2.1 e.symm), hgo j hj hnj.2.1]
end
end
section
theorem SlV.stab {H : AH} {v : Value} {cells : List Value} (h : SlV H v cells) (F : List Nat) (hF : ∀ j ∈ F, H.length ≤ j) (L : AH) : SlS (H ++ L) F v cells := by
  intro G hg
  rcases h with h | ⟨j, off, k, h1, h2, h3⟩
  · exact .inl h
  · have hj := hget_lt h2
    refine .inr ⟨j, off, k, h1, ?_, h3⟩
    rw [hg j (by simp; omega) (fun hm => by have := hF j hm; omega)]
    exact hget_left' h2
attribute [local simp] wb_bool wb_undef XL_nil XL_cons XLc_val XLc_call step1_eq stepW_t stepW_f stepC_n stepC_s stepX_s stepX_n stepN_s calleeX oneV xop_eq xopR_s xopR_n wantedA_eq wantedG_n wantedG_s plain1_int plain1_bool plain1_string bits_i64 bits_u64 bits_u32 bits_u16 bits_u8 xeqA xagg xcmp xarr allK_iv num_iv calleeOf xread xeff xbin xint xnil xun xstr xload xconv xpart xfield xfieldAddr xindexAddr xindex bnd asInt? xslice xlen xmin xmax xbuild xfill xappend xapp2 xappstr xappmk xcap xcopy xcells eval_tmp eval_const put_at put_none fr0_at cells_agg cells_int cells_bool cells_string cells_ptr cells_slice notTuple tab iv_all hget_app hget_app0 hget_cons0 hget_cons set_app set_app0 setR setR_one QL_nil QL_cons QLc_val stepQ_t stepQ_f stepQC_n stepQC_s stepQX_s SL_nil SL_cons SLc_val stepS_t stepS_f ltT ltF leT leF eqT eqF ltTn ltFn leTn leFn eqTn eqFn beqT beqF bneT bneF wi64 wu64 wu32 wu16 wu8 tmodP tdivP hgetL hgetNe hgetEq setL nums_def nums_len Nat.succ_le_of_lt List.getElem?_cons_zero List.getElem?_cons_succ Option.getD_some Int.toNat_add Int.toNat_mul agB agI agS agP agL agA okB okI okS okP okSl okA
theorem written_rc {H : AH} {γ : Nat → Option Nat} {v : Value} {ps : List ByteArray} (hv : SlV H v (ps.map .string)) (hps : ∀ s ∈ ps, s.size ≤ 3000) (hlen : ps.length ≤ 29) :
    AC Tryz.prog H.length γ 37 #[v] H (fun v' _ => v' = .string (strOfNums (textsB ps))) := by
  have hno : notTuple v = true := by rcases hv with ⟨a, rfl, _⟩ | ⟨j, off, k, rfl, _⟩ <;> rfl
  refine ac_of_aw Tryz.func37 rfl Tryz.ntmps37 Tryz.results37 (by simp) ?_
  refine aw_seq ?_
  (refine aw_ops (by kernel_rfl) (fun K hK => ?_); simp (disch := first | omega | (simp only [lnS]; try omega; done)) [-getElem?_pos, -getElem?_neg]; refine hK _ _ ?_; clear hK K)
  refine aw_seq ?_
  (refine aw_ops (by kernel_rfl) (fun K hK => ?_); simp (disch := first | omega | (simp only [lnS]; try omega; done)) [-getElem?_pos, -getElem?_neg]; refine hK _ _ ?_; clear hK K)
  have hw : Wr (H ++ [some ⟨[.slice none 0 0], 109, none⟩]) H.length [H.length] [] := ⟨.slice none 0 0, [], rfl, by rw [hget_app0]; rfl, .inl ⟨rfl, rfl, rfl⟩, by simp⟩
  refine aw_seq ?_
  refine aw_ops (by kernel_rfl) (fun K hK => ?_)
  simp (disch := first | omega | (simp only [lnS]; try omega; done)) [-getElem?_pos, -getElem?_neg, -notTuple, hno]
  refine ⟨by kernel_rfl, AC.mono (texts_ac hw (by simp) (by simp) (hv.stab [H.length] (by simp) _) hps (by simp; omega)) ?_⟩
  rintro v1 H1 ⟨F1, hw1, hf1⟩
  rw [List.nil_append] at hw1
  try simp (disch := first | omega | (simp only [lnS]; try omega; done)) [-getElem?_pos, -getElem?_neg]
  refine hK _ _ ?_; clear hK K
  refine aw_seq ?_
  refine aw_ops (by kernel_rfl) (fun K hK => ?_)
  simp (disch := first | omega | (simp only [lnS]; try omega; done)) [-getElem?_pos, -getElem?_neg]
  refine ⟨by kernel_rfl, AC.mono (wstring_ac hw1) ?_⟩
  rintro v2 H2 ⟨rfl, rfl⟩
  try simp (disch := first | omega | (simp only [lnS]; try omega; done)) [-getElem?_pos, -getElem?_neg]
  refine hK _ _ ?_; clear hK K
  (refine aw_ret ?_; simp (disch := first | omega | (simp only [lnS]; try omega; done)) [-getElem?_pos, -getElem?_neg, thenQ_ret, scopeQ_ret, inBlockQ_ret, RQ, resL, resV])
theorem eval_fn2 (γ : Nat → Option Nat) (α : Fm) (f : FuncId) : α.eval γ (.func f) = .func (.func f) #[] #[] := rfl
def fnV (f : FuncId) : Value := .func (.func f) #[] #[]
theorem tooLong1_vc (s : ByteArray) (hs : s.size ≤ 60000) : VC Tryz.prog 62 #[.string s] (.bool false) := by
  refine vc_of_ac (by simp [pv_iv, pv_int, pv_bool, pv_string, pv_tup2, pv_tup3, iv_plain, p2_int, p2_bool, p2_string]) (by simp [pv_iv, pv_int, pv_bool, pv_string, pv_tup2, pv_tup3, iv_plain, p2_int, p2_bool, p2_string]) ?_
  refine ac_of_aw Tryz.func62 rfl Tryz.ntmps62 Tryz.results62 (by simp) ?_
  refine aw_seq ?_
  (refine aw_ops (by kernel_rfl) (fun K hK => ?_); simp (disch := first | omega | (simp only [lnS]; try omega; done)) [-getElem?_pos, -getElem?_neg]; refine hK _ _ ?_; clear hK K)
  refine aw_seq ?_
  have : ¬ 60000 < s.size := by omega
  (refine aw_ops (by kernel_rfl) (fun K hK => ?_); simp (disch := first | omega | (simp only [lnS]; try omega; done)) [-getElem?_pos, -getElem?_neg, this]; refine hK _ _ ?_; clear hK K)
  (refine aw_ret ?_; simp (disch := first | omega | (simp only [lnS]; try omega; done)) [-getElem?_pos, -getElem?_neg, thenQ_ret, scopeQ_ret, inBlockQ_ret, RQ, resL, resV])
theorem SlV.atS {P : Program} {H : AH} {v : Value} {ps : List ByteArray} {t e : TypeId} (h : SlV H v (ps.map .string)) (ht : und P t = .slice e) (hs : szt P e = 1) (he : isAggD (und P e) = false) (ho : okD (und P e) = true) {i : Nat} {s : ByteArray} (hi : ps[i]? = some s) :
    ∃ p, xindexAddr P t v (.int .i64 (i : Nat)) = some p ∧ xload P e p H = some (.string s) := by
  have hil : i < ps.length := (List.getElem?_eq_some_iff.1 hi).1
  rcases h with ⟨a, rfl, h0⟩ | ⟨j, off, b, rfl, hb, hc⟩
  · have : ps = [] := by simpa using h0
    subst this
    simp at hil
  · refine ⟨.pointer (some ⟨j, off + i, none⟩), ?_, ?_⟩
    · simp [xindexAddr, ht, hs, bnd, hil]
    · have := hc i (.string s) (by rw [List.getElem?_map, hi]; rfl)
      simp [xload, hb, he, ho, this]
theorem indexFunc_rc {H : AH} {γ : Nat → Option Nat} {v : Value} {ps : List ByteArray} (hv : SlV H v (ps.map .string)) (hps : ∀ s ∈ ps, s.size ≤ 60000) (hlen : ps.length ≤ 1000000) :
    AC Tryz.prog H.length γ 83 #[v, fnV 62] H (fun v' _ => v' = .int .i64 (-1)) := by
  have hno : notTuple v = true := by rcases hv with ⟨a, rfl, _⟩ | ⟨j, off, k, rfl, _⟩ <;> rfl
  have hxl := hv.len (P := Tryz.prog) (t := 36) (e := 9) (by simp)
  rw [List.length_map] at hxl
  refine ac_of_aw Tryz.func83 rfl Tryz.ntmps83 Tryz.results83 (by simp) ?_
  refine aw_seq ?_
  (refine aw_ops (by kernel_rfl) (fun K hK => ?_); simp (disch := first | omega | (simp only [lnS]; try omega; done)) [-getElem?_pos, -getElem?_neg]; refine hK _ _ ?_; clear hK K)
  refine aw_seq ?_
  refine aw_seq ?_
  (refine aw_ops (by kernel_rfl) (fun K hK => ?_); simp (disch := first | omega | (simp only [lnS]; try omega; done)) [-getElem?_pos, -getElem?_neg, -notTuple, hno, -xlen, hxl]; refine hK _ _ ?_; clear hK K)
  refine aw_block ?_
  refine aw_loop (fun q α H' => ∃ i : Nat, i + q = ps.length ∧ α 0 = v ∧ α 1 = fnV 62 ∧ α 7 = .int .i64 (ps.length : Nat) ∧ α 8 = .int .i64 (i : Nat) ∧ H' = H) ps.length ?_ ?_
  · exact ⟨0, by omega, by (first | (simp [put_at, put_none, fr0_at]; done) | rfl), by (first | (simp [put_at, put_none, fr0_at]; done) | rfl), by (first | (simp [put_at, put_none, fr0_at]; done) | rfl), by (first | (simp [put_at, put_none, fr0_at]; done) | rfl), rfl⟩
  rintro q α H' ⟨i, hi, h0, h1, h7, h8, rfl⟩
  refine aw_seq ?_
  by_cases hlt : i < ps.length
  · (refine aw_ops (by kernel_rfl) (fun K hK => ?_); simp (disch := first | omega | (simp only [lnS]; try omega; done)) [-getElem?_pos, -getElem?_neg, h7, h8, hlt]; refine hK _ _ ?_; clear hK K)
    refine aw_seq ?_
    refine aw_t (by (first | (simp [eval_tmp, put_at]; done) | (simp [eval_tmp, put_at]; omega))) (by kernel_rfl) ?_
    refine aw_skip ?_
    refine aw_seq ?_
    refine aw_block ?_
    refine aw_seq ?_
    (refine aw_ops (by kernel_rfl) (fun K hK => ?_); simp (disch := first | omega | (simp only [lnS]; try omega; done)) [-getElem?_pos, -getElem?_neg, h8]; refine hK _ _ ?_; clear hK K)
    obtain ⟨s, hs⟩ : ∃ s, ps[i]? = some s := ⟨_, List.getElem?_eq_getElem hlt⟩
    obtain ⟨p, hp1, hp2⟩ := hv.atS (P := Tryz.prog) (t := 36) (e := 9) (by simp) (by simp) (by simp) (by simp) hs
    refine aw_seq ?_
    refine aw_ops (by kernel_rfl) (fun K hK => ?_)
    simp (disch := first | omega | (simp only [lnS]; try omega; done)) [-getElem?_pos, -getElem?_neg, h0, h1, fnV, -notTuple, hno, -xindexAddr, hp1, -xload, hp2]
    refine ⟨by kernel_rfl, ac_of_vc (by simp [pv_iv, pv_int, pv_bool, pv_string, pv_tup2, pv_tup3, iv_plain, p2_int, p2_bool, p2_string]) (tooLong1_vc s (hps s (List.mem_of_getElem? hs))) ?_⟩
    try simp (disch := first | omega | (simp only [lnS]; try omega; done)) [-getElem?_pos, -getElem?_neg]
    refine hK _ _ ?_; clear hK K
    refine aw_f (by (first | (simp [eval_tmp, put_at]; done) | (simp [eval_tmp, put_at]; omega))) (by kernel_rfl) ?_
    refine aw_skip ?_
    (refine aw_ops (by kernel_rfl) (fun K hK => ?_); simp (disch := first | omega | (simp only [lnS]; try omega; done)) [-getElem?_pos, -getElem?_neg, h8]; refine hK _ _ ?_; clear hK K)
    refine ⟨q - 1, by omega, i + 1, by omega, by (first | (simp [put_at, put_none, fr0_at, h0]; done) | rfl), by (first | (simp [put_at, put_none, fr0_at, h1]; done) | rfl), by (first | (simp [put_at, put_none, fr0_at, h7]; done) | rfl), by (first | (simp [put_at, put_none, fr0_at]; done) | rfl), rfl⟩
  · (refine aw_ops (by kernel_rfl) (fun K hK => ?_); simp (disch := first | omega | (simp only [lnS]; try omega; done)) [-getElem?_pos, -getElem?_neg, h7, h8, hlt]; refine hK _ _ ?_; clear hK K)
    refine aw_seq ?_
    refine aw_f (by (first | (simp [eval_tmp, put_at]; done) | (simp [eval_tmp, put_at]; omega))) (by kernel_rfl) ?_
    refine aw_exit ?_
    refine aw_seq ?_
    (refine aw_ops (by kernel_rfl) (fun K hK => ?_); simp (disch := first | omega | (simp only [lnS]; try omega; done)) [-getElem?_pos, -getElem?_neg]; refine hK _ _ ?_; clear hK K)
    (refine aw_ret ?_; simp (disch := first | omega | (simp only [lnS]; try omega; done)) [-getElem?_pos, -getElem?_neg, thenQ_ret, scopeQ_ret, inBlockQ_ret, RQ, resL, resV])
theorem tooLong_rc {H : AH} {γ : Nat → Option Nat} {v : Value} {ps : List ByteArray} (hv : SlV H v (ps.map .string)) (hps : ∀ s ∈ ps, s.size ≤ 60000) (hlen : ps.length ≤ 1000000) :
    AC Tryz.prog H.length γ 36 #[v] H (fun v' _ => v' = .bool false) := by
  have hno : notTuple v = true := by rcases hv with ⟨a, rfl, _⟩ | ⟨j, off, k, rfl, _⟩ <;> rfl
  have hcon : AC Tryz.prog H.length γ 61 #[v, fnV 62] H (fun v' _ => v' = .bool false) := by
    refine ac_of_aw Tryz.func61 rfl Tryz.ntmps61 Tryz.results61 (by simp) ?_
    refine aw_seq ?_
    (refine aw_ops (by kernel_rfl) (fun K hK => ?_); simp (disch := first | omega | (simp only [lnS]; try omega; done)) [-getElem?_pos, -getElem?_neg]; refine hK _ _ ?_; clear hK K)
    refine aw_seq ?_
    refine aw_ops (by kernel_rfl) (fun K hK => ?_)
    simp (disch := first | omega | (simp only [lnS]; try omega; done)) [-getElem?_pos, -getElem?_neg, fnV, -notTuple, hno]
    refine ⟨by kernel_rfl, ac_of_rc (indexFunc_rc hv hps hlen) (by simp [pv_iv, pv_int, pv_bool, pv_string, pv_tup2, pv_tup3, iv_plain, p2_int, p2_bool, p2_string]) ?_⟩
    simp (disch := first | omega | (simp only [lnS]; try omega; done)) [-getElem?_pos, -getElem?_neg]
    refine hK _ _ ?_; clear hK K
    (refine aw_ret ?_; simp (disch := first | omega | (simp only [lnS]; try omega; done)) [-getElem?_pos, -getElem?_neg, thenQ_ret, scopeQ_ret, inBlockQ_ret, RQ, resL, resV])
  refine ac_of_aw Tryz.func36 rfl Tryz.ntmps36 Tryz.results36 (by simp) ?_
  refine aw_seq ?_
  (refine aw_ops (by kernel_rfl) (fun K hK => ?_); simp (disch := first | omega | (simp only [lnS]; try omega; done)) [-getElem?_pos, -getElem?_neg]; refine hK _ _ ?_; clear hK K)
  refine aw_seq ?_
  refine aw_ops (by kernel_rfl) (fun K hK => ?_)
  simp (disch := first | omega | (simp only [lnS]; try omega; done)) [-getElem?_pos, -getElem?_neg, -notTuple, hno, eval_fn2]
  refine ⟨by kernel_rfl, ac_of_rc hcon (by simp [pv_iv, pv_int, pv_bool, pv_string, pv_tup2, pv_tup3, iv_plain, p2_int, p2_bool, p2_string]) ?_⟩
  try simp (disch := first | omega | (simp only [lnS]; try omega; done)) [-getElem?_pos, -getElem?_neg]
  refine hK _ _ ?_; clear hK K
  (refine aw_ret ?_; simp (disch := first | omega | (simp only [lnS]; try omega; done)) [-getElem?_pos, -getElem?_neg, thenQ_ret, scopeQ_ret, inBlockQ_ret, RQ, resL, resV])
end
section
theorem rdN_short : ∀ (g n : Nat) (l : List Int), (rdN g n l).2.2 = 0 → (rdN g n l).2.1.length < l.length
  | 0, _, l, h => by simp [rdN] at h
  | _ + 1, _, [], h => by simp [rdN] at h
  | g + 1, n, b :: l, h => by
    unfold rdN at h ⊢
    split at h
    · simp at h
    · rename_i h1
      rw [if_neg h1]
      split at h
      · rename_i h2
        rw [if_pos h2]
        simp
      · rename_i h2
        rw [if_neg h2]
        have := rdN_short g _ l h
        simp only [List.length_cons]
        omega
theorem rdNum_short {l : List Int} (h : (rdNum l).2.2 = 0) : (rdNum l).2.1.length < l.length := by
  unfold rdNum at h ⊢
  split
  · rename_i e; exact rdN_short _ _ _ e
  · rename_i e; rw [if_neg e] at h; exact absurd h e
theorem rdText_short {most : Int} {l : List Int} : ((rdText most l).2.2 = 0 ∧ (rdText most l).2.1.length < l.length) ∨ ((rdText most l).2.2 ≠ 0 ∧ (rdText most l).2.1 = l) := by
  unfold rdText
  split
  · rename_i h; exact .inr ⟨h, rfl⟩
  · rename_i h
    split
    · exact .inr ⟨by simp, rfl⟩
    · refine .inl ⟨rfl, ?_⟩
      have h2 : (rdCount most l).2.1.length < l.length := by
        unfold rdCount at h ⊢
        split at h
        · rename_i h3; exact absurd h3 (by simpa using h)
        · rename_i h3
          rw [if_neg h3]
          split at h
          · simp at h
          · rename_i h4
            rw [if_neg h4]
            exact rdNum_short (by simpa using h3)
      rw [List.length_drop]
      omega
theorem rdText_by {most : Int} {l : List Int} (h : By l) : By (rdText most l).2.1 := by
  have := rdCount_by (most := most) h
  unfold rdText
  split
  · exact h
  · split
    · exact h
    · exact this.1.drop _
/-- The records in bytes, if there is nothing else; those that were read already ahead of them. -/
def recsR : Nat → List Int → List ByteArray → Option (List ByteArray)
  | 0, l, acc => if l = [] then some acc else none
  | f + 1, l, acc => if l = [] then some acc else if (rdText 60000 l).2.2 ≠ 0 then none else recsR f (rdText 60000 l).2.1 (acc ++ [strOfNums (rdText 60000 l).1])
attribute [local irreducible] rdText
theorem nt_strJ (s : ByteArray) : notTuple (.string s) = true := rfl
theorem nt_slJ (a : Option Addr) (n c : Nat) : notTuple (.slice a n c) = true := rfl
attribute [local simp] wb_bool wb_undef XL_nil XL_cons XLc_val XLc_call step1_eq stepW_t stepW_f stepC_n stepC_s stepX_s stepX_n stepN_s calleeX oneV xop_eq xopR_s xopR_n wantedA_eq wantedG_n wantedG_s plain1_int plain1_bool plain1_string bits_i64 bits_u64 bits_u32 bits_u16 bits_u8 xeqA xagg xcmp xarr allK_iv num_iv calleeOf xread xeff xbin xint xnil xun xstr xload xconv xpart xfield xfieldAddr xindexAddr xindex bnd asInt? xslice xlen xmin xmax xbuild xfill xappend xapp2 xappstr xappmk xcap xcopy xcells eval_tmp eval_const put_at put_none fr0_at cells_agg cells_int cells_bool cells_string cells_ptr cells_slice notTuple tab iv_all hget_app hget_app0 hget_cons0 hget_cons set_app set_app0 setR setR_one QL_nil QL_cons QLc_val stepQ_t stepQ_f stepQC_n stepQC_s stepQX_s SL_nil SL_cons SLc_val stepS_t stepS_f ltT ltF leT leF eqT eqF ltTn ltFn leTn leFn eqTn eqFn beqT beqF bneT bneF wi64 wu64 wu32 wu16 wu8 tmodP tdivP hgetL hgetNe hgetEq setL nums_def nums_len Nat.succ_le_of_lt List.getElem?_cons_zero List.getElem?_cons_succ Option.getD_some Int.toNat_add Int.toNat_mul agB agI agS agP agL agA okB okI okS okP okSl okA
theorem readRecs_ac {nro : Nat} {H : AH} {γ : Nat → Option Nat} (hnl : nro ≤ H.length) (l : List Int) (hb : By l) (hl : l.length ≤ 400000) :
    AC Tryz.prog nro γ 29 #[.string (strOfNums l)] H (fun v' H' => Low H.length H H' ∧ (recsR l.length l [] = none ∧ v' = .tuple #[.slice none 0 0, .bool false] ∨
      ∃ rs rv FR, recsR l.length l [] = some rs ∧ v' = .tuple #[rv, .bool true] ∧ OwnF H' rv 9 1 (rs.map .string) FR ∧ ∀ j ∈ FR, H.length ≤ j)) := by
  refine ac_of_aw Tryz.func29 rfl Tryz.ntmps29 Tryz.results29 (by simp) ?_
  refine aw_seq ?_
  (refine aw_ops (by kernel_rfl) (fun K hK => ?_); simp (disch := first | omega | (simp only [lnS]; try omega; done)) [-getElem?_pos, -getElem?_neg]; refine hK _ _ ?_; clear hK K)
  refine aw_seq ?_
  (refine aw_ops (by kernel_rfl) (fun K hK => ?_); simp (disch := first | omega | (simp only [lnS]; try omega; done)) [-getElem?_pos, -getElem?_neg]; refine hK _ _ ?_; clear hK K)
  refine aw_seq ?_
  refine aw_ops (by kernel_rfl) (fun K hK => ?_)
  simp (disch := first | omega | (simp only [lnS]; try omega; done)) [-getElem?_pos, -getElem?_neg]
  refine ⟨by kernel_rfl, AC.mono (newreader_ac (nro := nro)) ?_⟩
  rintro _ H1 ⟨rfl, rfl⟩
  try simp (disch := first | omega | (simp only [lnS]; try omega; done)) [-getElem?_pos, -getElem?_neg]
  refine hK _ _ ?_; clear hK K
  have hr0 : hget (H ++ [some (rdC l 0)]) H.length = some (rdC l 0) := by rw [hget_app0]; rfl
  refine aw_seq ?_
  refine aw_seq ?_
  refine aw_ops (by kernel_rfl) (fun K hK => ?_)
  simp (disch := first | omega | (simp only [lnS]; try omega; done)) [-getElem?_pos, -getElem?_neg]
  refine ⟨by kernel_rfl, AC.mono (left_ac (nro := nro) hr0 (by omega)) ?_⟩
  rintro _ H1 ⟨rfl, rfl⟩
  try simp (disch := first | omega | (simp only [lnS]; try omega; done)) [-getElem?_pos, -getElem?_neg]
  refine hK _ _ ?_; clear hK K
  refine aw_block ?_
  refine aw_loop (fun q α G => ∃ (s : List Int) (acc : List ByteArray) (v : Value) (F : List Nat), s.length ≤ q ∧ acc.length + s.length ≤ l.length ∧ recsR q s acc = recsR l.length l [] ∧ By s ∧ α 4 = v ∧ α 5 = .pointer (some ⟨H.length, 0, none⟩) ∧ α 6 = .int .i64 (s.length : Nat) ∧
    hget G H.length = some (rdC s 0) ∧ OwnF G v 9 1 (acc.map .string) F ∧ (∀ j ∈ F, H.length < j) ∧ Low H.length H G) l.length ?_ ?_
  · exact ⟨l, [], .slice none 0 0, [], Nat.le_refl _, by simp, rfl, hb, by (first | (simp [put_at, put_none, fr0_at]; done) | rfl), by (first | (simp [put_at, put_none, fr0_at]; done) | rfl), by (first | (simp [put_at, put_none, fr0_at]; done) | rfl), hr0, .inl ⟨rfl, rfl, rfl⟩, by simp, Low.push (Nat.le_refl _) _⟩
  rintro q α G ⟨s, acc, v, F, hq, hal, hrec, hsb, h4, h5, h6, hrd, hown, hF, hlow⟩
  have hlt := hget_lt hrd
  refine aw_seq ?_
  refine aw_seq ?_
  by_cases hs0 : 0 < s.length
  · (refine aw_ops (by kernel_rfl) (fun K hK => ?_); simp (disch := first | omega | (simp only [lnS]; try omega; done)) [-getElem?_pos, -getElem?_neg, h6, hs0]; refine hK _ _ ?_; clear hK K)
    refine aw_t (by (first | (simp [eval_tmp, put_at]; done) | (simp [eval_tmp, put_at]; omega))) (by kernel_rfl) ?_
    refine aw_skip ?_
    refine aw_seq ?_
    refine aw_block ?_
    refine aw_seq ?_
    refine aw_ops (by kernel_rfl) (fun K hK => ?_)
    have hsh := ownF_shape hown
    simp (disch := first | omega | (simp only [lnS]; try omega; done)) [-getElem?_pos, -getElem?_neg, h4, h5, -notTuple, hsh.1]
    refine ⟨by kernel_rfl, AC.mono (text_ac (most := 60000) hnl hrd hsb (by omega) (by omega)) ?_⟩
    rintro _ G1 ⟨rfl, rfl⟩
    have hsh2 := @rdText_short 60000 s
    have hrb := @rdText_by 60000 s hsb
    obtain ⟨t, s2, e, hr⟩ : ∃ t s2 e, rdText 60000 s = (t, s2, e) := ⟨_, _, _, rfl⟩
    rw [hr] at hsh2 hrb ⊢
    simp only at hsh2 hrb ⊢
    obtain ⟨G2, hG2⟩ : ∃ G2, G2 = G.set H.length (some (rdC s2 e)) := ⟨_, rfl⟩
    rw [← hG2]
    have hl2 : G2.length = G.length := by rw [hG2]; simp
    have hg2 : hget G2 H.length = some (rdC s2 e) := by rw [hG2]; exact hget_set_eq hlt
    have k2 : ∀ j, j ≠ H.length → hget G2 j = hget G j := fun j hj => by rw [hG2]; exact hget_set_ne (Ne.symm hj)
    have hown2 := (hown.low (H' := G2) (fun j hj => k2 j (by have := hF j hj; omega))).low (H' := G2 ++ [some ⟨[.string (strOfNums t)], 9, some 1⟩]) (fun j hj => hget_left (by have := hown.lt j hj; omega))
    obtain ⟨v', G3, hap, ho, hlen, hk⟩ := ownF_append (P := Tryz.prog) (nro := nro) (t := 36) (e := 9) (H := G2 ++ [some ⟨[.string (strOfNums t)], 9, some 1⟩]) (v := v) (x := .slice (some ⟨G2.length, 0, none⟩) 1 1) (sz := 1) (cells := acc.map .string) (news := [.string (strOfNums t)]) (F := F)
      (by simp) (by simp) (by omega) (by simp) hown2 (fun j hj => by have := hF j hj; omega) (fun s h => by cases h) (by simp [xcells, hget_app0, hget_cons0]) (by simp) (by simp) (by simp; omega) (by simp [maxLen]; omega)
    have hsh3 := ownF_shape ho
    simp (disch := first | omega | (simp only [lnS]; try omega; done)) [-getElem?_pos, -getElem?_neg, -notTuple, nt_strJ, nt_slJ, hsh.1, hsh3.1, hsh3.2, -xappend, hap]
    refine hK _ _ ?_; clear hK K
    have hg3 : hget G3 H.length = some (rdC s2 e) := by
      rw [hk _ (by simp; omega) (fun hm => by have := hF _ hm; omega), hget_left (by omega)]
      exact hg2
    have hl3 : G.length ≤ G3.length := by simp at hlen; omega
    have hlow3 : Low H.length H G3 := ⟨fun j hj => by
      rw [hk j (by simp; omega) (fun hm => by have := hF _ hm; omega), hget_left (by omega), k2 j (by omega)]
      exact hlow.1 j hj, by omega⟩
    have hrec2 : ∃ q', q = q' + 1 := ⟨q - 1, by omega⟩
    obtain ⟨q', rfl⟩ := hrec2
    have hsn : s ≠ [] := fun h => by rw [h] at hs0; simp at hs0
    have hunf : recsR (q' + 1) s acc = if e ≠ 0 then none else recsR q' s2 (acc ++ [strOfNums t]) := by
      rw [recsR, if_neg hsn, hr]
    rw [hunf] at hrec
    have hs2l : s2.length ≤ s.length := by
      rcases hsh2 with ⟨_, h⟩ | ⟨_, h⟩
      · omega
      · rw [h]; omega
    refine aw_seq ?_
    refine aw_ops (by kernel_rfl) (fun K hK => ?_)
    simp (disch := first | omega | (simp only [lnS]; try omega; done)) [-getElem?_pos, -getElem?_neg, h5]
    refine ⟨by kernel_rfl, AC.mono (left_ac (nro := nro) hg3 (by omega)) ?_⟩
    rintro _ G4 ⟨rfl, e4⟩
    rw [e4]
    clear e4 G4
    rcases hsh2 with ⟨he, hlt2⟩ | ⟨he, heq⟩
    · have hne : ¬ ((s2.length : Nat) : Int) = (s.length : Nat) := by omega
      simp (disch := first | omega | (simp only [lnS]; try omega; done)) [-getElem?_pos, -getElem?_neg, h6, hne]
      refine hK _ _ ?_; clear hK K
      refine aw_f (by (first | (simp [eval_tmp, put_at]; done) | (simp [eval_tmp, put_at]; omega))) (by kernel_rfl) ?_
      refine aw_skip ?_
      refine aw_ops (by kernel_rfl) (fun K hK => ?_)
      simp (disch := first | omega | (simp only [lnS]; try omega; done)) [-getElem?_pos, -getElem?_neg, h5]
      refine ⟨by kernel_rfl, AC.mono (left_ac (nro := nro) hg3 (by omega)) ?_⟩
      rintro _ G5 ⟨rfl, e5⟩
      rw [e5]
      clear e5 G5
      try simp (disch := first | omega | (simp only [lnS]; try omega; done)) [-getElem?_pos, -getElem?_neg]
      refine hK _ _ ?_; clear hK K
      subst he
      rw [if_neg (by simp)] at hrec
      have ho' : OwnF G3 v' 9 1 ((acc ++ [strOfNums t]).map .string) [G2.length + 1] := by
        rw [List.map_append]
        simpa using ho
      refine ⟨q', by omega, s2, acc ++ [strOfNums t], v', [G2.length + 1], by omega, by simp; omega, hrec, hrb, by (first | (simp [put_at, put_none, fr0_at]; done) | rfl), by (first | (simp [put_at, put_none, fr0_at, h5]; done) | rfl), by (first | (simp [put_at, put_none, fr0_at]; done) | rfl), hg3, ho', by simp; omega, hlow3⟩
    · subst heq
      simp (disch := first | omega | (simp only [lnS]; try omega; done)) [-getElem?_pos, -getElem?_neg, h6]
      refine hK _ _ ?_; clear hK K
      refine aw_t (by (first | (simp [eval_tmp, put_at]; done) | (simp [eval_tmp, put_at]; omega))) (by kernel_rfl) ?_
      refine aw_seq ?_
      (refine aw_ops (by kernel_rfl) (fun K hK => ?_); simp (disch := first | omega | (simp only [lnS]; try omega; done)) [-getElem?_pos, -getElem?_neg]; refine hK _ _ ?_; clear hK K)
      rw [if_pos he] at hrec
      (refine aw_ret ?_; simp (disch := first | omega | (simp only [lnS]; try omega; done)) [-getElem?_pos, -getElem?_neg, thenQ_ret, scopeQ_ret, inBlockQ_ret, RQ, resL, resV])
      exact ⟨hlow3, hrec.symm⟩
  · (refine aw_ops (by kernel_rfl) (fun K hK => ?_); simp (disch := first | omega | (simp only [lnS]; try omega; done)) [-getElem?_pos, -getElem?_neg, h6, hs0]; refine hK _ _ ?_; clear hK K)
    refine aw_f (by (first | (simp [eval_tmp, put_at]; done) | (simp [eval_tmp, put_at]; omega))) (by kernel_rfl) ?_
    refine aw_exit ?_
    refine aw_seq ?_
    have hsh := ownF_shape hown
    (refine aw_ops (by kernel_rfl) (fun K hK => ?_); simp (disch := first | omega | (simp only [lnS]; try omega; done)) [-getElem?_pos, -getElem?_neg, h4, -notTuple, hsh.1]; refine hK _ _ ?_; clear hK K)
    have hsn : s = [] := List.eq_nil_of_length_eq_zero (by omega)
    have hrec2 : recsR l.length l [] = some acc := by
      rw [← hrec, hsn]
      cases q <;> simp [recsR]
    (refine aw_ret ?_; simp (disch := first | omega | (simp only [lnS]; try omega; done)) [-getElem?_pos, -getElem?_neg, thenQ_ret, scopeQ_ret, inBlockQ_ret, RQ, resL, resV, -notTuple, hsh.1])
    exact ⟨_, ⟨rfl, rfl⟩, hlow, .inr ⟨acc, hrec2, v, rfl, F, hown, fun j hj => by have := hF j hj; omega⟩⟩
end
section
/-- A slice that shows these cells, as long as F stays. -/
structure OwnG (H : AH) (v : Value) (cells : List Value) (F : List Nat) : Prop where
  shape : ∃ a c, v = .slice a cells.length c
  lt : ∀ j ∈ F, j < H.length
  cells : ∀ G : AH, (∀ j ∈ F, hget G j = hget H j) → xcells 1 v G = some cells
theorem OwnG.low {H H' : AH} {v : Value} {cells : List Value} {F : List Nat} (h : OwnG H v cells F) (hl : ∀ j ∈ F, hget H' j = hget H j) (hlen : H.length ≤ H'.length) : OwnG H' v cells F :=
  ⟨h.shape, fun j hj => Nat.lt_of_lt_of_le (h.lt j hj) hlen, fun G hg => h.cells G (fun j hj => (hg j hj).trans (hl j hj))⟩
theorem OwnG.nt {H : AH} {v : Value} {cells : List Value} {F : List Nat} (h : OwnG H v cells F) : notTuple v = true ∧ v.cells = #[v] := by
  obtain ⟨a, c, rfl⟩ := h.shape
  exact ⟨rfl, rfl⟩
theorem OwnF.g {H : AH} {v : Value} {e : TypeId} {cells : List Value} {F : List Nat} (h : OwnF H v e 1 cells F) : OwnG H v cells F := by
  rcases h with ⟨rfl, rfl, rfl⟩ | ⟨j, len, rfl, h2, h3, rfl⟩
  · exact ⟨⟨none, 0, rfl⟩, by simp, fun G _ => rfl⟩
  · have hl : len = cells.length := by omega
    subst hl
    refine ⟨⟨_, _, rfl⟩, fun i hi => by simp at hi; subst hi; exact hget_lt h2, fun G hg => ?_⟩
    simp only [xcells]
    rw [hg j (by simp), h2]
    simp
/-- A journal: its disk, its records, its area, how many bytes of it. -/
structure JM where
  D : DM
  recs : List ByteArray
  area : Nat
  size : Nat
structure JrR (H : AH) (q d : Nat) (rv : Value) (FD FR : List Nat) (J : JM) : Prop where
  hq : hget H q = some ⟨[.pointer (some ⟨d, 0, none⟩), rv, .int .i64 (J.area : Nat), .int .i64 (J.size : Nat)], 64, none⟩
  hd : Dk H d FD J.D
  hr : OwnG H rv (J.recs.map .string) FR
  qd : q ∉ FD
  qr : q ∉ FR
  dr : ∀ j ∈ FD, j ∉ FR
def JM.half (J : JM) : Nat := (J.D.firm.length - 1) / 2
structure JM.Ok (J : JM) : Prop where
  area : J.area ≤ 1
  size : J.size ≤ J.half * 256
def Jr (H : AH) (q : Nat) (F : List Nat) (J : JM) : Prop := J.Ok ∧ ∃ d rv FD FR, F = q :: (FD ++ FR) ∧ JrR H q d rv FD FR J
theorem JrR.low {H H' : AH} {q d : Nat} {rv : Value} {FD FR : List Nat} {J : JM} (h : JrR H q d rv FD FR J) (hl : ∀ j ∈ q :: (FD ++ FR), hget H' j = hget H j) (hlen : H.length ≤ H'.length := by first | omega | (simp; done) | (simp; omega)) : JrR H' q d rv FD FR J :=
  ⟨(hl q (by simp)).trans h.hq, h.hd.low (fun j hj => hl j (by simp [hj])), h.hr.low (fun j hj => hl j (by simp [hj])) hlen, h.qd, h.qr, h.dr⟩
theorem Jr.low {H H' : AH} {q : Nat} {F : List Nat} {J : JM} (h : Jr H q F J) (hl : ∀ j ∈ F, hget H' j = hget H j) (hlen : H.length ≤ H'.length) : Jr H' q F J := by
  obtain ⟨h0, d, rv, FD, FR, rfl, h1⟩ := h
  exact ⟨h0, d, rv, FD, FR, rfl, h1.low hl hlen⟩
theorem Jr.lt {H : AH} {q : Nat} {F : List Nat} {J : JM} (h : Jr H q F J) : ∀ j ∈ F, j < H.length := by
  obtain ⟨h0, d, rv, FD, FR, rfl, h1⟩ := h
  intro j hj
  simp only [List.mem_cons, List.mem_append] at hj
  rcases hj with rfl | hj | hj
  · exact hget_lt h1.hq
  · exact h1.hd.lt j hj
  · exact h1.hr.lt j hj
attribute [local simp] wb_bool wb_undef XL_nil XL_cons XLc_val XLc_call step1_eq stepW_t stepW_f stepC_n stepC_s stepX_s stepX_n stepN_s calleeX oneV xop_eq xopR_s xopR_n wantedA_eq wantedG_n wantedG_s plain1_int plain1_bool plain1_string bits_i64 bits_u64 bits_u32 bits_u16 bits_u8 xeqA xagg xcmp xarr allK_iv num_iv calleeOf xread xeff xbin xint xnil xun xstr xload xconv xpart xfield xfieldAddr xindexAddr xindex bnd asInt? xslice xlen xmin xmax xbuild xfill xappend xapp2 xappstr xappmk xcap xcopy xcells eval_tmp eval_const put_at put_none fr0_at cells_agg cells_int cells_bool cells_string cells_ptr cells_slice notTuple tab iv_all hget_app hget_app0 hget_cons0 hget_cons set_app set_app0 setR setR_one QL_nil QL_cons QLc_val stepQ_t stepQ_f stepQC_n stepQC_s stepQX_s SL_nil SL_cons SLc_val stepS_t stepS_f ltT ltF leT leF eqT eqF ltTn ltFn leTn leFn eqTn eqFn beqT beqF bneT bneF wi64 wu64 wu32 wu16 wu8 tmodP tdivP hgetL hgetNe hgetEq setL nums_def nums_len Nat.succ_le_of_lt List.getElem?_cons_zero List.getElem?_cons_succ Option.getD_some Int.toNat_add Int.toNat_mul agB agI agS agP agL agA okB okI okS okP okSl okA
section
variable {nro : Nat} {γ : Nat → Option Nat} {H : AH} {q d : Nat} {rv : Value} {FD FR : List Nat} {J : JM}
theorem half_ac (h : JrR H q d rv FD FR J) : AC Tryz.prog nro γ 50 #[.pointer (some ⟨q, 0, none⟩)] H (fun v' H' => v' = .int .i64 (J.half : Nat) ∧ H' = H) := by
  have hq := h.hq
  have h1 := h.hd.1.one
  have h2 := h.hd.1.most
  have hlt : J.half ≤ 1024 := by unfold JM.half; omega
  have hh : ((J.D.firm.length : Nat) - 1 : Int).tdiv 2 = (J.half : Nat) := by
    unfold JM.half
    rw [Int.tdiv_eq_ediv_of_nonneg (by omega)]
    omega
  have hb := blocks_ac (nro := nro) (γ := γ) h.hd
  refine ac_of_aw Tryz.func50 rfl Tryz.ntmps50 Tryz.results50 (by simp) ?_
  refine aw_seq ?_
  (refine aw_ops (by kernel_rfl) (fun K hK => ?_); simp (disch := first | omega | (simp only [lnS]; try omega; done)) [-getElem?_pos, -getElem?_neg]; refine hK _ _ ?_; clear hK K)
  refine aw_seq ?_
  refine aw_ops (by kernel_rfl) (fun K hK => ?_)
  simp (disch := first | omega | (simp only [lnS]; try omega; done)) [-getElem?_pos, -getElem?_neg, hq]
  refine ⟨by kernel_rfl, AC.mono hb ?_⟩
  rintro _ G ⟨rfl, e⟩
  rw [e]
  clear e G
  simp (disch := first | omega | (simp only [lnS]; try omega; done)) [-getElem?_pos, -getElem?_neg, hh, -tdivP]
  refine hK _ _ ?_; clear hK K
  (refine aw_ret ?_; simp (disch := first | omega | (simp only [lnS]; try omega; done)) [-getElem?_pos, -getElem?_neg, thenQ_ret, scopeQ_ret, inBlockQ_ret, RQ, resL, resV])
theorem areaSize_ac (h : JrR H q d rv FD FR J) : AC Tryz.prog nro γ 28 #[.pointer (some ⟨q, 0, none⟩)] H (fun v' H' => v' = .int .i64 ((J.half * 256 : Nat) : Int) ∧ H' = H) := by
  have h2 := h.hd.1.most
  have hlt : J.half ≤ 1024 := by unfold JM.half; omega
  have hb := half_ac (nro := nro) (γ := γ) h
  refine ac_of_aw Tryz.func28 rfl Tryz.ntmps28 Tryz.results28 (by simp) ?_
  refine aw_seq ?_
  (refine aw_ops (by kernel_rfl) (fun K hK => ?_); simp (disch := first | omega | (simp only [lnS]; try omega; done)) [-getElem?_pos, -getElem?_neg]; refine hK _ _ ?_; clear hK K)
  refine aw_seq ?_
  refine aw_ops (by kernel_rfl) (fun K hK => ?_)
  simp (disch := first | omega | (simp only [lnS]; try omega; done)) [-getElem?_pos, -getElem?_neg]
  refine ⟨by kernel_rfl, AC.mono hb ?_⟩
  rintro _ G ⟨rfl, e⟩
  rw [e]
  clear e G
  simp (disch := first | omega | (simp only [lnS]; try omega; done)) [-getElem?_pos, -getElem?_neg]
  refine hK _ _ ?_; clear hK K
  (refine aw_ret ?_; simp (disch := first | omega | (simp only [lnS]; try omega; done)) [-getElem?_pos, -getElem?_neg, thenQ_ret, scopeQ_ret, inBlockQ_ret, RQ, resL, resV])
def JM.start (J : JM) (a : Nat) : Nat := 1 + a * J.half
theorem start_ac (h : JrR H q d rv FD FR J) (a : Nat) (ha : a ≤ 1) : AC Tryz.prog nro γ 54 #[.pointer (some ⟨q, 0, none⟩), .int .i64 (a : Nat)] H (fun v' H' => v' = .int .i64 (J.start a : Nat) ∧ H' = H) := by
  have h2 := h.hd.1.most
  have hlt : J.half ≤ 1024 := by unfold JM.half; omega
  have hb := half_ac (nro := nro) (γ := γ) h
  have hm : (a : Int) * (J.half : Int) = ((a * J.half : Nat) : Int) := by simp
  have hm2 : a * J.half ≤ 1024 := by
    have := Nat.mul_le_mul ha hlt
    omega
  have hs : J.start a = 1 + a * J.half := rfl
  generalize a * J.half = m at *
  refine ac_of_aw Tryz.func54 rfl Tryz.ntmps54 Tryz.results54 (by simp) ?_
  refine aw_seq ?_
  (refine aw_ops (by kernel_rfl) (fun K hK => ?_); simp (disch := first | omega | (simp only [lnS]; try omega; done)) [-getElem?_pos, -getElem?_neg]; refine hK _ _ ?_; clear hK K)
  refine aw_seq ?_
  refine aw_ops (by kernel_rfl) (fun K hK => ?_)
  simp (disch := first | omega | (simp only [lnS]; try omega; done)) [-getElem?_pos, -getElem?_neg]
  refine ⟨by kernel_rfl, AC.mono hb ?_⟩
  rintro _ G ⟨rfl, e⟩
  rw [e]
  clear e G
  simp (disch := first | omega | (simp only [lnS]; try omega; done)) [-getElem?_pos, -getElem?_neg, hm]
  refine hK _ _ ?_; clear hK K
  (refine aw_ret ?_; simp (disch := first | omega | (simp only [lnS]; try omega; done)) [-getElem?_pos, -getElem?_neg, thenQ_ret, scopeQ_ret, inBlockQ_ret, RQ, resL, resV])
end
theorem room_rc {γ : Nat → Option Nat} {H : AH} {q d : Nat} {rv : Value} {FD FR : List Nat} {J : JM} (h : JrR H q d rv FD FR J) (ho : J.Ok) : AC Tryz.prog H.length γ 21 #[.pointer (some ⟨q, 0, none⟩)] H (fun v' _ => v' = .int .i64 ((J.half * 256 : Nat) - (J.size : Nat) : Int)) := by
  have h2 := h.hd.1.most
  have hlt : J.half ≤ 1024 := by unfold JM.half; omega
  have hsz := ho.size
  have hq := h.hq
  have hql := hget_lt hq
  refine ac_of_aw Tryz.func21 rfl Tryz.ntmps21 Tryz.results21 (by simp) ?_
  refine aw_seq ?_
  (refine aw_ops (by kernel_rfl) (fun K hK => ?_); simp (disch := first | omega | (simp only [lnS]; try omega; done)) [-getElem?_pos, -getElem?_neg]; refine hK _ _ ?_; clear hK K)
  refine aw_seq ?_
  refine aw_seq ?_
  (refine aw_ops (by kernel_rfl) (fun K hK => ?_); simp (disch := first | omega | (simp only [lnS]; try omega; done)) [-getElem?_pos, -getElem?_neg]; refine hK _ _ ?_; clear hK K)
  refine aw_f (by (first | (simp [eval_tmp, put_at]; done) | (simp [eval_tmp, put_at]; omega))) (by kernel_rfl) ?_
  refine aw_skip ?_
  refine aw_seq ?_
  (refine aw_plan [] [] [0, 1, 2, 3, 4, 5, 6, 7] 8 0 (by kernel_rfl) (by kernel_rfl) (by kernel_rfl) (fun K hK => ?_)); simp only [sel, List.getElem?_cons_succ, List.getElem?_cons_zero, List.drop_succ_cons, List.drop_zero]; simp (disch := first | omega | (simp only [lnS]; try omega; done)) [-getElem?_pos, -getElem?_neg, hq, PL_nil, PL_cons, PLc_val, PLc_new, stepP_t, stepP_f, stepPC_n, stepPC_s, stepPX_s, stepPX_n, stepPA_t, stepPA_c, stepPA_l, stepPN_s, allocOp, reloc_sl, reloc_ptr, List.map_cons, List.map_nil, List.nil_append, List.append_assoc, List.cons_append, Nat.add_assoc]
  refine PLc_call (v := .int .i64 ((J.half * 256 : Nat) : Int)) (by kernel_rfl) (fun L hL => ?_) (by simp [pv_iv, pv_int, pv_bool, pv_string, pv_tup2, pv_tup3, iv_plain, p2_int, p2_bool, p2_string]) ?_
  · have hL2 := areaSize_ac (nro := (H ++ L).length) (γ := γ) (h.low (H' := H ++ L) (fun j hj => hget_left (Jr.lt (J := J) ⟨ho, d, rv, FD, FR, rfl, h⟩ j hj)))
    exact hL2.mono fun _ _ hh => hh.1
  try simp (disch := first | omega | (simp only [lnS]; try omega; done)) [-getElem?_pos, -getElem?_neg, hq, PL_nil, PL_cons, PLc_val, PLc_new, stepP_t, stepP_f, stepPC_n, stepPC_s, stepPX_s, stepPX_n, stepPA_t, stepPA_c, stepPA_l, stepPN_s, allocOp, reloc_sl, reloc_ptr, List.map_cons, List.map_nil, List.nil_append, List.append_assoc, List.cons_append, Nat.add_assoc]
  refine hK _ _ ?_; clear hK K
  (refine aw_ret ?_; simp (disch := first | omega | (simp only [lnS]; try omega; done)) [-getElem?_pos, -getElem?_neg, thenQ_ret, scopeQ_ret, inBlockQ_ret, RQ, resL, resV])
end
section
/-- So many blocks' bytes, from block s on. -/
def catK (L : List ByteArray) (s : Nat) : Nat → List Int
  | 0 => []
  | k + 1 => catK L s k ++ nums (L.getD (s + k) ⟨#[]⟩)
theorem catK_by (L : List ByteArray) (s : Nat) : ∀ k, By (catK L s k)
  | 0 => by intro x hx; cases hx
  | k + 1 => (catK_by L s k).app (nums_bd _)
theorem catK_len {L : List ByteArray} (hL : ∀ r ∈ L, r.size = 256) (s : Nat) : ∀ k, s + k ≤ L.length → (catK L s k).length = 256 * k
  | 0, _ => rfl
  | k + 1, h => by
    have h1 := catK_len hL s k (by omega)
    have h2 : (L.getD (s + k) ⟨#[]⟩).size = 256 := by
      rw [List.getD_eq_getElem?_getD, List.getElem?_eq_getElem (by omega)]
      exact hL _ (List.getElem_mem _)
    simp only [catK, List.length_append, nums_len, h1, h2]
    omega
theorem catK_take {L : List ByteArray} (hL : ∀ r ∈ L, r.size = 256) (s i k n : Nat) (h : s + (i + k) ≤ L.length) (hn : n ≤ 256 * i) : (catK L s (i + k)).take n = (catK L s i).take n := by
  induction k with
  | zero => rfl
  | succ k ih =>
    rw [← Nat.add_assoc]
    show (catK L s (i + k) ++ _).take n = _
    rw [List.take_append_of_le_length (by rw [catK_len hL s _ (by omega)]; omega)]
    exact ih (by omega)
def JM.bytes (J : JM) : List Int := (catK J.D.late (J.start J.area) J.half).take J.size
theorem JM.bytes_by (J : JM) : By J.bytes := (catK_by _ _ _).take _
theorem bl_new {H : AH} : Bl (H ++ [some ⟨[.pointer none, .slice none 0 0], 97, none⟩]) H.length (strOfNums []) [] :=
  ⟨.pointer none, .slice none 0 0, .inl rfl, by rw [hget_app0]; rfl, .inl ⟨rfl, rfl, rfl⟩, by simp, fun _ => rfl⟩
attribute [local irreducible] catK
attribute [local simp] wb_bool wb_undef XL_nil XL_cons XLc_val XLc_call step1_eq stepW_t stepW_f stepC_n stepC_s stepX_s stepX_n stepN_s calleeX oneV xop_eq xopR_s xopR_n wantedA_eq wantedG_n wantedG_s plain1_int plain1_bool plain1_string bits_i64 bits_u64 bits_u32 bits_u16 bits_u8 xeqA xagg xcmp xarr allK_iv num_iv calleeOf xread xeff xbin xint xnil xun xstr xload xconv xpart xfield xfieldAddr xindexAddr xindex bnd asInt? xslice xlen xmin xmax xbuild xfill xappend xapp2 xappstr xappmk xcap xcopy xcells eval_tmp eval_const put_at put_none fr0_at cells_agg cells_int cells_bool cells_string cells_ptr cells_slice notTuple tab iv_all hget_app hget_app0 hget_cons0 hget_cons set_app set_app0 setR setR_one QL_nil QL_cons QLc_val stepQ_t stepQ_f stepQC_n stepQC_s stepQX_s SL_nil SL_cons SLc_val stepS_t stepS_f ltT ltF leT leF eqT eqF ltTn ltFn leTn leFn eqTn eqFn beqT beqF bneT bneF wi64 wu64 wu32 wu16 wu8 tmodP tdivP hgetL hgetNe hgetEq setL nums_def nums_len Nat.succ_le_of_lt List.getElem?_cons_zero List.getElem?_cons_succ Option.getD_some Int.toNat_add Int.toNat_mul agB agI agS agP agL agA okB okI okS okP okSl okA
theorem bytes_rc {γ : Nat → Option Nat} {H : AH} {q d : Nat} {rv : Value} {FD FR : List Nat} {J : JM} (h : JrR H q d rv FD FR J) (ho : J.Ok) :
    AC Tryz.prog H.length γ 30 #[.pointer (some ⟨q, 0, none⟩)] H (fun v' _ => v' = .string (strOfNums J.bytes)) := by
  have h1 := h.hd.1.one
  have h2 := h.hd.1.most
  have hhf : 2 * J.half + 1 ≤ J.D.firm.length := by unfold JM.half; omega
  have hsz := ho.size
  have har := ho.area
  have hlate : ∀ r ∈ J.D.late, r.size = 256 := late_rows h.hd.1.rows (fun w hw => (h.hd.1.uns w hw).2)
  have hll : J.D.late.length = J.D.firm.length := late_len _ _
  have hst : J.start J.area + J.half ≤ J.D.firm.length := by
    unfold JM.start
    rcases Nat.le_one_iff_eq_zero_or_eq_one.1 har with e | e <;> rw [e] <;> omega
  have hfl : ∀ j ∈ q :: (FD ++ FR), j < H.length := Jr.lt (J := J) ⟨ho, d, rv, FD, FR, rfl, h⟩
  have hq := h.hq
  have hql := hget_lt hq
  refine ac_of_aw Tryz.func30 rfl Tryz.ntmps30 Tryz.results30 (by simp) ?_
  refine aw_seq ?_
  (refine aw_ops (by kernel_rfl) (fun K hK => ?_); simp (disch := first | omega | (simp only [lnS]; try omega; done)) [-getElem?_pos, -getElem?_neg]; refine hK _ _ ?_; clear hK K)
  refine aw_seq ?_
  (refine aw_ops (by kernel_rfl) (fun K hK => ?_); simp (disch := first | omega | (simp only [lnS]; try omega; done)) [-getElem?_pos, -getElem?_neg]; refine hK _ _ ?_; clear hK K)
  refine aw_seq ?_
  refine aw_seq ?_
  refine aw_ops (by kernel_rfl) (fun K hK => ?_)
  simp (disch := first | omega | (simp only [lnS]; try omega; done)) [-getElem?_pos, -getElem?_neg, hq]
  refine ⟨by kernel_rfl, AC.mono (start_ac (nro := H.length) (h.low (H' := H ++ [some ⟨[.pointer none, .slice none 0 0], 97, none⟩]) (fun j hj => hget_left (hfl j hj))) J.area har) ?_⟩
  rintro _ G ⟨rfl, e⟩
  rw [e]
  clear e G
  try simp (disch := first | omega | (simp only [lnS]; try omega; done)) [-getElem?_pos, -getElem?_neg]
  refine hK _ _ ?_; clear hK K
  refine aw_block ?_
  refine aw_loop (fun c α G => ∃ (i : Nat) (F : List Nat), i + c = J.half ∧ α 0 = .pointer (some ⟨q, 0, none⟩) ∧ α 3 = .pointer (some ⟨H.length, 0, none⟩) ∧ α 4 = .int .i64 ((J.start J.area + i : Nat) : Int) ∧
    Low H.length H G ∧ Bl G H.length (strOfNums (catK J.D.late (J.start J.area) i)) F ∧ ∀ j ∈ F, H.length ≤ j) J.half ?_ ?_
  · have : catK J.D.late (J.start J.area) 0 = [] := by unfold catK; rfl
    refine ⟨0, [], by omega, by (first | (simp [put_at, put_none, fr0_at]; done) | rfl), by (first | (simp [put_at, put_none, fr0_at]; done) | rfl), by (first | (simp [put_at, put_none, fr0_at]; done) | rfl), Low.push (Nat.le_refl _) _, ?_, by simp⟩
    rw [this]
    exact bl_new
  rintro c α G ⟨i, F, hi, h0, h3, h4, hlow, hbl, hF⟩
  have hG : JrR G q d rv FD FR J := h.low (fun j hj => hlow.1 j (hfl j hj)) hlow.2
  have hgq := hG.hq
  have hbs : (strOfNums (catK J.D.late (J.start J.area) i)).size = 256 * i := by rw [sn_size, catK_len hlate _ _ (by omega)]
  have hblt := hbl.lt
  have hgql := hget_lt hgq
  refine aw_seq ?_
  refine aw_seq ?_
  by_cases hlt : 256 * i < J.size
  · (refine aw_plan [] [] [0, 1, 2, 3, 4, 5] 6 0 (by kernel_rfl) (by kernel_rfl) (by kernel_rfl) (fun K hK => ?_)); simp only [sel, List.getElem?_cons_succ, List.getElem?_cons_zero, List.drop_succ_cons, List.drop_zero]; simp (disch := first | omega | (simp only [lnS]; try omega; done)) [-getElem?_pos, -getElem?_neg, hgq, h0, h3, hlt, PL_nil, PL_cons, PLc_val, PLc_new, stepP_t, stepP_f, stepPC_n, stepPC_s, stepPX_s, stepPX_n, stepPA_t, stepPA_c, stepPA_l, stepPN_s, allocOp, reloc_sl, reloc_ptr, List.map_cons, List.map_nil, List.nil_append, List.append_assoc, List.cons_append, Nat.add_assoc]
    refine PLc_call (v := .int .i64 ((256 * i : Nat) : Int)) (by kernel_rfl) (fun L hL => ?_) (by simp [pv_iv, pv_int, pv_bool, pv_string, pv_tup2, pv_tup3, iv_plain, p2_int, p2_bool, p2_string]) ?_
    · have := bl_len (nro := (G ++ L).length) (γ := γ) (hbl.low (H' := G ++ L) (hget_left hblt.1) (fun j hj => hget_left (hblt.2 j hj)))
      rw [hbs] at this
      exact this.mono fun _ _ hh => hh.1
    try simp (disch := first | omega | (simp only [lnS]; try omega; done)) [-getElem?_pos, -getElem?_neg, hgq, h0, h3, hlt, PL_nil, PL_cons, PLc_val, PLc_new, stepP_t, stepP_f, stepPC_n, stepPC_s, stepPX_s, stepPX_n, stepPA_t, stepPA_c, stepPA_l, stepPN_s, allocOp, reloc_sl, reloc_ptr, List.map_cons, List.map_nil, List.nil_append, List.append_assoc, List.cons_append, Nat.add_assoc]
    refine hK _ _ ?_; clear hK K
    refine aw_t (by (first | (simp [eval_tmp, put_at]; done) | (simp [eval_tmp, put_at]; omega))) (by kernel_rfl) ?_
    refine aw_skip ?_
    refine aw_seq ?_
    refine aw_block ?_
    have hat : hasB J.D.firm.length ((J.start J.area + i : Nat) : Int) = true := by simp [hasB]; omega
    have hat2 : hasB J.D.late.length ((J.start J.area + i : Nat) : Int) = true := by rw [hll]; exact hat
    have hrv : readV J.D.late ((J.start J.area + i : Nat) : Int) = J.D.late.getD (J.start J.area + i) ⟨#[]⟩ := by
      unfold readV
      rw [if_pos hat2]
      simp
    have hrs : (J.D.late.getD (J.start J.area + i) ⟨#[]⟩).size = 256 := by
      rw [List.getD_eq_getElem?_getD, List.getElem?_eq_getElem (by omega)]
      exact hlate _ (List.getElem_mem _)
    have hcat : catK J.D.late (J.start J.area) (i + 1) = catK J.D.late (J.start J.area) i ++ nums (J.D.late.getD (J.start J.area + i) ⟨#[]⟩) := by with_unfolding_all rfl
    generalize J.D.late.getD (J.start J.area + i) ⟨#[]⟩ = r at *
    refine aw_seq ?_
    refine aw_ops (by kernel_rfl) (fun K hK => ?_)
    simp (disch := first | omega | (simp only [lnS]; try omega; done)) [-getElem?_pos, -getElem?_neg, hgq, h0, h4]
    refine ⟨by kernel_rfl, AC.mono (read_ac (nro := H.length) hG.hd ((J.start J.area + i : Nat) : Int)) ?_⟩
    rintro _ G1 ⟨rfl, e⟩
    rw [e, hrv, if_pos hat]
    clear e G1
    try simp (disch := first | omega | (simp only [lnS]; try omega; done)) [-getElem?_pos, -getElem?_neg]
    refine hK _ _ ?_; clear hK K
    refine aw_ops (by kernel_rfl) (fun K hK => ?_)
    simp (disch := first | omega | (simp only [lnS]; try omega; done)) [-getElem?_pos, -getElem?_neg, h3]
    refine ⟨by kernel_rfl, AC.mono (bl_write (t := r) hbl (Nat.le_refl _) hF (by rw [hbs, hrs]; omega)) ?_⟩
    rintro _ G2 ⟨rfl, F2, b1, b2, b3, b4⟩
    try simp (disch := first | omega | (simp only [lnS]; try omega; done)) [-getElem?_pos, -getElem?_neg]
    refine hK _ _ ?_; clear hK K
    (refine aw_ops (by kernel_rfl) (fun K hK => ?_); simp (disch := first | omega | (simp only [lnS]; try omega; done)) [-getElem?_pos, -getElem?_neg, h4]; refine hK _ _ ?_; clear hK K)
    refine ⟨c - 1, by omega, i + 1, F2, by omega, by (first | (simp [put_at, put_none, fr0_at, h0]; done) | rfl), by (first | (simp [put_at, put_none, fr0_at, h3]; done) | rfl), by (first | (simp [put_at, put_none, fr0_at]; done) | rfl), ⟨fun j hj => ?_, by have := hlow.2; omega⟩, ?_, fun j hj => by have := b3 j hj; have := hlow.2; omega⟩
    · rw [b4 j (by have := hlow.2; omega) (by omega) (fun hm => by have := hF j hm; omega)]
      exact hlow.1 j hj
    · rw [hcat, ← sn_app, of_nums']
      exact b1
  · (refine aw_plan [] [] [0, 1, 2, 3, 4, 5] 6 0 (by kernel_rfl) (by kernel_rfl) (by kernel_rfl) (fun K hK => ?_)); simp only [sel, List.getElem?_cons_succ, List.getElem?_cons_zero, List.drop_succ_cons, List.drop_zero]; simp (disch := first | omega | (simp only [lnS]; try omega; done)) [-getElem?_pos, -getElem?_neg, hgq, h0, h3, hlt, PL_nil, PL_cons, PLc_val, PLc_new, stepP_t, stepP_f, stepPC_n, stepPC_s, stepPX_s, stepPX_n, stepPA_t, stepPA_c, stepPA_l, stepPN_s, allocOp, reloc_sl, reloc_ptr, List.map_cons, List.map_nil, List.nil_append, List.append_assoc, List.cons_append, Nat.add_assoc]
    refine PLc_call (v := .int .i64 ((256 * i : Nat) : Int)) (by kernel_rfl) (fun L hL => ?_) (by simp [pv_iv, pv_int, pv_bool, pv_string, pv_tup2, pv_tup3, iv_plain, p2_int, p2_bool, p2_string]) ?_
    · have := bl_len (nro := (G ++ L).length) (γ := γ) (hbl.low (H' := G ++ L) (hget_left hblt.1) (fun j hj => hget_left (hblt.2 j hj)))
      rw [hbs] at this
      exact this.mono fun _ _ hh => hh.1
    try simp (disch := first | omega | (simp only [lnS]; try omega; done)) [-getElem?_pos, -getElem?_neg, hgq, h0, h3, hlt, PL_nil, PL_cons, PLc_val, PLc_new, stepP_t, stepP_f, stepPC_n, stepPC_s, stepPX_s, stepPX_n, stepPA_t, stepPA_c, stepPA_l, stepPN_s, allocOp, reloc_sl, reloc_ptr, List.map_cons, List.map_nil, List.nil_append, List.append_assoc, List.cons_append, Nat.add_assoc]
    refine hK _ _ ?_; clear hK K
    refine aw_f (by (first | (simp [eval_tmp, put_at]; done) | (simp [eval_tmp, put_at]; omega))) (by kernel_rfl) ?_
    refine aw_exit ?_
    refine aw_seq ?_
    have hexn : (strOfNums (catK J.D.late (J.start J.area) i)).extract 0 J.size = strOfNums J.bytes := by
      rw [ex_take]
      congr 1
      unfold JM.bytes
      rw [← hi, catK_take hlate _ i c J.size (by omega) (by omega)]
    (refine aw_tree [[0, 1, 2, 3, 4, 5, 6], [1, 0, 2, 3, 4, 5, 6], [1, 2, 0, 3, 4, 5, 6], [1, 2, 3, 0, 4, 5, 6], [1, 2, 3, 4, 0, 5, 6]] (by kernel_rfl) (by kernel_rfl) (by kernel_rfl) (fun K hK => ?_)); simp (disch := first | omega | (simp only [lnS]; try omega; done)) [-getElem?_pos, -getElem?_neg, hgq, h0, h3, XO_s, XO_z, XLk_val, XLk_call, headsO, behind, List.length_cons, List.length_nil, List.mem_cons, List.not_mem_nil, or_false, forall_eq_or_imp, forall_eq, List.contains_cons, List.contains_nil]
    repeat' apply And.intro
    all_goals try kernel_rfl
    all_goals
      refine AC.mono (bl_string hbl (Nat.le_refl _) hF) ?_
      rintro _ G1 ⟨rfl, b1, b2⟩
      have hgq1 := (b2 q (fun hm => by have := hF q hm; omega)).trans hgq
      try simp (disch := first | omega | (simp only [lnS]; try omega; done)) [-getElem?_pos, -getElem?_neg, hgq1, hbs, hexn, XO_s, XO_z, XLk_val, XLk_call, headsO, behind, List.length_cons, List.length_nil, List.mem_cons, List.not_mem_nil, or_false, forall_eq_or_imp, forall_eq, List.contains_cons, List.contains_nil]
      refine hK _ _ ?_; clear hK K
      (refine aw_ret ?_; simp (disch := first | omega | (simp only [lnS]; try omega; done)) [-getElem?_pos, -getElem?_neg, thenQ_ret, scopeQ_ret, inBlockQ_ret, RQ, resL, resV])
end
section
/-- The first sector. -/
def firstL (D : DM) : List Int := (nums (D.late.getD 0 ⟨#[]⟩)).take 64
def openJ (D : DM) : Option JM × Int :=
  if D.firm.length < 3 then (none, 1)
  else if firstL D = zl 64 then (some ⟨D, [], 0, 0⟩, 0)
  else if isMark (firstL D) = false ∨ (D.firm.length - 1) / 2 * 256 < mSize (firstL D) then (none, 9)
  else match recsR (JM.bytes ⟨D, [], mArea (firstL D), mSize (firstL D)⟩).length (JM.bytes ⟨D, [], mArea (firstL D), mSize (firstL D)⟩) [] with
    | none => (none, 9)
    | some rs => (some ⟨D, rs, mArea (firstL D), mSize (firstL D)⟩, 0)
def OpenQ (H : AH) (d : Nat) (FD : List Nat) (o : Option JM × Int) (v' : Value) (H' : AH) : Prop :=
  Low H.length H H' ∧ match o with
    | (none, e) => v' = .tuple #[.pointer none, .int .i64 e]
    | (some J, e) => ∃ q rv FR, v' = .tuple #[.pointer (some ⟨q, 0, none⟩), .int .i64 e] ∧ JrR H' q d rv FD FR J ∧ J.Ok ∧ H.length ≤ q ∧ ∀ j ∈ FR, H.length ≤ j
attribute [local irreducible] markL
attribute [local simp] wb_bool wb_undef XL_nil XL_cons XLc_val XLc_call step1_eq stepW_t stepW_f stepC_n stepC_s stepX_s stepX_n stepN_s calleeX oneV xop_eq xopR_s xopR_n wantedA_eq wantedG_n wantedG_s plain1_int plain1_bool plain1_string bits_i64 bits_u64 bits_u32 bits_u16 bits_u8 xeqA xagg xcmp xarr allK_iv num_iv calleeOf xread xeff xbin xint xnil xun xstr xload xconv xpart xfield xfieldAddr xindexAddr xindex bnd asInt? xslice xlen xmin xmax xbuild xfill xappend xapp2 xappstr xappmk xcap xcopy xcells eval_tmp eval_const put_at put_none fr0_at cells_agg cells_int cells_bool cells_string cells_ptr cells_slice notTuple tab iv_all hget_app hget_app0 hget_cons0 hget_cons set_app set_app0 setR setR_one QL_nil QL_cons QLc_val stepQ_t stepQ_f stepQC_n stepQC_s stepQX_s SL_nil SL_cons SLc_val stepS_t stepS_f ltT ltF leT leF eqT eqF ltTn ltFn leTn leFn eqTn eqFn beqT beqF bneT bneF wi64 wu64 wu32 wu16 wu8 tmodP tdivP hgetL hgetNe hgetEq setL nums_def nums_len Nat.succ_le_of_lt List.getElem?_cons_zero List.getElem?_cons_succ Option.getD_some Int.toNat_add Int.toNat_mul agB agI agS agP agL agA okB okI okS okP okSl okA
theorem open_ac {nro : Nat} {H : AH} (hG : GG H) (hnl : nro ≤ H.length) {d : Nat} {FD : List Nat} {D : DM} (hd : Dk H d FD D) :
    AC Tryz.prog nro gm 8 #[.pointer (some ⟨d, 0, none⟩)] H (OpenQ H d FD (openJ D)) := by
  have h1 := hd.1.one
  have h2 := hd.1.most
  have hlate : ∀ r ∈ D.late, r.size = 256 := late_rows hd.1.rows (fun w hw => (hd.1.uns w hw).2)
  have hll : D.late.length = D.firm.length := late_len _ _
  have hopen : openJ D = openJ D := rfl
  generalize ho : openJ D = o at hopen ⊢
  unfold openJ at ho
  refine ac_of_aw Tryz.func8 rfl Tryz.ntmps8 Tryz.results8 (by simp) ?_
  refine aw_seq ?_
  (refine aw_ops (by kernel_rfl) (fun K hK => ?_); simp (disch := first | omega | (simp only [lnS]; try omega; done)) [-getElem?_pos, -getElem?_neg]; refine hK _ _ ?_; clear hK K)
  refine aw_seq ?_
  refine aw_seq ?_
  refine aw_ops (by kernel_rfl) (fun K hK => ?_)
  simp (disch := first | omega | (simp only [lnS]; try omega; done)) [-getElem?_pos, -getElem?_neg]
  refine ⟨by kernel_rfl, AC.mono (blocks_ac (nro := nro) hd) ?_⟩
  rintro _ G ⟨rfl, e⟩
  rw [e]
  clear e G
  by_cases hs3 : D.firm.length < 3
  · simp (disch := first | omega | (simp only [lnS]; try omega; done)) [-getElem?_pos, -getElem?_neg, hs3]
    refine hK _ _ ?_; clear hK K
    refine aw_t (by (first | (simp [eval_tmp, put_at]; done) | (simp [eval_tmp, put_at]; omega))) (by kernel_rfl) ?_
    rw [if_pos hs3] at ho
    refine aw_seq ?_
    (refine aw_ops (by kernel_rfl) (fun K hK => ?_); simp (disch := first | omega | (simp only [lnS]; try omega; done)) [-getElem?_pos, -getElem?_neg]; refine hK _ _ ?_; clear hK K)
    (refine aw_ret ?_; simp (disch := first | omega | (simp only [lnS]; try omega; done)) [-getElem?_pos, -getElem?_neg, thenQ_ret, scopeQ_ret, inBlockQ_ret, RQ, resL, resV])
    subst ho
    exact ⟨Low.refl (Nat.le_refl _), rfl⟩
  rw [if_neg hs3] at ho
  simp (disch := first | omega | (simp only [lnS]; try omega; done)) [-getElem?_pos, -getElem?_neg, hs3]
  refine hK _ _ ?_; clear hK K
  refine aw_f (by (first | (simp [eval_tmp, put_at]; done) | (simp [eval_tmp, put_at]; omega))) (by kernel_rfl) ?_
  refine aw_skip ?_
  refine aw_seq ?_
  (refine aw_ops (by kernel_rfl) (fun K hK => ?_); simp (disch := first | omega | (simp only [lnS]; try omega; done)) [-getElem?_pos, -getElem?_neg]; refine hK _ _ ?_; clear hK K)
  have hdl : ∀ j ∈ FD, j < H.length := hd.lt
  have hrd := read_ac (nro := nro) (γ := gm) (hd.low (H' := H ++ [some ⟨[.pointer (some ⟨d, 0, none⟩), .slice none 0 0, .int .i64 0, .int .i64 0], 64, none⟩]) (fun j hj => hget_left (hdl j hj))) 0
  have hat : hasB D.firm.length 0 = true := by simp [hasB]; omega
  have hrv : readV D.late 0 = D.late.getD 0 ⟨#[]⟩ := by
    unfold readV
    rw [if_pos (by rw [hll]; exact hat)]
    simp
  have hrs : (D.late.getD 0 ⟨#[]⟩).size = 256 := by
    rw [List.getD_eq_getElem?_getD, List.getElem?_eq_getElem (by omega)]
    exact hlate _ (List.getElem_mem _)
  have hF : firstL D = (nums (D.late.getD 0 ⟨#[]⟩)).take 64 := rfl
  rw [hrv, if_pos hat] at hrd
  generalize D.late.getD 0 ⟨#[]⟩ = r at *
  have hx : r.extract 0 64 = strOfNums (firstL D) := by rw [hF, ← ex_take, of_nums']
  have hFl : (firstL D).length = 64 := by rw [hF, List.length_take, nums_len, hrs]; rfl
  have hFb : By (firstL D) := by
    rw [hF]
    exact By.take (fun x hx => nums_bd r x hx) 64
  clear hF
  generalize firstL D = F at *
  refine aw_seq ?_
  refine aw_ops (by kernel_rfl) (fun K hK => ?_)
  simp (disch := first | omega | (simp only [lnS]; try omega; done)) [-getElem?_pos, -getElem?_neg]
  refine ⟨by kernel_rfl, AC.mono hrd ?_⟩
  rintro _ G ⟨rfl, e⟩
  rw [e]
  clear e G
  try simp (disch := first | omega | (simp only [lnS]; try omega; done)) [-getElem?_pos, -getElem?_neg]
  refine hK _ _ ?_; clear hK K
  refine aw_seq ?_
  (refine aw_ops (by kernel_rfl) (fun K hK => ?_); simp (disch := first | omega | (simp only [lnS]; try omega; done)) [-getElem?_pos, -getElem?_neg, hrs, hx]; refine hK _ _ ?_; clear hK K)
  refine aw_seq ?_
  refine aw_seq ?_
  refine aw_ops (by kernel_rfl) (fun K hK => ?_)
  simp (disch := first | omega | (simp only [lnS]; try omega; done)) [-getElem?_pos, -getElem?_neg]
  refine ⟨by kernel_rfl, ac_of_vc (by simp [pv_iv, pv_int, pv_bool, pv_string, pv_tup2, pv_tup3, iv_plain, p2_int, p2_bool, p2_string]) (zeros_vc 64 (by omega)) ?_⟩
  have he := sn_eq hFb (zl_by 64)
  have hJ0 : JrR (H ++ [some ⟨[.pointer (some ⟨d, 0, none⟩), .slice none 0 0, .int .i64 0, .int .i64 0], 64, none⟩]) H.length d (.slice none 0 0) FD [] ⟨D, [], 0, 0⟩ :=
    ⟨by rw [hget_app0]; rfl, hd.low (fun j hj => hget_left (hdl j hj)), OwnF.g (e := 9) (.inl ⟨rfl, rfl, rfl⟩), fun hm => by have := hdl _ hm; omega, by simp, by simp⟩
  by_cases hz : F = zl 64
  · rw [if_pos hz] at ho
    have hb : ((strOfNums F).toList == (strOfNums (zl 64)).toList) = true := by rw [hz]; simp
    simp (disch := first | omega | (simp only [lnS]; try omega; done)) [-getElem?_pos, -getElem?_neg, he, hz]
    refine hK _ _ ?_; clear hK K
    refine aw_t (by (first | (simp [eval_tmp, put_at]; done) | (simp [eval_tmp, put_at]; omega))) (by kernel_rfl) ?_
    refine aw_seq ?_
    (refine aw_ops (by kernel_rfl) (fun K hK => ?_); simp (disch := first | omega | (simp only [lnS]; try omega; done)) [-getElem?_pos, -getElem?_neg]; refine hK _ _ ?_; clear hK K)
    (refine aw_ret ?_; simp (disch := first | omega | (simp only [lnS]; try omega; done)) [-getElem?_pos, -getElem?_neg, thenQ_ret, scopeQ_ret, inBlockQ_ret, RQ, resL, resV])
    subst ho
    exact ⟨Low.push (Nat.le_refl _) _, H.length, .slice none 0 0, [], rfl, hJ0, ⟨by simp, by simp⟩, Nat.le_refl _, by simp⟩
  rw [if_neg hz] at ho
  have hb : ((strOfNums F).toList == (strOfNums (zl 64)).toList) = false := by
    rw [beq_eq_false_iff_ne]
    exact fun h => hz (he.1 h)
  simp (disch := first | omega | (simp only [lnS]; try omega; done)) [-getElem?_pos, -getElem?_neg, he, hz, hb]
  refine hK _ _ ?_; clear hK K
  refine aw_f (by (first | (simp [eval_tmp, put_at]; done) | (simp [eval_tmp, put_at]; omega))) (by kernel_rfl) ?_
  refine aw_skip ?_
  refine aw_seq ?_
  have hmk := readMark_rc (hG.app [some ⟨[.pointer (some ⟨d, 0, none⟩), .slice none 0 0, .int .i64 0, .int .i64 0], 64, none⟩]) F hFl hFb
  have hm2 : isMark F = true → mArea F < 2 := fun h => by
    unfold isMark at h
    simp only [Bool.and_eq_true, decide_eq_true_eq] at h
    exact h.1
  generalize isMark F = M at *
  generalize mArea F = A at *
  generalize mSize F = S at *
  refine aw_ops (by kernel_rfl) (fun K hK => ?_)
  simp (disch := first | omega | (simp only [lnS]; try omega; done)) [-getElem?_pos, -getElem?_neg]
  refine ⟨by kernel_rfl, ac_of_rc hmk (by simp [pv_iv, pv_int, pv_bool, pv_string, pv_tup2, pv_tup3, iv_plain, p2_int, p2_bool, p2_string]) ?_⟩
  simp (disch := first | omega | (simp only [lnS]; try omega; done)) [-getElem?_pos, -getElem?_neg]
  refine hK _ _ ?_; clear hK K
  refine aw_seq ?_
  refine aw_seq ?_
  cases M with
  | false =>
    rw [if_pos (.inl rfl)] at ho
    (refine aw_ops (by kernel_rfl) (fun K hK => ?_); simp (disch := first | omega | (simp only [lnS]; try omega; done)) [-getElem?_pos, -getElem?_neg]; refine hK _ _ ?_; clear hK K)
    refine aw_t (by (first | (simp [eval_tmp, put_at]; done) | (simp [eval_tmp, put_at]; omega))) (by kernel_rfl) ?_
    refine aw_seq ?_
    (refine aw_ops (by kernel_rfl) (fun K hK => ?_); simp (disch := first | omega | (simp only [lnS]; try omega; done)) [-getElem?_pos, -getElem?_neg]; refine hK _ _ ?_; clear hK K)
    (refine aw_ret ?_; simp (disch := first | omega | (simp only [lnS]; try omega; done)) [-getElem?_pos, -getElem?_neg, thenQ_ret, scopeQ_ret, inBlockQ_ret, RQ, resL, resV])
    subst ho
    exact ⟨Low.push (Nat.le_refl _) _, rfl⟩
  | true =>
    have hA := hm2 rfl
    have has := areaSize_ac (nro := nro) (γ := gm) hJ0
    have hJh : (JM.half ⟨D, [], 0, 0⟩) = (D.firm.length - 1) / 2 := rfl
    rw [hJh] at has
    have hhb : (D.firm.length - 1) / 2 ≤ 512 := by omega
    generalize hHf : (D.firm.length - 1) / 2 = Hf at *
    refine aw_ops (by kernel_rfl) (fun K hK => ?_)
    simp (disch := first | omega | (simp only [lnS]; try omega; done)) [-getElem?_pos, -getElem?_neg]
    refine ⟨by kernel_rfl, AC.mono has ?_⟩
    rintro _ G ⟨rfl, e⟩
    rw [e]
    clear e G
    by_cases hS : Hf * 256 < S
    · rw [if_pos (.inr hS)] at ho
      have hS2 : ((Hf * 256 : Nat) : Int) < (S : Nat) := by omega
      simp only [Int.natCast_mul] at hS2
      simp (disch := first | omega | (simp only [lnS]; try omega; done)) [-getElem?_pos, -getElem?_neg, hS, hS2]
      refine hK _ _ ?_; clear hK K
      refine aw_t (by (first | (simp [eval_tmp, put_at]; done) | (simp [eval_tmp, put_at]; omega))) (by kernel_rfl) ?_
      refine aw_seq ?_
      (refine aw_ops (by kernel_rfl) (fun K hK => ?_); simp (disch := first | omega | (simp only [lnS]; try omega; done)) [-getElem?_pos, -getElem?_neg]; refine hK _ _ ?_; clear hK K)
      (refine aw_ret ?_; simp (disch := first | omega | (simp only [lnS]; try omega; done)) [-getElem?_pos, -getElem?_neg, thenQ_ret, scopeQ_ret, inBlockQ_ret, RQ, resL, resV])
      subst ho
      exact ⟨Low.push (Nat.le_refl _) _, rfl⟩
    rw [if_neg (by simp; omega)] at ho
    have hS2 : ¬ ((Hf * 256 : Nat) : Int) < (S : Nat) := by omega
    simp only [Int.natCast_mul] at hS2
    simp (disch := first | omega | (simp only [lnS]; try omega; done)) [-getElem?_pos, -getElem?_neg, hS, hS2]
    refine hK _ _ ?_; clear hK K
    refine aw_f (by (first | (simp [eval_tmp, put_at]; done) | (simp [eval_tmp, put_at]; omega))) (by kernel_rfl) ?_
    refine aw_skip ?_
    refine aw_seq ?_
    (refine aw_ops (by kernel_rfl) (fun K hK => ?_); simp (disch := first | omega | (simp only [lnS]; try omega; done)) [-getElem?_pos, -getElem?_neg]; refine hK _ _ ?_; clear hK K)
    have hok : (JM.mk D [] A S).Ok := ⟨by show A ≤ 1; omega, by show S ≤ JM.half ⟨D, [], A, S⟩ * 256; unfold JM.half; show S ≤ (D.firm.length - 1) / 2 * 256; omega⟩
    have hJ1 : JrR (H ++ [some ⟨[.pointer (some ⟨d, 0, none⟩), .slice none 0 0, .int .i64 (A : Nat), .int .i64 (S : Nat)], 64, none⟩]) H.length d (.slice none 0 0) FD [] ⟨D, [], A, S⟩ :=
      ⟨by rw [hget_app0]; rfl, hd.low (fun j hj => hget_left (hdl j hj)), OwnF.g (e := 9) (.inl ⟨rfl, rfl, rfl⟩), fun hm => by have := hdl _ hm; omega, by simp, by simp⟩
    have hby := bytes_rc (γ := gm) hJ1 hok
    have hbl : (JM.bytes ⟨D, [], A, S⟩).length ≤ S := by
      unfold JM.bytes
      rw [List.length_take]
      exact Nat.min_le_left _ _
    have hbb := JM.bytes_by ⟨D, [], A, S⟩
    generalize JM.bytes ⟨D, [], A, S⟩ = B at *
    obtain ⟨H1, hH1⟩ : ∃ H1, H1 = H ++ [some ⟨[.pointer (some ⟨d, 0, none⟩), .slice none 0 0, .int .i64 (A : Nat), .int .i64 (S : Nat)], 64, none⟩] := ⟨_, rfl⟩
    have hH1l : H1.length = H.length + 1 := by rw [hH1]; simp
    have hlow1 : Low H.length H H1 := by rw [hH1]; exact Low.push (Nat.le_refl _) _
    rw [← hH1] at hJ1 hby
    refine aw_seq ?_
    refine aw_seq ?_
    refine aw_ops (by kernel_rfl) (fun K hK => ?_)
    simp (disch := first | omega | (simp only [lnS]; try omega; done)) [-getElem?_pos, -getElem?_neg]
    rw [← hH1]
    refine ⟨by kernel_rfl, ac_of_rc hby (by simp [pv_iv, pv_int, pv_bool, pv_string, pv_tup2, pv_tup3, iv_plain, p2_int, p2_bool, p2_string]) ?_⟩
    try simp (disch := first | omega | (simp only [lnS]; try omega; done)) [-getElem?_pos, -getElem?_neg]
    refine ⟨by kernel_rfl, AC.mono (readRecs_ac (nro := nro) (by omega) B hbb (by omega)) ?_⟩
    rintro v1 G ⟨hlow2, hres⟩
    have hgJ := (hlow2.1 H.length (by omega)).trans hJ1.hq
    have hgl := hlow2.2
    have hlow3 : Low H.length H G := ⟨fun j hj => (hlow2.1 j (by omega)).trans (hlow1.1 j hj), by omega⟩
    rcases hres with ⟨hnone, rfl⟩ | ⟨rs, rv, FR, hsome, rfl, hown, hfr⟩
    · rw [hnone] at ho
      simp (disch := first | omega | (simp only [lnS]; try omega; done)) [-getElem?_pos, -getElem?_neg, hgJ]
      refine hK _ _ ?_; clear hK K
      refine aw_seq ?_
      (refine aw_ops (by kernel_rfl) (fun K hK => ?_); simp (disch := first | omega | (simp only [lnS]; try omega; done)) [-getElem?_pos, -getElem?_neg]; refine hK _ _ ?_; clear hK K)
      refine aw_t (by (first | (simp [eval_tmp, put_at]; done) | (simp [eval_tmp, put_at]; omega))) (by kernel_rfl) ?_
      refine aw_seq ?_
      (refine aw_ops (by kernel_rfl) (fun K hK => ?_); simp (disch := first | omega | (simp only [lnS]; try omega; done)) [-getElem?_pos, -getElem?_neg]; refine hK _ _ ?_; clear hK K)
      (refine aw_ret ?_; simp (disch := first | omega | (simp only [lnS]; try omega; done)) [-getElem?_pos, -getElem?_neg, thenQ_ret, scopeQ_ret, inBlockQ_ret, RQ, resL, resV])
      subst ho
      exact ⟨⟨fun j hj => by rw [hget_set_ne (by omega)]; exact hlow3.1 j hj, by simp; omega⟩, rfl⟩
    · rw [hsome] at ho
      have hsh := ownF_shape hown
      simp (disch := first | omega | (simp only [lnS]; try omega; done)) [-getElem?_pos, -getElem?_neg, hgJ, -notTuple, nt_strJ, hsh.1, hsh.2]
      refine hK _ _ ?_; clear hK K
      refine aw_seq ?_
      (refine aw_ops (by kernel_rfl) (fun K hK => ?_); simp (disch := first | omega | (simp only [lnS]; try omega; done)) [-getElem?_pos, -getElem?_neg]; refine hK _ _ ?_; clear hK K)
      refine aw_f (by (first | (simp [eval_tmp, put_at]; done) | (simp [eval_tmp, put_at]; omega))) (by kernel_rfl) ?_
      refine aw_skip ?_
      refine aw_seq ?_
      (refine aw_ops (by kernel_rfl) (fun K hK => ?_); simp (disch := first | omega | (simp only [lnS]; try omega; done)) [-getElem?_pos, -getElem?_neg]; refine hK _ _ ?_; clear hK K)
      (refine aw_ret ?_; simp (disch := first | omega | (simp only [lnS]; try omega; done)) [-getElem?_pos, -getElem?_neg, thenQ_ret, scopeQ_ret, inBlockQ_ret, RQ, resL, resV])
      subst ho
      refine ⟨⟨fun j hj => by rw [hget_set_ne (by omega)]; exact hlow3.1 j hj, by simp; omega⟩, H.length, rv, FR, rfl, ⟨hget_set_eq (by omega), ?_, ?_, fun hm => by have := hdl _ hm; omega, fun hm => by have := hfr _ hm; omega, fun j hj hm => by have := hdl _ hj; have := hfr _ hm; omega⟩, ⟨hok.area, hok.size⟩, Nat.le_refl _, fun j hj => by have := hfr j hj; omega⟩
      · exact hd.low (fun j hj => by rw [hget_set_ne (by have := hdl j hj; omega)]; exact hlow3.1 j (hdl j hj))
      · exact (hown.low (fun j hj => hget_set_ne (by have := hfr j hj; omega))).g
end
section
def pgV (p : Nat × List Int) : List Value := [.int .i64 (p.1 : Nat), .string (strOfNums p.2)]
def pgC (ps : List (Nat × List Int)) : List Value := ps.flatMap pgV
theorem pgC_len (ps : List (Nat × List Int)) : (pgC ps).length = ps.length * 2 := by
  induction ps with
  | nil => rfl
  | cons p ps ih =>
    simp only [pgC, List.flatMap_cons, List.length_append, List.length_cons] at ih ⊢
    rw [ih]
    simp [pgV]
    omega
/-- So many pages of bytes, from block s on. -/
def pgL (s : Nat) (l : List Int) : Nat → List (Nat × List Int)
  | 0 => []
  | k + 1 => pgL s l k ++ [(s + k, fillB ((l.drop (256 * k)).take 256))]
theorem pgL_len (s : Nat) (l : List Int) : ∀ k, (pgL s l k).length = k
  | 0 => rfl
  | k + 1 => by simp [pgL, pgL_len s l k]
def JM.pageAt (J : JM) (a b : Nat) : Nat := J.start a + b / 256
def JM.pageB (J : JM) (a b : Nat) (xs : List Int) : List Int := if b % 256 = 0 then xs else (nums (J.D.late.getD (J.pageAt a b) ⟨#[]⟩)).take (b % 256) ++ xs
def JM.pages (J : JM) (a b : Nat) (xs : List Int) : List (Nat × List Int) := pgL (J.pageAt a b) (J.pageB a b xs) (((J.pageB a b xs).length + 255) / 256)
attribute [local irreducible] pgL
theorem nt_intJ (k : IntKind) (x : Int) : notTuple (.int k x) = true := rfl
theorem nt_aggJ (a : Array Value) : notTuple (.agg a) = true := rfl
attribute [local simp] wb_bool wb_undef XL_nil XL_cons XLc_val XLc_call step1_eq stepW_t stepW_f stepC_n stepC_s stepX_s stepX_n stepN_s calleeX oneV xop_eq xopR_s xopR_n wantedA_eq wantedG_n wantedG_s plain1_int plain1_bool plain1_string bits_i64 bits_u64 bits_u32 bits_u16 bits_u8 xeqA xagg xcmp xarr allK_iv num_iv calleeOf xread xeff xbin xint xnil xun xstr xload xconv xpart xfield xfieldAddr xindexAddr xindex bnd asInt? xslice xlen xmin xmax xbuild xfill xappend xapp2 xappstr xappmk xcap xcopy xcells eval_tmp eval_const put_at put_none fr0_at cells_agg cells_int cells_bool cells_string cells_ptr cells_slice notTuple tab iv_all hget_app hget_app0 hget_cons0 hget_cons set_app set_app0 setR setR_one QL_nil QL_cons QLc_val stepQ_t stepQ_f stepQC_n stepQC_s stepQX_s SL_nil SL_cons SLc_val stepS_t stepS_f ltT ltF leT leF eqT eqF ltTn ltFn leTn leFn eqTn eqFn beqT beqF bneT bneF wi64 wu64 wu32 wu16 wu8 tmodP tdivP hgetL hgetNe hgetEq setL nums_def nums_len Nat.succ_le_of_lt List.getElem?_cons_zero List.getElem?_cons_succ Option.getD_some Int.toNat_add Int.toNat_mul agB agI agS agP agL agA okB okI okS okP okSl okA
theorem pages_ac {nro : Nat} {γ : Nat → Option Nat} {H : AH} (hnl : nro ≤ H.length) {q d : Nat} {rv : Value} {FD FR : List Nat} {J : JM} (h : JrR H q d rv FD FR J) (a b : Nat) (ha : a ≤ 1) (xs : List Int) (hxb : By xs) (hxl : b + xs.length ≤ J.half * 256) :
    AC Tryz.prog nro γ 66 #[.pointer (some ⟨q, 0, none⟩), .int .i64 (a : Nat), .int .i64 (b : Nat), .string (strOfNums xs)] H
      (fun v' H' => Low H.length H H' ∧ ∃ F, OwnF H' v' 112 2 (pgC (J.pages a b xs)) F ∧ ∀ j ∈ F, H.length ≤ j) := by
  have h1 := h.hd.1.one
  have h2 := h.hd.1.most
  have hhf : 2 * J.half + 1 ≤ J.D.firm.length := by unfold JM.half; omega
  have hlate : ∀ r ∈ J.D.late, r.size = 256 := late_rows h.hd.1.rows (fun w hw => (h.hd.1.uns w hw).2)
  have hll : J.D.late.length = J.D.firm.length := late_len _ _
  have hst : J.start a + J.half ≤ J.D.firm.length := by
    unfold JM.start
    rcases Nat.le_one_iff_eq_zero_or_eq_one.1 ha with e | e <;> rw [e] <;> omega
  have hq := h.hq
  have hpa : J.pageAt a b = J.start a + b / 256 := rfl
  have hpb : J.pageB a b xs = if b % 256 = 0 then xs else (nums (J.D.late.getD (J.pageAt a b) ⟨#[]⟩)).take (b % 256) ++ xs := rfl
  have hpg : J.pages a b xs = pgL (J.pageAt a b) (J.pageB a b xs) (((J.pageB a b xs).length + 255) / 256) := rfl
  have hq2 : ((b : Nat) : Int).tdiv 256 = ((b / 256 : Nat) : Int) := by rw [Int.tdiv_eq_ediv_of_nonneg (by omega)]; omega
  have hm2 : ((b : Nat) : Int).tmod 256 = ((b % 256 : Nat) : Int) := by rw [Int.tmod_eq_emod_of_nonneg (by omega)]; omega
  refine ac_of_aw Tryz.func66 rfl Tryz.ntmps66 Tryz.results66 (by simp) ?_
  refine aw_seq ?_
  (refine aw_ops (by kernel_rfl) (fun K hK => ?_); simp (disch := first | omega | (simp only [lnS]; try omega; done)) [-getElem?_pos, -getElem?_neg]; refine hK _ _ ?_; clear hK K)
  refine aw_seq ?_
  refine aw_ops (by kernel_rfl) (fun K hK => ?_)
  simp (disch := first | omega | (simp only [lnS]; try omega; done)) [-getElem?_pos, -getElem?_neg]
  refine ⟨by kernel_rfl, AC.mono (start_ac (nro := nro) h a ha) ?_⟩
  rintro _ G ⟨rfl, e⟩
  rw [e]
  clear e G
  simp (disch := first | omega | (simp only [lnS]; try omega; done)) [-getElem?_pos, -getElem?_neg]
  refine hK _ _ ?_; clear hK K
  refine aw_seq ?_
  have hYb : By (J.pageB a b xs) := by
    rw [hpb]
    split
    · exact hxb
    · exact (By.take (fun x hx => nums_bd _ x hx) _).app hxb
  have hYl : (J.pageB a b xs).length ≤ 200000 := by
    have : J.half ≤ 512 := by unfold JM.half; omega
    rw [hpb]
    split
    · omega
    · rw [List.length_append, List.length_take]; omega
  rw [hpg]
  generalize hY : J.pageB a b xs = Y at *
  generalize hPa : J.pageAt a b = A at *
  refine aw_cut (fun α G => G = H ∧ α 0 = .pointer (some ⟨q, 0, none⟩) ∧ α 9 = .int .i64 (A : Nat) ∧ α 3 = .string (strOfNums Y)) ?_ ?_
  · refine aw_seq ?_
    by_cases hin : b % 256 = 0
    · rw [if_pos hin] at hpb
      have hin2 : ¬ 0 < b % 256 := by omega
      (refine aw_ops (by kernel_rfl) (fun K hK => ?_); simp (disch := first | omega | (simp only [lnS]; try omega; done)) [-getElem?_pos, -getElem?_neg, hm2, hq2, hin2]; refine hK _ _ ?_; clear hK K)
      refine aw_f (by (first | (simp [eval_tmp, put_at]; done) | (simp [eval_tmp, put_at]; omega))) (by kernel_rfl) ?_
      refine aw_skip ?_
      exact ⟨rfl, by (first | (simp [put_at, put_none, fr0_at]; done) | rfl), by (first | (simp [put_at, put_none, fr0_at, hpa]; done) | rfl), by (first | (simp [put_at, put_none, fr0_at, hpb]; done) | rfl)⟩
    · rw [if_neg hin] at hpb
      have hin2 : 0 < b % 256 := by omega
      have hAr : A < J.D.firm.length := by omega
      have hA : ((A : Nat) : Int) = (J.start a : Nat) + (b : Int) / 256 := by omega
      have hat : hasB J.D.firm.length ((A : Nat) : Int) = true := by simp [hasB]; omega
      have hrv : readV J.D.late ((A : Nat) : Int) = J.D.late.getD A ⟨#[]⟩ := by
        unfold readV
        rw [if_pos (by rw [hll]; exact hat)]
        simp
      have hrs : (J.D.late.getD A ⟨#[]⟩).size = 256 := by
        rw [List.getD_eq_getElem?_getD, List.getElem?_eq_getElem (by omega)]
        exact hlate _ (List.getElem_mem _)
      have hrd := read_ac (nro := nro) (γ := γ) h.hd ((A : Nat) : Int)
      rw [hrv, if_pos hat, hA] at hrd
      generalize J.D.late.getD A ⟨#[]⟩ = r at *
      have hm3 : ((b : Int) % 256).toNat = b % 256 := by omega
      have hx : r.extract 0 (b % 256) = strOfNums ((nums r).take (b % 256)) := by rw [← ex_take, of_nums']
      have hx1 : (strOfNums ((nums r).take (b % 256))).size = b % 256 := by rw [sn_size, List.length_take, nums_len, hrs]; omega
      have hx2 : (strOfNums xs).size = xs.length := sn_size xs
      have hhb : J.half ≤ 512 := by unfold JM.half; omega
      (refine aw_ops (by kernel_rfl) (fun K hK => ?_); simp (disch := first | omega | (simp only [lnS]; try omega; done)) [-getElem?_pos, -getElem?_neg, hm2, hq2, hin2]; refine hK _ _ ?_; clear hK K)
      refine aw_t (by (first | (simp [eval_tmp, put_at]; done) | (simp [eval_tmp, put_at]; omega))) (by kernel_rfl) ?_
      refine aw_seq ?_
      refine aw_ops (by kernel_rfl) (fun K hK => ?_)
      simp (disch := first | omega | (simp only [lnS]; try omega; done)) [-getElem?_pos, -getElem?_neg, hq]
      refine ⟨by kernel_rfl, AC.mono hrd ?_⟩
      rintro _ G ⟨rfl, e⟩
      rw [e]
      clear e G
      try simp (disch := first | omega | (simp only [lnS]; try omega; done)) [-getElem?_pos, -getElem?_neg]
      refine hK _ _ ?_; clear hK K
      (refine aw_ops (by kernel_rfl) (fun K hK => ?_); simp (disch := first | omega | (simp only [lnS]; try omega; done)) [-getElem?_pos, -getElem?_neg, hrs, hm3, hx, hx1, hx2, sn_app, hpb]; refine hK _ _ ?_; clear hK K)
      exact ⟨rfl, by (first | (simp [put_at, put_none, fr0_at]; done) | rfl), by (first | (simp [put_at, put_none, fr0_at, hpa]; done) | rfl), by (first | (simp [put_at, put_none, fr0_at, hpb]; done) | rfl)⟩
  rintro α G ⟨rfl, h0, h9, h3⟩
  refine aw_seq ?_
  (refine aw_ops (by kernel_rfl) (fun K hK => ?_); simp (disch := first | omega | (simp only [lnS]; try omega; done)) [-getElem?_pos, -getElem?_neg]; refine hK _ _ ?_; clear hK K)
  refine aw_seq ?_
  refine aw_block ?_
  refine aw_loop (fun c α G' => ∃ (k : Nat) (v : Value) (F : List Nat), k + c = (Y.length + 255) / 256 ∧ α 3 = .string (strOfNums (Y.drop (256 * k))) ∧ α 9 = .int .i64 ((A + k : Nat) : Int) ∧ α 13 = v ∧ OwnF G' v 112 2 (pgC (pgL A Y k)) F ∧ (∀ j ∈ F, G.length ≤ j) ∧ Low G.length G G') ((Y.length + 255) / 256) ?_ ?_
  · have : pgL A Y 0 = [] := by unfold pgL; rfl
    refine ⟨0, .slice none 0 0, [], by omega, by (first | (simp [put_at, put_none, fr0_at, h3]; done) | rfl), by (first | (simp [put_at, put_none, fr0_at, h9]; done) | rfl), by (first | (simp [put_at, put_none, fr0_at]; done) | rfl), ?_, by simp, Low.refl (Nat.le_refl _)⟩
    rw [this]
    exact .inl ⟨rfl, rfl, rfl⟩
  rintro c α G' ⟨k, v, F, hk, h3, h9, h13, hown, hF, hlow⟩
  refine aw_seq ?_
  refine aw_seq ?_
  have hdl : (Y.drop (256 * k)).length = Y.length - 256 * k := List.length_drop
  have hnx : pgL A Y (k + 1) = pgL A Y k ++ [(A + k, fillB ((Y.drop (256 * k)).take 256))] := by with_unfolding_all rfl
  have hnd : Y.drop (256 * (k + 1)) = (Y.drop (256 * k)).drop 256 := by rw [List.drop_drop]; congr 1
  generalize hW : Y.drop (256 * k) = W at *
  have hWs : (strOfNums W).size = W.length := sn_size W
  by_cases hw0 : W = []
  · subst hw0
    have hie : (strOfNums []).toList.isEmpty = true := by rw [sn_tl]; rfl
    (refine aw_ops (by kernel_rfl) (fun K hK => ?_); simp (disch := first | omega | (simp only [lnS]; try omega; done)) [-getElem?_pos, -getElem?_neg, h3, hie]; refine hK _ _ ?_; clear hK K)
    refine aw_f (by (first | (simp [eval_tmp, put_at]; done) | (simp [eval_tmp, put_at]; omega))) (by kernel_rfl) ?_
    refine aw_exit ?_
    refine aw_seq ?_
    have hsh := (show notTuple v = true by rcases hown with ⟨rfl, _, _⟩ | ⟨j, len, rfl, _, _, _⟩ <;> rfl)
    (refine aw_ops (by kernel_rfl) (fun K hK => ?_); simp (disch := first | omega | (simp only [lnS]; try omega; done)) [-getElem?_pos, -getElem?_neg, h13, -notTuple, hsh]; refine hK _ _ ?_; clear hK K)
    have hkN : k = (Y.length + 255) / 256 := by simp at hdl; omega
    rw [← hkN]
    (refine aw_ret ?_; simp (disch := first | omega | (simp only [lnS]; try omega; done)) [-getElem?_pos, -getElem?_neg, thenQ_ret, scopeQ_ret, inBlockQ_ret, RQ, resL, resV, -notTuple, hsh])
    exact ⟨hlow, F, hown, hF⟩
  · have hwl : 0 < W.length := List.length_pos_iff.2 hw0
    have hie : (strOfNums W).toList.isEmpty = false := by
      rw [sn_tl]
      cases W with
      | nil => exact absurd rfl hw0
      | cons x l => rfl
    (refine aw_ops (by kernel_rfl) (fun K hK => ?_); simp (disch := first | omega | (simp only [lnS]; try omega; done)) [-getElem?_pos, -getElem?_neg, h3, hie]; refine hK _ _ ?_; clear hK K)
    refine aw_t (by (first | (simp [eval_tmp, put_at]; done) | (simp [eval_tmp, put_at]; omega))) (by kernel_rfl) ?_
    refine aw_skip ?_
    refine aw_seq ?_
    refine aw_block ?_
    refine aw_seq ?_
    obtain ⟨n, hn⟩ : ∃ n : Nat, n = min W.length 256 := ⟨_, rfl⟩
    have hnI : (if (256 : Int) < (W.length : Nat) then (256 : Int) else (W.length : Nat)) = (n : Nat) := by split <;> omega
    have htk : W.take n = W.take 256 := by
      rw [hn, Nat.min_comm, ← List.take_take]
      simp
    have hdr : W.drop n = W.drop 256 := by
      by_cases h : W.length ≤ 256
      · rw [List.drop_of_length_le (by omega), List.drop_of_length_le h]
      · rw [hn, Nat.min_eq_right (by omega)]
    have hx1 : (strOfNums W).extract 0 n = strOfNums (W.take 256) := by rw [ex_take, htk]
    have hx2 : (strOfNums W).extract n W.length = strOfNums (W.drop 256) := by rw [ex_drop, hdr]
    have hfv := filled_vc (W.take 256) (by rw [List.length_take]; omega)
    (refine aw_ops (by kernel_rfl) (fun K hK => ?_); simp (disch := first | omega | (simp only [lnS]; try omega; done)) [-getElem?_pos, -getElem?_neg, h3, hWs, hnI]; refine hK _ _ ?_; clear hK K)
    refine aw_seq ?_
    refine aw_ops (by kernel_rfl) (fun K hK => ?_)
    have hsh := (show notTuple v = true by rcases hown with ⟨rfl, _, _⟩ | ⟨j, len, rfl, _, _, _⟩ <;> rfl)
    simp (disch := first | omega | (simp only [lnS]; try omega; done)) [-getElem?_pos, -getElem?_neg, h3, h9, h13, -notTuple, nt_strJ, nt_slJ, hsh, hWs, hx1]
    refine ⟨by kernel_rfl, ac_of_vc (by simp [pv_iv, pv_int, pv_bool, pv_string, pv_tup2, pv_tup3, iv_plain, p2_int, p2_bool, p2_string]) hfv ?_⟩
    obtain ⟨v', G3, hap, ho, hlen, hkk⟩ := ownF_append (P := Tryz.prog) (nro := nro) (t := 113) (e := 112) (H := G' ++ [some ⟨pgV (A + k, fillB (W.take 256)), 112, some 2⟩]) (v := v) (x := .slice (some ⟨G'.length, 0, none⟩) 1 1) (sz := 2) (cells := pgC (pgL A Y k)) (news := pgV (A + k, fillB (W.take 256))) (F := F)
      (by simp) (by simp) (by omega) (by simp) (hown.low (fun j hj => hget_left (hown.lt j hj))) (fun j hj => by have := hF j hj; omega) (fun s h => by cases h) (by simp [xcells, hget_app0, hget_cons0, pgV]) (by simp [pgV]) (by simp [pgV]) (by rw [pgC_len, pgL_len]; simp [pgV]; omega) (by rw [pgC_len, pgL_len]; simp [pgV, maxLen]; omega)
    have hs3 := own_shape ho
    have ho' : OwnF G3 v' 112 2 (pgC (pgL A Y (k + 1))) [G'.length + 1] := by
      rw [hnx, show pgC (pgL A Y k ++ [(A + k, fillB (W.take 256))]) = pgC (pgL A Y k) ++ pgV (A + k, fillB (W.take 256)) by simp [pgC]]
      simpa using ho
    simp only [pgV, Int.natCast_add] at hap
    have r2 : List.range 2 = [0, 1] := rfl
    simp (disch := first | omega | (simp only [lnS]; try omega; done)) [-getElem?_pos, -getElem?_neg, r2, -notTuple, nt_strJ, nt_slJ, nt_intJ, nt_aggJ, hsh, hs3.1, hs3.2, -xappend, hap]
    refine hK _ _ ?_; clear hK K
    have hk3 : ∀ j, j < G.length → hget G3 j = hget G' j := fun j hj => by
      have := hlow.2
      rw [hkk j (by simp; omega) (fun hm => by have := hF j hm; omega), hget_left (by omega)]
    (refine aw_ops (by kernel_rfl) (fun K hK => ?_); simp (disch := first | omega | (simp only [lnS]; try omega; done)) [-getElem?_pos, -getElem?_neg, h3, hWs, hx2]; refine hK _ _ ?_; clear hK K)
    (refine aw_ops (by kernel_rfl) (fun K hK => ?_); simp (disch := first | omega | (simp only [lnS]; try omega; done)) [-getElem?_pos, -getElem?_neg, h9]; refine hK _ _ ?_; clear hK K)
    refine ⟨c - 1, by omega, k + 1, v', [G'.length + 1], by omega, by (first | (simp [put_at, put_none, fr0_at, hnd]; done) | rfl), by (first | (simp [put_at, put_none, fr0_at]; done) | rfl), by (first | (simp [put_at, put_none, fr0_at]; done) | rfl), ho', by have := hlow.2; simp; omega, ⟨fun j hj => (hk3 j hj).trans (hlow.1 j hj), by have := hlow.2; simp at hlen; omega⟩⟩
end
section
theorem div_step (v k : Nat) : v / 128 ^ (k + 2) = v / 128 ^ (k + 1) / 128 := by
  rw [Nat.div_div_eq_div_mul, ← Nat.pow_succ]
theorem numB_low (n : Nat) : numB n = lowB n 4 := rfl
theorem numB_cut {n k : Nat} (h : n / 128 ^ (k + 1) = 0) (hk : k ≤ 4) : numB n = lowB n k := by
  rw [numB_low, lowB, lowB, hiG_cut h hk]
/-- The groups below those that are read. -/
theorem rdN_low : ∀ (k g v : Nat) (r : List Int), v ≤ 4294967295 → k < g → g ≤ 4 → (k ≠ 0 → v / 128 ^ (k + 1) ≠ 0) → rdN g (v / 128 ^ (k + 1)) (lowB v k ++ r) = (v, r, 0)
  | 0, 0, v, r, _, h, _, _ => by omega
  | 0, g + 1, v, r, hv, _, hg, _ => by
    simp only [lowB, hiG, List.nil_append, List.cons_append]
    unfold rdN
    simp only [Int.toNat_natCast]
    have e : v / 128 ^ (0 + 1) * 128 + v % 128 % 128 = v := by omega
    rw [if_neg (by rw [e]; omega), if_pos (by omega), e]
  | k + 1, 0, v, r, _, h, _, _ => by omega
  | k + 1, g + 1, v, r, hv, hk, hg, hne => by
    have h1 := hne (by omega)
    have h2 : v / 128 ^ (k + 1) ≠ 0 := fun h => h1 (by rw [div_step, h])
    rw [lowB_next h2, List.cons_append, div_step]
    have hle : v / 128 ^ (k + 1) ≤ v := Nat.div_le_self _ _
    generalize hq : v / 128 ^ (k + 1) = q at *
    unfold rdN
    have e0 : ((((q % 128 : Nat) : Int) + 128).toNat) % 128 = q % 128 := by omega
    have e : q / 128 * 128 + ((((q % 128 : Nat) : Int) + 128).toNat) % 128 = q := by rw [e0]; omega
    rw [if_neg (by rw [e]; omega), if_neg (by omega), e, ← hq]
    exact rdN_low k g v r hv (by omega) (by omega) (fun _ => by rw [hq]; exact h2)
theorem top_group {v : Nat} (hv : v ≤ 4294967295) : v < 128 ∨ ∃ k, k < 4 ∧ v / 128 ^ (k + 1) ≠ 0 ∧ v / 128 ^ (k + 2) = 0 := by
  by_cases h0 : v < 128
  · exact .inl h0
  right
  by_cases h1 : v / 128 ^ 2 = 0
  · exact ⟨0, by omega, by omega, h1⟩
  by_cases h2 : v / 128 ^ 3 = 0
  · exact ⟨1, by omega, h1, h2⟩
  by_cases h3 : v / 128 ^ 4 = 0
  · exact ⟨2, by omega, h2, h3⟩
  · exact ⟨3, by omega, h3, by omega⟩
theorem rdNum_back {v : Nat} (hv : v ≤ 4294967295) (r : List Int) : rdNum (numB v ++ r) = (v, r, 0) := by
  have : rdN 5 0 (numB v ++ r) = (v, r, 0) := by
    rcases top_group hv with h0 | ⟨k, hk, h1, h2⟩
    · rw [numB_cut (n := v) (k := 0) (by omega) (by omega)]
      simp only [lowB, hiG, List.nil_append, List.cons_append]
      unfold rdN
      simp only [Int.toNat_natCast]
      have e : 0 * 128 + v % 128 % 128 = v := by omega
      rw [if_neg (by rw [e]; omega), if_pos (by omega), e]
    · rw [numB_cut (n := v) (k := k + 1) h2 (by omega), lowB_next h1, List.cons_append]
      rw [div_step] at h2
      have hlow := rdN_low k 4 v r hv (by omega) (by omega) (fun _ => h1)
      have hle : v / 128 ^ (k + 1) ≤ v := Nat.div_le_self _ _
      generalize v / 128 ^ (k + 1) = q at *
      unfold rdN
      have e : 0 * 128 + ((((q % 128 : Nat) : Int) + 128).toNat) % 128 = q := by omega
      rw [if_neg (by rw [e]; omega), if_neg (by omega), e]
      exact hlow
  unfold rdNum
  rw [this]
  rfl
end
section
theorem rdCount_back {n : Nat} {most : Int} (h1 : (n : Int) ≤ max most 0) (h2 : n ≤ 4294967295) (r : List Int) : rdCount most (numB n ++ r) = (n, r, 0) := by
  unfold rdCount
  rw [rdNum_back h2]
  simp only [ne_eq, not_true_eq_false, if_false]
  rw [if_neg (by omega)]
theorem rdText_back {s : ByteArray} {most : Int} (h1 : (s.size : Int) ≤ most) (h2 : s.size ≤ 4294967295) (r : List Int) : rdText most (textB s ++ r) = (nums s, r, 0) := by
  unfold rdText textB
  rw [List.append_assoc, rdCount_back (by omega) h2]
  have := nums_size s
  simp only [ne_eq, not_true_eq_false, if_false]
  rw [if_neg (by rw [List.length_append]; omega), ← this, List.take_left, List.drop_left]
end
section
theorem textB_pos (s : ByteArray) : 0 < (textB s).length := by
  unfold textB numB
  simp
  omega
theorem recs_back : ∀ (ps acc : List ByteArray) (f : Nat), (∀ s ∈ ps, s.size ≤ 60000) → (textsB ps).length ≤ f → recsR f (textsB ps) acc = some (acc ++ ps)
  | [], acc, f, _, _ => by
    have : textsB [] = [] := rfl
    rw [this]
    cases f <;> simp [recsR]
  | s :: ps, acc, f, hs, hf => by
    have e : textsB (s :: ps) = textB s ++ textsB ps := by simp [textsB]
    have hp := textB_pos s
    rw [e, List.length_append] at hf
    obtain ⟨f', rfl⟩ : ∃ f', f = f' + 1 := ⟨f - 1, by omega⟩
    have hsz := hs s (by simp)
    have hr := rdText_back (s := s) (most := 60000) (by omega) (by omega) (textsB ps)
    rw [e, recsR, if_neg (fun h => by have := congrArg List.length h; rw [List.length_append, List.length_nil] at this; omega), hr]
    simp only [ne_eq, not_true_eq_false, if_false]
    rw [of_nums', recs_back ps _ f' (fun x hx => hs x (by simp [hx])) (by omega)]
    simp
theorem mark_get (a n k : Nat) (hk : k < 9) : (markL a n).getD k 0 = (headL a n).getD k 0 := by
  unfold markL
  rw [List.getD_eq_getElem?_getD, List.getElem?_append_left (by rw [headL_len]; exact hk), ← List.getD_eq_getElem?_getD]
theorem mArea_mark {a n : Nat} (ha : a < 256) : mArea (markL a n) = a := by
  unfold mArea
  rw [mark_get a n 4 (by omega)]
  show ((a : Int) % 256).toNat = a
  omega
theorem mSize_mark {a n : Nat} (hn : n < 4294967296) : mSize (markL a n) = n := by
  unfold mSize
  rw [mark_get a n 5 (by omega), mark_get a n 6 (by omega), mark_get a n 7 (by omega), mark_get a n 8 (by omega)]
  show (((n : Int) / 16777216 % 256) * 16777216 + ((n : Int) / 65536 % 256) * 65536 + ((n : Int) / 256 % 256) * 256 + (n : Int) % 256).toNat = n
  omega
theorem isMark_mark {a n : Nat} (ha : a < 2) (hn : n < 4294967296) : isMark (markL a n) = true := by
  unfold isMark
  rw [mArea_mark (by omega), mSize_mark hn]
  simp [ha]
theorem mark_ne {a n : Nat} : markL a n ≠ zl 64 := fun h => by
  have h1 := mark_get a n 0 (by omega)
  rw [h] at h1
  revert h1
  show ¬ (0 : Int) = 109
  decide
end
section
/-- A list's own slice: nil, or the whole of a block above lo. -/
def OwnL (lo : Nat) (H : AH) (v : Value) (cells : List Value) : Prop :=
  (v = .slice none 0 0 ∧ cells = []) ∨ ∃ j cs, lo ≤ j ∧ v = .slice (some ⟨j, 0, none⟩) cells.length cells.length ∧ hget H j = some ⟨cs, 9, some 1⟩ ∧ cells <+: cs
theorem OwnL.low {lo : Nat} {H H' : AH} {v : Value} {cells : List Value} (h : OwnL lo H v cells) (hl : ∀ j, lo ≤ j → j < H.length → hget H' j = hget H j) : OwnL lo H' v cells := by
  rcases h with h | ⟨j, cs, h1, h2, h3, h4⟩
  · exact .inl h
  · exact .inr ⟨j, cs, h1, h2, by rw [hl j h1 (hget_lt h3)]; exact h3, h4⟩
theorem OwnL.nt {lo : Nat} {H : AH} {v : Value} {cells : List Value} (h : OwnL lo H v cells) : notTuple v = true := by
  rcases h with ⟨rfl, _⟩ | ⟨j, cs, _, rfl, _⟩ <;> rfl
theorem ownL_append {P : Program} {nro lo : Nat} {t : TypeId} {H : AH} {v x : Value} {cells news : List Value} (hu : und P t = .slice 9) (hs : szt P 9 = 1) (hz : (zer P 9).map (·.cells.size) = some 1) (hby : byt P 9 = 16)
    (hv : OwnL lo H v cells) (hnro : nro ≤ lo) (hlo : lo ≤ H.length) (hstr : ∀ s, x ≠ .string s) (hx : xcells 1 x H = some news) (hb : cells.length + news.length ≤ 1000000) :
    ∃ v' H', xappend P nro t v x H = some (v', H') ∧ OwnL lo H' v' (cells ++ news) ∧ H.length ≤ H'.length ∧ (∀ j, j < lo → hget H' j = hget H j) ∧ ((v = .slice none 0 0 ∧ news = [] ∧ v' = .slice none 0 0) ∨ (¬ (v = .slice none 0 0 ∧ news = []) ∧ v' = .slice (some ⟨H.length, 0, none⟩) (cells.length + news.length) (cells.length + news.length) ∧ H'.length = H.length + 1)) := by
  rcases hv with ⟨rfl, rfl⟩ | ⟨j, cs, h1, rfl, h3, h4⟩
  · by_cases hn : news = []
    · subst hn
      refine ⟨.slice none 0 0, H, ?_, .inl ⟨rfl, rfl⟩, Nat.le_refl _, fun _ _ => rfl, .inl ⟨rfl, rfl, rfl⟩⟩
      unfold xappend
      cases x <;> first | (exact absurd rfl (hstr _)) | (simp only [hu, hs, hx]; rw [if_pos ⟨by omega, hz, by simp, by simp⟩]; first | rw [if_pos rfl] | rw [if_pos trivial])
    · refine ⟨.slice (some ⟨H.length, 0, none⟩) (news.length / 1) (news.length / 1), H ++ [some ⟨news, 9, some 1⟩], ?_, .inr ⟨H.length, _, hlo, by simp, by rw [hget_app0]; rfl, List.prefix_rfl⟩, by simp, fun i hi => hget_left (by omega), .inr ⟨fun h => hn h.2, by simp, by simp⟩⟩
      simp only [List.length_nil, Nat.zero_add] at hb
      unfold xappend
      cases x <;> first | (exact absurd rfl (hstr _)) | (simp only [hu, hs, hx]; rw [if_pos ⟨by omega, hz, by rw [hby]; omega, by simp only [maxLen]; omega⟩, if_neg hn])
  · have hj := hget_lt h3
    have hpl := h4.length_le
    have hpt : cs.take cells.length = cells := by obtain ⟨r, rfl⟩ := h4; simp
    refine ⟨.slice (some ⟨H.length, 0, none⟩) (cells.length + news.length / 1) (cells.length + news.length / 1), H.set j none ++ [some ⟨cells ++ news, 9, some 1⟩], ?_, .inr ⟨H.length, _, hlo, by simp, by rw [hga0]; rfl, List.prefix_rfl⟩, by simp, fun i hi => ?_, .inr ⟨fun h => (by cases h.1), by simp, by simp⟩⟩
    · have hc : True ∧ 0 < 1 ∧ (zer P 9).map (·.cells.size) = some 1 ∧ nro ≤ j ∧ True ∧ True ∧ cells.length * 1 ≤ cs.length ∧ (cells.length * 1 + news.length) * byt P 9 ≤ 140737488355328 ∧ cells.length * 1 + news.length ≤ maxLen :=
        ⟨trivial, by omega, hz, by omega, trivial, trivial, by omega, by rw [hby]; omega, by simp only [maxLen]; omega⟩
      unfold xappend
      cases x <;> first | (exact absurd rfl (hstr _)) | (simp only [hu, hs, hx, h3]; rw [if_pos hc, Nat.mul_one, hpt])
    · rw [hget_left (by simp; omega), hget_set_ne (by omega)]
/-- Parts that are shown, as long as nothing below lo is turned. -/
def Part (H : AH) (lo : Nat) (x : Value) (cells : List Value) : Prop := (∃ a c, x = .slice a cells.length c) ∧ ∀ G : AH, (∀ j, j < lo → hget G j = hget H j) → xcells 1 x G = some cells
theorem OwnL.part {lo : Nat} {H : AH} {v : Value} {cells : List Value} (h : OwnL lo H v cells) : Part H H.length v cells := by
  rcases h with ⟨rfl, rfl⟩ | ⟨j, cs, h1, rfl, h3, h4⟩
  · exact ⟨⟨none, 0, rfl⟩, fun G _ => rfl⟩
  · refine ⟨⟨_, _, rfl⟩, fun G hG => ?_⟩
    have hpl := h4.length_le
    have hpt : cs.take cells.length = cells := by obtain ⟨r, rfl⟩ := h4; simp
    have hg : hget G j = _ := (hG j (hget_lt h3)).trans h3
    simp [xcells, hg, hpl, hpt]
theorem Part.keep {H H' : AH} {lo lo' : Nat} {x : Value} {cells : List Value} (h : Part H lo x cells) (hl : lo ≤ lo') (hg : ∀ j, j < lo → hget H' j = hget H j) : Part H' lo' x cells :=
  ⟨h.1, fun G hG => h.2 G (fun j hj => (hG j (by omega)).trans (hg j hj))⟩
theorem Part.nt {H : AH} {lo : Nat} {x : Value} {cells : List Value} (h : Part H lo x cells) : notTuple x = true := by
  obtain ⟨⟨a, c, rfl⟩, _⟩ := h; rfl
theorem Part.ns {H : AH} {lo : Nat} {x : Value} {cells : List Value} (h : Part H lo x cells) : ∀ s, x ≠ .string s := by
  obtain ⟨⟨a, c, rfl⟩, _⟩ := h
  intro s e; cases e
theorem Part.len {P : Program} {H : AH} {lo : Nat} {x : Value} {cells : List Value} {t e : TypeId} (h : Part H lo x cells) (ht : und P t = .slice e) : xlen P t x = some (.int .i64 cells.length) := by
  obtain ⟨⟨a, c, rfl⟩, _⟩ := h
  simp [xlen, ht]
/-- What Concat answers. -/
def sumL (L : List (List Value)) (i : Nat) : Nat := ((L.take i).map List.length).sum
theorem sumL_next {L : List (List Value)} {i : Nat} {c : List Value} (h : L[i]? = some c) : sumL L (i + 1) = sumL L i + c.length := by
  unfold sumL
  rw [List.take_add_one, h]
  simp
theorem flat_len (L : List (List Value)) (i : Nat) : ((L.take i).flatten).length = sumL L i := by
  unfold sumL
  rw [List.length_flatten]
theorem sumL_mono (L : List (List Value)) {i j : Nat} (h : i ≤ j) : sumL L i ≤ sumL L j := by
  induction j with
  | zero => have : i = 0 := by omega
            subst this; exact Nat.le_refl _
  | succ j ih =>
    rcases Nat.eq_or_lt_of_le h with rfl | h
    · exact Nat.le_refl _
    · have := ih (by omega)
      cases hc : L[j]? with
      | none => unfold sumL at this ⊢; rw [List.take_add_one, hc]; simpa using this
      | some c => rw [sumL_next hc]; omega
theorem zero_strs (n : Nat) : ((List.range n).map fun j => [Value.string ByteArray.empty][j % 1]?.getD undef) = List.replicate n (.string ByteArray.empty) := by
  have e : (fun j : Nat => [Value.string ByteArray.empty][j % 1]?.getD undef) = fun _ => Value.string ByteArray.empty := by
    funext j
    rw [Nat.mod_one]; rfl
  rw [e, List.map_const', List.length_range]
def cV (n : Nat) (L : List (List Value)) : Value := if sumL L L.length = 0 then .slice none 0 0 else .slice (some ⟨n + L.length, 0, none⟩) (sumL L L.length) (sumL L L.length)
attribute [local simp] wb_bool wb_undef XL_nil XL_cons XLc_val XLc_call step1_eq stepW_t stepW_f stepC_n stepC_s stepX_s stepX_n stepN_s calleeX oneV xop_eq xopR_s xopR_n wantedA_eq wantedG_n wantedG_s plain1_int plain1_bool plain1_string bits_i64 bits_u64 bits_u32 bits_u16 bits_u8 xeqA xagg xcmp xarr allK_iv num_iv calleeOf xread xeff xbin xint xnil xun xstr xload xconv xpart xfield xfieldAddr xindexAddr xindex bnd asInt? xslice xlen xmin xmax xbuild xfill xappend xapp2 xappstr xappmk xcap xcopy xcells eval_tmp eval_const put_at put_none fr0_at cells_agg cells_int cells_bool cells_string cells_ptr cells_slice notTuple tab iv_all hget_app hget_app0 hget_cons0 hget_cons set_app set_app0 setR setR_one QL_nil QL_cons QLc_val stepQ_t stepQ_f stepQC_n stepQC_s stepQX_s SL_nil SL_cons SLc_val stepS_t stepS_f ltT ltF leT leF eqT eqF ltTn ltFn leTn leFn eqTn eqFn beqT beqF bneT bneF wi64 wu64 wu32 wu16 wu8 tmodP tdivP hgetL hgetNe hgetEq setL nums_def nums_len Nat.succ_le_of_lt List.getElem?_cons_zero List.getElem?_cons_succ Option.getD_some Int.toNat_add Int.toNat_mul agB agI agS agP agL agA okB okI okS okP okSl okA
section
variable {H : AH} {γ : Nat → Option Nat} {nro : Nat}
theorem grow_ac (n : Nat) (hn : n ≤ 1000000) (hnro : nro ≤ H.length) : AC Tryz.prog nro γ 69 #[.slice none 0 0, .int .i64 (n : Nat)] H (fun v' H' => OwnL H.length H' v' [] ∧ H.length ≤ H'.length ∧ (∀ j, j < H.length → hget H' j = hget H j) ∧ ((n = 0 ∧ v' = .slice none 0 0) ∨ (0 < n ∧ v' = .slice (some ⟨H.length, 0, none⟩) 0 0 ∧ H'.length = H.length + 1))) := by
  refine ac_of_aw Tryz.func69 rfl Tryz.ntmps69 Tryz.results69 (by simp) ?_
  refine aw_seq ?_
  (refine aw_ops (by kernel_rfl) (fun K hK => ?_); simp (disch := first | omega | (simp only [lnS]; try omega; done)) [-getElem?_pos, -getElem?_neg]; refine hK _ _ ?_; clear hK K)
  refine aw_seq ?_
  refine aw_seq ?_
  (refine aw_ops (by kernel_rfl) (fun K hK => ?_); simp (disch := first | omega | (simp only [lnS]; try omega; done)) [-getElem?_pos, -getElem?_neg]; refine hK _ _ ?_; clear hK K)
  refine aw_f (by (first | (simp [eval_tmp, put_at]; done) | (simp [eval_tmp, put_at]; omega))) (by kernel_rfl) ?_
  refine aw_skip ?_
  refine aw_seq ?_
  refine aw_seq ?_
  (refine aw_ops (by kernel_rfl) (fun K hK => ?_); simp (disch := first | omega | (simp only [lnS]; try omega; done)) [-getElem?_pos, -getElem?_neg]; refine hK _ _ ?_; clear hK K)
  refine aw_seq ?_
  by_cases h0 : 0 < n
  · (refine aw_ops (by kernel_rfl) (fun K hK => ?_); simp (disch := first | omega | (simp only [lnS]; try omega; done)) [-getElem?_pos, -getElem?_neg, h0]; refine hK _ _ ?_; clear hK K)
    refine aw_t (by (first | (simp [eval_tmp, put_at, h0]; done) | (simp [eval_tmp, put_at, h0]; omega))) (by kernel_rfl) ?_
    have hm1 : (n : Int) ≤ maxLen := by simp only [maxLen]; omega
    (refine aw_ops (by kernel_rfl) (fun K hK => ?_); simp (disch := first | omega | (simp only [lnS]; try omega; done)) [-getElem?_pos, -getElem?_neg, h0, zero_strs, hm1]; refine hK _ _ ?_; clear hK K)
    refine aw_seq ?_
    (refine aw_ops (by kernel_rfl) (fun K hK => ?_); simp (disch := first | omega | (simp only [lnS]; try omega; done)) [-getElem?_pos, -getElem?_neg]; refine hK _ _ ?_; clear hK K)
    (refine aw_ret ?_; simp (disch := first | omega | (simp only [lnS]; try omega; done)) [-getElem?_pos, -getElem?_neg, thenQ_ret, scopeQ_ret, inBlockQ_ret, RQ, resL, resV])
    refine ⟨.inr ⟨H.length, _, Nat.le_refl _, by simp, by rw [hget_app0]; rfl, List.nil_prefix⟩, fun j hj => hget_left hj⟩
  · obtain rfl : n = 0 := by omega
    (refine aw_ops (by kernel_rfl) (fun K hK => ?_); simp (disch := first | omega | (simp only [lnS]; try omega; done)) [-getElem?_pos, -getElem?_neg]; refine hK _ _ ?_; clear hK K)
    refine aw_f (by (first | (simp [eval_tmp, put_at]; done) | (simp [eval_tmp, put_at]; omega))) (by kernel_rfl) ?_
    refine aw_skip ?_
    refine aw_seq ?_
    (refine aw_ops (by kernel_rfl) (fun K hK => ?_); simp (disch := first | omega | (simp only [lnS]; try omega; done)) [-getElem?_pos, -getElem?_neg]; refine hK _ _ ?_; clear hK K)
    (refine aw_ret ?_; simp (disch := first | omega | (simp only [lnS]; try omega; done)) [-getElem?_pos, -getElem?_neg, thenQ_ret, scopeQ_ret, inBlockQ_ret, RQ, resL, resV])
    exact .inl ⟨rfl, rfl⟩
/-- What Concat makes of its parts. -/
theorem concat_ac {v : Value} {j : Nat} {xs : List Value} {L : List (List Value)} (hj : hget H j = some ⟨xs, 36, some 1⟩) (hxl : xs.length = L.length) (hp : ∀ (i : Nat) (x : Value) (c : List Value), xs[i]? = some x → L[i]? = some c → Part H H.length x c) (hs : sumL L L.length ≤ 1000000) (hl : L.length ≤ 1000) (hnro : nro ≤ H.length) :
    AC Tryz.prog nro γ 39 #[.slice (some ⟨j, 0, none⟩) L.length L.length] H (fun v' H' => v' = cV H.length L ∧ OwnL H.length H' v' L.flatten ∧ H.length ≤ H'.length ∧ ∀ j, j < H.length → hget H' j = hget H j) := by
  have hjl := hget_lt hj
  refine ac_of_aw Tryz.func39 rfl Tryz.ntmps39 Tryz.results39 (by simp) ?_
  refine aw_seq ?_
  (refine aw_ops (by kernel_rfl) (fun K hK => ?_); simp (disch := first | omega | (simp only [lnS]; try omega; done)) [-getElem?_pos, -getElem?_neg]; refine hK _ _ ?_; clear hK K)
  refine aw_seq ?_
  (refine aw_ops (by kernel_rfl) (fun K hK => ?_); simp (disch := first | omega | (simp only [lnS]; try omega; done)) [-getElem?_pos, -getElem?_neg]; refine hK _ _ ?_; clear hK K)
  refine aw_seq ?_
  refine aw_seq ?_
  (refine aw_ops (by kernel_rfl) (fun K hK => ?_); simp (disch := first | omega | (simp only [lnS]; try omega; done)) [-getElem?_pos, -getElem?_neg]; refine hK _ _ ?_; clear hK K)
  refine aw_block ?_
  refine aw_loop (fun c α G => ∃ i : Nat, i + c = L.length ∧ α 11 = .int .i64 (i : Nat) ∧ α 10 = .int .i64 (L.length : Nat) ∧ α 9 = .slice (some ⟨j, 0, none⟩) L.length L.length ∧ α 0 = .slice (some ⟨j, 0, none⟩) L.length L.length ∧ α 3 = .int .i64 (sumL L i : Nat) ∧ G = H) L.length ?_ ?_
  · exact ⟨0, by omega, by (first | (simp [put_at, put_none, fr0_at]; done) | rfl), by (first | (simp [put_at, put_none, fr0_at]; done) | rfl), by (first | (simp [put_at, put_none, fr0_at]; done) | rfl), by (first | (simp [put_at, put_none, fr0_at]; done) | rfl), by (first | (simp [put_at, put_none, fr0_at]; done) | rfl), rfl⟩
  rintro c α G ⟨i, hic, h11, h10, h9, h0, h3, rfl⟩
  refine aw_seq ?_
  (refine aw_ops (by kernel_rfl) (fun K hK => ?_); simp (disch := first | omega | (simp only [lnS]; try omega; done)) [-getElem?_pos, -getElem?_neg, h11, h10]; refine hK _ _ ?_; clear hK K)
  refine aw_seq ?_
  by_cases hi : i < L.length
  · refine aw_t (by (first | (simp [eval_tmp, put_at, hi]; done) | (simp [eval_tmp, put_at, hi]; omega))) (by kernel_rfl) ?_
    obtain ⟨x, hx⟩ : ∃ x, xs[i]? = some x := ⟨_, List.getElem?_eq_getElem (by omega)⟩
    obtain ⟨cc, hcc⟩ : ∃ cc, L[i]? = some cc := ⟨_, List.getElem?_eq_getElem hi⟩
    have hpt := hp i x cc hx hcc
    have hnt := hpt.nt
    have hln := hpt.len (P := Tryz.prog) (t := 36) (e := 9) (by simp)
    have hsn := sumL_next hcc
    have hsm := sumL_mono L (i := i + 1) (j := L.length) (by omega)
    refine aw_skip ?_
    refine aw_seq ?_
    refine aw_block ?_
    refine aw_seq ?_
    (refine aw_ops (by kernel_rfl) (fun K hK => ?_); simp (disch := first | omega | (simp only [lnS]; try omega; done)) [-getElem?_pos, -getElem?_neg, h9, h11, hj, hx]; refine hK _ _ ?_; clear hK K)
    refine aw_seq ?_
    (refine aw_ops (by kernel_rfl) (fun K hK => ?_); simp (disch := first | omega | (simp only [lnS]; try omega; done)) [-getElem?_pos, -getElem?_neg, h3, -xlen, hln]; refine hK _ _ ?_; clear hK K)
    refine aw_seq ?_
    (refine aw_ops (by kernel_rfl) (fun K hK => ?_); simp (disch := first | omega | (simp only [lnS]; try omega; done)) [-getElem?_pos, -getElem?_neg]; refine hK _ _ ?_; clear hK K)
    refine aw_f (by (first | (simp [eval_tmp, put_at]; done) | (simp [eval_tmp, put_at]; omega))) (by kernel_rfl) ?_
    refine aw_skip ?_
    (refine aw_ops (by kernel_rfl) (fun K hK => ?_); simp (disch := first | omega | (simp only [lnS]; try omega; done)) [-getElem?_pos, -getElem?_neg, h11]; refine hK _ _ ?_; clear hK K)
    exact ⟨c - 1, by omega, i + 1, by omega, by (first | (simp [put_at, put_none, fr0_at]; done) | rfl), by (first | (simp [put_at, put_none, fr0_at, h10]; done) | rfl), by (first | (simp [put_at, put_none, fr0_at, h9]; done) | rfl), by (first | (simp [put_at, put_none, fr0_at, h0]; done) | rfl), by simp [put_at, hsn], rfl⟩
  · obtain rfl : i = L.length := by omega
    refine aw_f (by (first | (simp [eval_tmp, put_at]; done) | (simp [eval_tmp, put_at]; omega))) (by kernel_rfl) ?_
    refine aw_exit ?_
    have hgr := grow_ac (H := G) (γ := γ) (nro := nro) (sumL L L.length) hs hnro
    refine aw_seq ?_
    refine aw_ops (by kernel_rfl) (fun K hK => ?_)
    simp (disch := first | omega | (simp only [lnS]; try omega; done)) [-getElem?_pos, -getElem?_neg, h3]
    refine ⟨by kernel_rfl, hgr.mono ?_⟩
    rintro v1 G1 ⟨ho1, hl1, hk1, hd1⟩
    have hnt1 := ho1.nt
    try simp (disch := first | omega | (simp only [lnS]; try omega; done)) [-getElem?_pos, -getElem?_neg]
    refine hK _ _ ?_; clear hK K
    refine aw_seq ?_
    refine aw_seq ?_
    (refine aw_ops (by kernel_rfl) (fun K hK => ?_); simp (disch := first | omega | (simp only [lnS]; try omega; done)) [-getElem?_pos, -getElem?_neg, h0]; refine hK _ _ ?_; clear hK K)
    refine aw_block ?_
    have hj1 : hget G1 j = _ := (hk1 j hjl).trans hj
    refine aw_loop (fun c α G2 => ∃ i : Nat, i + c = L.length ∧ α 27 = .int .i64 (i : Nat) ∧ α 26 = .int .i64 (L.length : Nat) ∧ α 25 = .slice (some ⟨j, 0, none⟩) L.length L.length ∧ OwnL G.length G2 (α 6) (L.take i).flatten ∧ G.length ≤ G2.length ∧ (∀ j, j < G.length → hget G2 j = hget G j) ∧ ((sumL L L.length = 0 ∧ α 6 = .slice none 0 0) ∨ (0 < sumL L L.length ∧ α 6 = .slice (some ⟨G.length + i, 0, none⟩) (sumL L i) (sumL L i) ∧ G2.length = G.length + 1 + i))) L.length ?_ ?_
    · exact ⟨0, by omega, by (first | (simp [put_at, put_none, fr0_at]; done) | rfl), by (first | (simp [put_at, put_none, fr0_at]; done) | rfl), by (first | (simp [put_at, put_none, fr0_at, h0]; done) | rfl), by simp only [put_at]; simpa using ho1, hl1, hk1, by simp only [put_at]; simpa [sumL] using hd1⟩
    clear h11 h10 h9 h0 h3 ho1 hl1 hk1 hj1 hnt1 hgr hd1
    rintro c2 α G2 ⟨i, hic, h27, h26, h25, ho, hl2, hk2, hd2⟩
    have hj2 : hget G2 j = _ := (hk2 j hjl).trans hj
    obtain ⟨v6, h6⟩ : ∃ v6, α 6 = v6 := ⟨_, rfl⟩
    rw [h6] at ho hd2
    have hnt6 := ho.nt
    refine aw_seq ?_
    (refine aw_ops (by kernel_rfl) (fun K hK => ?_); simp (disch := first | omega | (simp only [lnS]; try omega; done)) [-getElem?_pos, -getElem?_neg, h27, h26]; refine hK _ _ ?_; clear hK K)
    refine aw_seq ?_
    by_cases hi : i < L.length
    · refine aw_t (by (first | (simp [eval_tmp, put_at, hi]; done) | (simp [eval_tmp, put_at, hi]; omega))) (by kernel_rfl) ?_
      obtain ⟨x, hx⟩ : ∃ x, xs[i]? = some x := ⟨_, List.getElem?_eq_getElem (by omega)⟩
      obtain ⟨cc, hcc⟩ : ∃ cc, L[i]? = some cc := ⟨_, List.getElem?_eq_getElem hi⟩
      have hpt := hp i x cc hx hcc
      have hnt := hpt.nt
      have hfl := flat_len L i
      have hsn := sumL_next hcc
      have hsm := sumL_mono L (i := i + 1) (j := L.length) (by omega)
      obtain ⟨v7, G3, hap, ho3, hl3, hk3, hd3⟩ := ownL_append (P := Tryz.prog) (nro := nro) (t := 36) (by simp) (by simp) (by simp) (by simp) ho hnro hl2 hpt.ns (hpt.2 G2 hk2) (by omega)
      have hnt7 := ho3.nt
      refine aw_skip ?_
      refine aw_seq ?_
      refine aw_block ?_
      refine aw_seq ?_
      (refine aw_ops (by kernel_rfl) (fun K hK => ?_); simp (disch := first | omega | (simp only [lnS]; try omega; done)) [-getElem?_pos, -getElem?_neg, h25, h27, hj2, hx]; refine hK _ _ ?_; clear hK K)
      (refine aw_ops (by kernel_rfl) (fun K hK => ?_); simp (disch := first | omega | (simp only [lnS]; try omega; done)) [-getElem?_pos, -getElem?_neg, h6, -xappend, hap]; refine hK _ _ ?_; clear hK K)
      (refine aw_ops (by kernel_rfl) (fun K hK => ?_); simp (disch := first | omega | (simp only [lnS]; try omega; done)) [-getElem?_pos, -getElem?_neg, h27]; refine hK _ _ ?_; clear hK K)
      refine ⟨c2 - 1, by omega, i + 1, by omega, by (first | (simp [put_at, put_none, fr0_at]; done) | rfl), by (first | (simp [put_at, put_none, fr0_at, h26]; done) | rfl), by (first | (simp [put_at, put_none, fr0_at, h25]; done) | rfl), ?_, by omega, fun j hj => (hk3 j hj).trans (hk2 j hj), ?_⟩
      · simp only [put_at]
        rw [List.take_add_one, hcc]
        simpa using ho3
      · rw [hfl] at hd3
        rcases hd2 with ⟨hz, hv⟩ | ⟨hz, hv, hg⟩
        · left
          have hc0 : cc = [] := List.eq_nil_of_length_eq_zero (by omega)
          rcases hd3 with ⟨_, _, h⟩ | ⟨h, _⟩
          · exact ⟨hz, by simp [put_at, h]⟩
          · exact absurd ⟨hv, hc0⟩ h
        · right
          rcases hd3 with ⟨h, _, _⟩ | ⟨_, h, h2⟩
          · rw [hv] at h; cases h
          · exact ⟨hz, by simp [put_at, h, hsn, hg, Nat.add_assoc, Nat.add_comm 1], by omega⟩
    · obtain rfl : i = L.length := by omega
      refine aw_f (by (first | (simp [eval_tmp, put_at]; done) | (simp [eval_tmp, put_at]; omega))) (by kernel_rfl) ?_
      refine aw_exit ?_
      refine aw_seq ?_
      (refine aw_ops (by kernel_rfl) (fun K hK => ?_); simp (disch := first | omega | (simp only [lnS]; try omega; done)) [-getElem?_pos, -getElem?_neg, h6]; refine hK _ _ ?_; clear hK K)
      (refine aw_ret ?_; simp (disch := first | omega | (simp only [lnS]; try omega; done)) [-getElem?_pos, -getElem?_neg, thenQ_ret, scopeQ_ret, inBlockQ_ret, RQ, resL, resV])
      rw [List.take_length] at ho
      refine ⟨?_, ho, hk2⟩
      unfold cV
      rcases hd2 with ⟨hz, hv⟩ | ⟨hz, hv, hg⟩
      · rw [if_pos hz]; exact hv
      · rw [if_neg (by omega)]; exact hv
/-- A copy. -/
theorem clone_fix {v : Value} {cells : List Value} (hv : Part H H.length v cells) (hc : cells.length ≤ 1000000) (hnro : nro ≤ H.length) :
    ∃ v0, AC Tryz.prog nro γ 46 #[v] H (fun v' H' => v' = v0 ∧ Part H' H'.length v' cells ∧ H.length ≤ H'.length ∧ ∀ j, j < H.length → hget H' j = hget H j) := by
  obtain ⟨⟨a, c, rfl⟩, hx⟩ := hv
  cases a with
  | none =>
    have h0 : cells = [] := by
      have := hx H (fun _ _ => rfl)
      unfold xcells at this
      split at this
      · exact (Option.some.inj this).symm
      · cases this; rfl
      · rename_i e; cases e
      · rename_i e; cases e
      · cases this
    subst h0
    refine ⟨.slice none 0 0, ?_⟩
    refine ac_of_aw Tryz.func46 rfl Tryz.ntmps46 Tryz.results46 (by simp) ?_
    refine aw_seq ?_
    (refine aw_ops (by kernel_rfl) (fun K hK => ?_); simp (disch := first | omega | (simp only [lnS]; try omega; done)) [-getElem?_pos, -getElem?_neg]; refine hK _ _ ?_; clear hK K)
    refine aw_seq ?_
    refine aw_seq ?_
    (refine aw_ops (by kernel_rfl) (fun K hK => ?_); simp (disch := first | omega | (simp only [lnS]; try omega; done)) [-getElem?_pos, -getElem?_neg]; refine hK _ _ ?_; clear hK K)
    refine aw_t (by (first | (simp [eval_tmp, put_at]; done) | (simp [eval_tmp, put_at]; omega))) (by kernel_rfl) ?_
    refine aw_seq ?_
    (refine aw_ops (by kernel_rfl) (fun K hK => ?_); simp (disch := first | omega | (simp only [lnS]; try omega; done)) [-getElem?_pos, -getElem?_neg]; refine hK _ _ ?_; clear hK K)
    (refine aw_ret ?_; simp (disch := first | omega | (simp only [lnS]; try omega; done)) [-getElem?_pos, -getElem?_neg, thenQ_ret, scopeQ_ret, inBlockQ_ret, RQ, resL, resV])
    exact ⟨⟨none, 0, rfl⟩, fun G _ => rfl⟩
  | some a =>
    have ho0 : OwnL H.length (H ++ [some ⟨[], 9, some 1⟩]) (.slice (some ⟨H.length, 0, none⟩) 0 0) [] := .inr ⟨H.length, [], Nat.le_refl _, rfl, by rw [hget_app0]; rfl, List.prefix_rfl⟩
    obtain ⟨v7, G3, hap, ho3, hl3, hk3, _⟩ := ownL_append (P := Tryz.prog) (nro := nro) (t := 36) (x := .slice (some a) cells.length c) (by simp) (by simp) (by simp) (by simp) ho0 hnro (by simp) (fun s e => by cases e) (hx _ (fun j hj => hget_left hj)) (by simpa using hc)
    have hnt7 := ho3.nt
    refine ⟨v7, ?_⟩
    refine ac_of_aw Tryz.func46 rfl Tryz.ntmps46 Tryz.results46 (by simp) ?_
    refine aw_seq ?_
    (refine aw_ops (by kernel_rfl) (fun K hK => ?_); simp (disch := first | omega | (simp only [lnS]; try omega; done)) [-getElem?_pos, -getElem?_neg]; refine hK _ _ ?_; clear hK K)
    refine aw_seq ?_
    refine aw_seq ?_
    (refine aw_ops (by kernel_rfl) (fun K hK => ?_); simp (disch := first | omega | (simp only [lnS]; try omega; done)) [-getElem?_pos, -getElem?_neg]; refine hK _ _ ?_; clear hK K)
    refine aw_f (by (first | (simp [eval_tmp, put_at]; done) | (simp [eval_tmp, put_at]; omega))) (by kernel_rfl) ?_
    refine aw_skip ?_
    refine aw_seq ?_
    (refine aw_ops (by kernel_rfl) (fun K hK => ?_); simp (disch := first | omega | (simp only [lnS]; try omega; done)) [-getElem?_pos, -getElem?_neg, -xappend, hap]; refine hK _ _ ?_; clear hK K)
    (refine aw_ret ?_; simp (disch := first | omega | (simp only [lnS]; try omega; done)) [-getElem?_pos, -getElem?_neg, thenQ_ret, scopeQ_ret, inBlockQ_ret, RQ, resL, resV])
    simp only [List.length_append, List.length_cons, List.length_nil] at hl3
    rw [List.nil_append] at ho3
    exact ⟨ho3.part, by omega, fun j hj => (hk3 j hj).trans (hget_left hj)⟩
theorem clone_ac {v : Value} {cells : List Value} (hv : Part H H.length v cells) (hc : cells.length ≤ 1000000) (hnro : nro ≤ H.length) :
    AC Tryz.prog nro γ 46 #[v] H (fun v' H' => Part H' H'.length v' cells ∧ H.length ≤ H'.length ∧ ∀ j, j < H.length → hget H' j = hget H j) := by
  obtain ⟨v0, h⟩ := clone_fix (γ := γ) hv hc hnro
  exact h.mono fun _ _ h => h.2
end
end
section
def totS (ps : List ByteArray) : Nat := (ps.map ByteArray.size).sum
def grJ (ps : List ByteArray) : Bool := ps.any (fun s => decide (2000 < s.size)) || decide (21 < ps.length) || decide (4000 < totS ps)
theorem grJ_f {ps : List ByteArray} (h : grJ ps = false) : (∀ s ∈ ps, s.size ≤ 2000) ∧ ps.length ≤ 21 ∧ totS ps ≤ 4000 := by
  unfold grJ at h
  simp only [Bool.or_eq_false_iff, List.any_eq_false, decide_eq_false_iff_not, decide_eq_true_eq] at h
  exact ⟨fun s hs => by have := h.1.1 s hs; omega, by omega, by omega⟩
attribute [local simp] wb_bool wb_undef XL_nil XL_cons XLc_val XLc_call step1_eq stepW_t stepW_f stepC_n stepC_s stepX_s stepX_n stepN_s calleeX oneV xop_eq xopR_s xopR_n wantedA_eq wantedG_n wantedG_s plain1_int plain1_bool plain1_string bits_i64 bits_u64 bits_u32 bits_u16 bits_u8 xeqA xagg xcmp xarr allK_iv num_iv calleeOf xread xeff xbin xint xnil xun xstr xload xconv xpart xfield xfieldAddr xindexAddr xindex bnd asInt? xslice xlen xmin xmax xbuild xfill xappend xapp2 xappstr xappmk xcap xcopy xcells eval_tmp eval_const put_at put_none fr0_at cells_agg cells_int cells_bool cells_string cells_ptr cells_slice notTuple tab iv_all hget_app hget_app0 hget_cons0 hget_cons set_app set_app0 setR setR_one QL_nil QL_cons QLc_val stepQ_t stepQ_f stepQC_n stepQC_s stepQX_s SL_nil SL_cons SLc_val stepS_t stepS_f ltT ltF leT leF eqT eqF ltTn ltFn leTn leFn eqTn eqFn beqT beqF bneT bneF wi64 wu64 wu32 wu16 wu8 tmodP tdivP hgetL hgetNe hgetEq setL nums_def nums_len Nat.succ_le_of_lt List.getElem?_cons_zero List.getElem?_cons_succ Option.getD_some Int.toNat_add Int.toNat_mul agB agI agS agP agL agA okB okI okS okP okSl okA
/-- A slice that shows these texts. -/
structure StrV (H : AH) (v : Value) (ps : List ByteArray) : Prop where
  nt : notTuple v = true
  len : xlen Tryz.prog 36 v = some (.int .i64 ps.length)
  at_ : ∀ (i : Nat) (s : ByteArray), ps[i]? = some s → ∃ p, xindexAddr Tryz.prog 36 v (.int .i64 (i : Nat)) = some p ∧ xload Tryz.prog 9 p H = some (.string s)
theorem SlV.str {H : AH} {v : Value} {ps : List ByteArray} (hv : SlV H v (ps.map .string)) : StrV H v ps :=
  ⟨by rcases hv with ⟨a, rfl, _⟩ | ⟨j, off, k, rfl, _⟩ <;> rfl, by
    have hxl := hv.len (P := Tryz.prog) (t := 36) (e := 9) (by simp)
    rw [List.length_map] at hxl
    exact hxl, fun i s hs => hv.atS (P := Tryz.prog) (t := 36) (e := 9) (by simp) (by simp) (by simp) (by simp) hs⟩
theorem Part.str {H : AH} {v : Value} {ps : List ByteArray} (h : Part H H.length v (ps.map .string)) : StrV H v ps := by
  have hx := h.2 H (fun _ _ => rfl)
  obtain ⟨a, c, rfl⟩ := h.1
  rw [List.length_map] at hx ⊢
  have h0 : ps.length = 0 → StrV H (.slice a ps.length c) ps := fun h0 => ⟨rfl, by simp [xlen], fun i s hs => by
    have := (List.getElem?_eq_some_iff.1 hs).1
    omega⟩
  by_cases hp : ps.length = 0
  · exact h0 hp
  match a, hx with
  | none, hx =>
    obtain ⟨n, hn⟩ : ∃ n, ps.length = n + 1 := ⟨ps.length - 1, by omega⟩
    rw [hn] at hx
    simp [xcells] at hx
  | some ⟨i, off, some q⟩, hx =>
    obtain ⟨n, hn⟩ : ∃ n, ps.length = n + 1 := ⟨ps.length - 1, by omega⟩
    rw [hn] at hx
    simp [xcells] at hx
  | some ⟨i, off, none⟩, hx =>
    simp only [xcells] at hx
    cases hg : hget H i with
    | none => rw [hg] at hx; simp at hx
    | some k =>
      rw [hg] at hx
      simp only [Nat.mul_one] at hx
      split at hx
      · rename_i hle
        have hx := Option.some.inj hx
        refine ⟨rfl, by simp [xlen], fun j s hs => ⟨.pointer (some ⟨i, off + j, none⟩), ?_, ?_⟩⟩
        · have := (List.getElem?_eq_some_iff.1 hs).1
          simp [xindexAddr, this]
        · have hj := (List.getElem?_eq_some_iff.1 hs).1
          have : (ps.map Value.string)[j]? = some (.string s) := by rw [List.getElem?_map, hs]; rfl
          rw [← hx, List.getElem?_take_of_lt hj, List.getElem?_drop] at this
          simp [xload, hg, this]
      · simp at hx
theorem great_rc {γ : Nat → Option Nat} {H : AH} {v : Value} {ps : List ByteArray} (hv : StrV H v ps) (hs63 : ∀ s ∈ ps, s.size ≤ 9223372036854775807) (hlen : ps.length ≤ 9223372036854775807) :
    AC Tryz.prog H.length γ 10 #[v] H (fun v' _ => v' = .bool (grJ ps)) := by
  have hno := hv.nt
  have hxl := hv.len
  refine ac_of_aw Tryz.func10 rfl Tryz.ntmps10 Tryz.results10 (by simp) ?_
  refine aw_seq ?_
  (refine aw_ops (by kernel_rfl) (fun K hK => ?_); simp (disch := first | omega | (simp only [lnS]; try omega; done)) [-getElem?_pos, -getElem?_neg]; refine hK _ _ ?_; clear hK K)
  refine aw_seq ?_
  (refine aw_ops (by kernel_rfl) (fun K hK => ?_); simp (disch := first | omega | (simp only [lnS]; try omega; done)) [-getElem?_pos, -getElem?_neg]; refine hK _ _ ?_; clear hK K)
  refine aw_seq ?_
  refine aw_seq ?_
  (refine aw_ops (by kernel_rfl) (fun K hK => ?_); simp (disch := first | omega | (simp only [lnS]; try omega; done)) [-getElem?_pos, -getElem?_neg]; refine hK _ _ ?_; clear hK K)
  refine aw_block ?_
  refine aw_loop (fun q α H' => ∃ i : Nat, i + q = ps.length ∧ i ≤ 21 ∧ (∀ s ∈ ps.take i, s.size ≤ 2000) ∧ α 0 = v ∧ α 4 = .int .i64 (i : Nat) ∧ α 3 = .int .i64 (totS (ps.take i) : Nat) ∧ H' = H) ps.length ?_ ?_
  · exact ⟨0, by omega, by omega, by simp, by (first | (simp [put_at, put_none, fr0_at]; done) | rfl), by (first | (simp [put_at, put_none, fr0_at]; done) | rfl), by (first | (simp [put_at, put_none, fr0_at]; done) | rfl), rfl⟩
  rintro q α H' ⟨i, hi, hi21, hsm, h0, h4, h3, rfl⟩
  have hts : totS (ps.take i) ≤ 2000 * i := by
    have : ∀ l : List ByteArray, (∀ s ∈ l, s.size ≤ 2000) → totS l ≤ 2000 * l.length := by
      intro l
      induction l with
      | nil => intro _; simp [totS]
      | cons x l ih =>
        intro h
        have h1 := h x (by simp)
        have h2 := ih (fun s hs => h s (by simp [hs]))
        simp only [totS, List.map_cons, List.sum_cons, List.length_cons] at h2 ⊢
        omega
    have h1 := this _ hsm
    rw [List.length_take] at h1
    omega
  refine aw_seq ?_
  refine aw_seq ?_
  by_cases hlt : i < ps.length
  · (refine aw_ops (by kernel_rfl) (fun K hK => ?_); simp (disch := first | omega | (simp only [lnS]; try omega; done)) [-getElem?_pos, -getElem?_neg, h0, h4, -notTuple, hno, -xlen, hxl, hlt]; refine hK _ _ ?_; clear hK K)
    refine aw_t (by (first | (simp [eval_tmp, put_at]; done) | (simp [eval_tmp, put_at]; omega))) (by kernel_rfl) ?_
    refine aw_skip ?_
    refine aw_seq ?_
    refine aw_block ?_
    obtain ⟨s, hs⟩ : ∃ s, ps[i]? = some s := ⟨_, List.getElem?_eq_getElem hlt⟩
    have hmem := List.mem_of_getElem? hs
    have hs6 := hs63 s hmem
    have htk : ps.take (i + 1) = ps.take i ++ [s] := by rw [List.take_add_one, hs]; rfl
    have htt : totS (ps.take (i + 1)) = totS (ps.take i) + s.size := by rw [htk]; simp [totS]
    obtain ⟨p, hp1, hp2⟩ := hv.at_ i s hs
    have hgr : 2000 < s.size ∨ 20 < i → grJ ps = true := fun h => by
      unfold grJ
      rcases h with h | h
      · have : ps.any (fun s => decide (2000 < s.size)) = true := List.any_eq_true.2 ⟨s, hmem, by simpa using h⟩
        simp [this]
      · have : 21 < ps.length := by omega
        simp [this]
    refine aw_seq ?_
    refine aw_seq ?_
    by_cases h2 : 2000 < s.size
    · (refine aw_ops (by kernel_rfl) (fun K hK => ?_); simp (disch := first | omega | (simp only [lnS]; try omega; done)) [-getElem?_pos, -getElem?_neg, h0, h4, -notTuple, hno, -xindexAddr, hp1, -xload, hp2, h2]; refine hK _ _ ?_; clear hK K)
      refine aw_t (by (first | (simp [eval_tmp, put_at]; done) | (simp [eval_tmp, put_at]; omega))) (by kernel_rfl) ?_
      refine aw_seq ?_
      (refine aw_ops (by kernel_rfl) (fun K hK => ?_); simp (disch := first | omega | (simp only [lnS]; try omega; done)) [-getElem?_pos, -getElem?_neg]; refine hK _ _ ?_; clear hK K)
      (refine aw_ret ?_; simp (disch := first | omega | (simp only [lnS]; try omega; done)) [-getElem?_pos, -getElem?_neg, thenQ_ret, scopeQ_ret, inBlockQ_ret, RQ, resL, resV])
      exact hgr (.inl h2)
    by_cases h20 : 20 < i
    · (refine aw_ops (by kernel_rfl) (fun K hK => ?_); simp (disch := first | omega | (simp only [lnS]; try omega; done)) [-getElem?_pos, -getElem?_neg, h0, h4, -notTuple, hno, -xindexAddr, hp1, -xload, hp2, h2, h20]; refine hK _ _ ?_; clear hK K)
      refine aw_t (by (first | (simp [eval_tmp, put_at]; done) | (simp [eval_tmp, put_at]; omega))) (by kernel_rfl) ?_
      refine aw_seq ?_
      (refine aw_ops (by kernel_rfl) (fun K hK => ?_); simp (disch := first | omega | (simp only [lnS]; try omega; done)) [-getElem?_pos, -getElem?_neg]; refine hK _ _ ?_; clear hK K)
      (refine aw_ret ?_; simp (disch := first | omega | (simp only [lnS]; try omega; done)) [-getElem?_pos, -getElem?_neg, thenQ_ret, scopeQ_ret, inBlockQ_ret, RQ, resL, resV])
      exact hgr (.inr h20)
    (refine aw_ops (by kernel_rfl) (fun K hK => ?_); simp (disch := first | omega | (simp only [lnS]; try omega; done)) [-getElem?_pos, -getElem?_neg, h0, h4, -notTuple, hno, -xindexAddr, hp1, -xload, hp2, h2, h20]; refine hK _ _ ?_; clear hK K)
    refine aw_f (by (first | (simp [eval_tmp, put_at]; done) | (simp [eval_tmp, put_at]; omega))) (by kernel_rfl) ?_
    refine aw_skip ?_
    (refine aw_ops (by kernel_rfl) (fun K hK => ?_); simp (disch := first | omega | (simp only [lnS]; try omega; done)) [-getElem?_pos, -getElem?_neg, h0, h3, h4, -notTuple, hno, -xindexAddr, hp1, -xload, hp2]; refine hK _ _ ?_; clear hK K)
    (refine aw_ops (by kernel_rfl) (fun K hK => ?_); simp (disch := first | omega | (simp only [lnS]; try omega; done)) [-getElem?_pos, -getElem?_neg, h4]; refine hK _ _ ?_; clear hK K)
    refine ⟨q - 1, by omega, i + 1, by omega, by omega, fun x hx => ?_, by (first | (simp [put_at, put_none, fr0_at, h0]; done) | rfl), by (first | (simp [put_at, put_none, fr0_at]; done) | rfl), by (first | (simp [put_at, put_none, fr0_at, htt]; done) | rfl), rfl⟩
    rw [htk] at hx
    rcases List.mem_append.1 hx with hx | hx
    · exact hsm x hx
    · simp at hx
      subst hx
      omega
  · (refine aw_ops (by kernel_rfl) (fun K hK => ?_); simp (disch := first | omega | (simp only [lnS]; try omega; done)) [-getElem?_pos, -getElem?_neg, h0, h4, -notTuple, hno, -xlen, hxl, hlt]; refine hK _ _ ?_; clear hK K)
    refine aw_f (by (first | (simp [eval_tmp, put_at]; done) | (simp [eval_tmp, put_at]; omega))) (by kernel_rfl) ?_
    refine aw_exit ?_
    refine aw_seq ?_
    have hil : i = ps.length := by omega
    have hall : ps.take i = ps := List.take_of_length_le (by omega)
    rw [hall] at hsm h3
    have hg : grJ ps = decide (4000 < totS ps) := by
      unfold grJ
      have h1 : ps.any (fun s => decide (2000 < s.size)) = false := by
        rw [List.any_eq_false]
        intro x hx
        have := hsm x hx
        simpa using this
      have h2 : ¬ 21 < ps.length := by omega
      simp [h1, h2]
    rw [hg]
    (refine aw_ops (by kernel_rfl) (fun K hK => ?_); simp (disch := first | omega | (simp only [lnS]; try omega; done)) [-getElem?_pos, -getElem?_neg, h3]; refine hK _ _ ?_; clear hK K)
    (refine aw_ret ?_; simp (disch := first | omega | (simp only [lnS]; try omega; done)) [-getElem?_pos, -getElem?_neg, thenQ_ret, scopeQ_ret, inBlockQ_ret, RQ, resL, resV])
    omega
theorem same_rc {γ : Nat → Option Nat} {H : AH} {v w : Value} {ps qs : List ByteArray} (hv : StrV H v ps) (hw : StrV H w qs) (ha : ps.length ≤ 1000000) (hb : qs.length ≤ 1000000) :
    AC Tryz.prog H.length γ 19 #[v, w] H (fun v' _ => v' = .bool (decide (ps = qs))) := by
  have hno := hv.nt
  have hnw := hw.nt
  have hxl := hv.len
  have hxw := hw.len
  refine ac_of_aw Tryz.func19 rfl Tryz.ntmps19 Tryz.results19 (by simp) ?_
  refine aw_seq ?_
  (refine aw_ops (by kernel_rfl) (fun K hK => ?_); simp (disch := first | omega | (simp only [lnS]; try omega; done)) [-getElem?_pos, -getElem?_neg]; refine hK _ _ ?_; clear hK K)
  refine aw_seq ?_
  refine aw_seq ?_
  by_cases hl : ps.length = qs.length
  case neg =>
    (refine aw_ops (by kernel_rfl) (fun K hK => ?_); simp (disch := first | omega | (simp only [lnS]; try omega; done)) [-getElem?_pos, -getElem?_neg, -notTuple, hno, hnw, -xlen, hxl, hxw, hl]; refine hK _ _ ?_; clear hK K)
    refine aw_t (by (first | (simp [eval_tmp, put_at]; done) | (simp [eval_tmp, put_at]; omega))) (by kernel_rfl) ?_
    refine aw_seq ?_
    (refine aw_ops (by kernel_rfl) (fun K hK => ?_); simp (disch := first | omega | (simp only [lnS]; try omega; done)) [-getElem?_pos, -getElem?_neg]; refine hK _ _ ?_; clear hK K)
    have : ps ≠ qs := fun h => hl (by rw [h])
    (refine aw_ret ?_; simp (disch := first | omega | (simp only [lnS]; try omega; done)) [-getElem?_pos, -getElem?_neg, thenQ_ret, scopeQ_ret, inBlockQ_ret, RQ, resL, resV])
    exact this
  (refine aw_ops (by kernel_rfl) (fun K hK => ?_); simp (disch := first | omega | (simp only [lnS]; try omega; done)) [-getElem?_pos, -getElem?_neg, -notTuple, hno, hnw, -xlen, hxl, hxw, hl]; refine hK _ _ ?_; clear hK K)
  refine aw_f (by (first | (simp [eval_tmp, put_at]; done) | (simp [eval_tmp, put_at]; omega))) (by kernel_rfl) ?_
  refine aw_skip ?_
  refine aw_seq ?_
  refine aw_seq ?_
  (refine aw_ops (by kernel_rfl) (fun K hK => ?_); simp (disch := first | omega | (simp only [lnS]; try omega; done)) [-getElem?_pos, -getElem?_neg]; refine hK _ _ ?_; clear hK K)
  refine aw_block ?_
  refine aw_loop (fun q α H' => ∃ i : Nat, i + q = ps.length ∧ ps.take i = qs.take i ∧ α 0 = v ∧ α 1 = w ∧ α 5 = .int .i64 (i : Nat) ∧ H' = H) ps.length ?_ ?_
  · exact ⟨0, by omega, rfl, by (first | (simp [put_at, put_none, fr0_at]; done) | rfl), by (first | (simp [put_at, put_none, fr0_at]; done) | rfl), by (first | (simp [put_at, put_none, fr0_at]; done) | rfl), rfl⟩
  rintro q α H' ⟨i, hi, htk, h0, h1, h5, rfl⟩
  refine aw_seq ?_
  refine aw_seq ?_
  by_cases hlt : i < ps.length
  · (refine aw_ops (by kernel_rfl) (fun K hK => ?_); simp (disch := first | omega | (simp only [lnS]; try omega; done)) [-getElem?_pos, -getElem?_neg, h0, h5, -notTuple, hno, -xlen, hxl, hlt]; refine hK _ _ ?_; clear hK K)
    refine aw_t (by (first | (simp [eval_tmp, put_at]; done) | (simp [eval_tmp, put_at]; omega))) (by kernel_rfl) ?_
    refine aw_skip ?_
    refine aw_seq ?_
    refine aw_block ?_
    obtain ⟨s, hs⟩ : ∃ s, ps[i]? = some s := ⟨_, List.getElem?_eq_getElem hlt⟩
    obtain ⟨t, ht⟩ : ∃ t, qs[i]? = some t := ⟨_, List.getElem?_eq_getElem (by omega)⟩
    obtain ⟨p, hp1, hp2⟩ := hv.at_ i s hs
    obtain ⟨p', hp3, hp4⟩ := hw.at_ i t ht
    have hst : s.toList = t.toList ↔ s = t := ⟨fun h => by
      rw [ByteArray.toList_eq, ByteArray.toList_eq] at h
      exact ByteArray.ext (Array.toList_inj.1 h), fun h => by rw [h]⟩
    refine aw_seq ?_
    by_cases he : s = t
    · subst he
      (refine aw_quiet (by kernel_rfl) (by kernel_rfl) (by kernel_rfl) (fun K hK => ?_); simp (disch := first | omega | (simp only [lnS]; try omega; done)) [-getElem?_pos, -getElem?_neg, h0, h1, h5, -notTuple, hno, hnw, nt_strJ, nt_intJ, -xindexAddr, hp1, hp3, -xload, hp2, hp4]; refine hK _ ?_; clear hK K)
      refine aw_f (by (first | (simp [eval_tmp, put_at]; done) | (simp [eval_tmp, put_at]; omega))) (by kernel_rfl) ?_
      refine aw_skip ?_
      (refine aw_ops (by kernel_rfl) (fun K hK => ?_); simp (disch := first | omega | (simp only [lnS]; try omega; done)) [-getElem?_pos, -getElem?_neg, h5]; refine hK _ _ ?_; clear hK K)
      refine ⟨q - 1, by omega, i + 1, by omega, ?_, by (first | (simp [put_at, put_none, fr0_at, h0]; done) | rfl), by (first | (simp [put_at, put_none, fr0_at, h1]; done) | rfl), by (first | (simp [put_at, put_none, fr0_at]; done) | rfl), rfl⟩
      rw [List.take_add_one, List.take_add_one, htk, hs, ht]
    · have hne : (s.toList == t.toList) = false := by
        rw [beq_eq_false_iff_ne]
        exact fun h => he (hst.1 h)
      have hne2 : ¬ s.toList = t.toList := fun h => he (hst.1 h)
      (refine aw_quiet (by kernel_rfl) (by kernel_rfl) (by kernel_rfl) (fun K hK => ?_); simp (disch := first | omega | (simp only [lnS]; try omega; done)) [-getElem?_pos, -getElem?_neg, h0, h1, h5, -notTuple, hno, hnw, nt_strJ, nt_intJ, -xindexAddr, hp1, hp3, -xload, hp2, hp4, hne, hne2]; refine hK _ ?_; clear hK K)
      refine aw_t (by (first | (simp [eval_tmp, put_at]; done) | (simp [eval_tmp, put_at]; omega))) (by kernel_rfl) ?_
      refine aw_seq ?_
      (refine aw_ops (by kernel_rfl) (fun K hK => ?_); simp (disch := first | omega | (simp only [lnS]; try omega; done)) [-getElem?_pos, -getElem?_neg]; refine hK _ _ ?_; clear hK K)
      have : ps ≠ qs := fun h => by
        rw [h, ht] at hs
        exact he (Option.some.inj hs).symm
      (refine aw_ret ?_; simp (disch := first | omega | (simp only [lnS]; try omega; done)) [-getElem?_pos, -getElem?_neg, thenQ_ret, scopeQ_ret, inBlockQ_ret, RQ, resL, resV])
      exact this
  · (refine aw_ops (by kernel_rfl) (fun K hK => ?_); simp (disch := first | omega | (simp only [lnS]; try omega; done)) [-getElem?_pos, -getElem?_neg, h0, h5, -notTuple, hno, -xlen, hxl, hlt]; refine hK _ _ ?_; clear hK K)
    refine aw_f (by (first | (simp [eval_tmp, put_at]; done) | (simp [eval_tmp, put_at]; omega))) (by kernel_rfl) ?_
    refine aw_exit ?_
    refine aw_seq ?_
    (refine aw_ops (by kernel_rfl) (fun K hK => ?_); simp (disch := first | omega | (simp only [lnS]; try omega; done)) [-getElem?_pos, -getElem?_neg]; refine hK _ _ ?_; clear hK K)
    have : ps = qs := by
      rw [List.take_of_length_le (by omega), List.take_of_length_le (by omega)] at htk
      exact htk
    (refine aw_ret ?_; simp (disch := first | omega | (simp only [lnS]; try omega; done)) [-getElem?_pos, -getElem?_neg, thenQ_ret, scopeQ_ret, inBlockQ_ret, RQ, resL, resV])
    exact this
end
end Go.Proofs.YtgamobjfeaeddaaGreatDoor
