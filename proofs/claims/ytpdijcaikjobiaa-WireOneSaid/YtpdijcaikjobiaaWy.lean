/-
  WireOne, walked.
-/
import Derived.Test.YtpdijcaikjobiaaRdE
import Derived.Test.YtpdijcaikjobiaaRdB
namespace Go.Proofs.Ytpdijcaikjobiaa
open Go Go.RowKit
set_option linter.unusedVariables false
set_option linter.unusedSimpArgs false
set_option maxRecDepth 100000
set_option maxHeartbeats 4000000
/-- The errors of reading. -/
def ErrR (e : Int) : Prop := e = 0 ∨ e = 3 ∨ e = 4 ∨ e = 5
theorem rdNum_err {l : List Int} : ErrR (rdNum l).2.2 := by
  have := rdN_err (g := 5) (n := 0) (l := l)
  unfold rdNum ErrR
  split
  · omega
  · simp only; omega
theorem rdCount_err {most : Int} {l : List Int} : ErrR (rdCount most l).2.2 := by
  have := rdNum_err (l := l)
  unfold rdCount
  split
  · exact this
  split
  · simp [ErrR]
  · exact this
theorem rdText_err {most : Int} {l : List Int} : ErrR (rdText most l).2.2 := by
  have := rdCount_err (most := most) (l := l)
  unfold rdText
  split
  · exact this
  split
  · simp [ErrR]
  · simp [ErrR]
theorem rdKey_err {l : List Int} : ErrR (rdKey l).2.2 := by
  unfold rdKey
  split <;> simp [ErrR]
theorem manyN_err {β : Type} {one : List Int → β × List Int × Int} (h : ∀ l, ErrR (one l).2.2) : ∀ (n : Nat) (l : List Int), ErrR (rdManyN one n l).2.2
  | 0, l => by simp [rdManyN, ErrR]
  | n + 1, l => by
    rw [rdManyN]
    split
    · exact h l
    split
    · exact manyN_err h n _
    · simp [ErrR]
theorem many_err {β : Type} {one : List Int → β × List Int × Int} (h : ∀ l, ErrR (one l).2.2) {most : Int} {l : List Int} : ErrR (rdMany one most l).2.2 := by
  have := rdCount_err (most := most) (l := l)
  unfold rdMany
  split
  · exact this
  split
  · exact manyN_err h _ _
  · exact manyN_err h _ _
theorem rdText_by {most : Int} {l : List Int} (hb : By l) : (rdText most l).1.length ≤ l.length ∧ (rdText most l).2.1.length ≤ l.length := by
  have := (rdCount_by (most := most) hb).2
  unfold rdText
  split
  · simp
  split
  · simp
  · simp only [List.length_take, List.length_drop]; omega
theorem manyN_len {β : Type} {one : List Int → β × List Int × Int} {R : β → Prop} (h : ∀ l, By l → By (one l).2.1 ∧ (one l).2.1.length ≤ l.length ∧ R (one l).1) : ∀ (n : Nat) (l : List Int), By l → (rdManyN one n l).1.length ≤ n ∧ (rdManyN one n l).2.1.length ≤ l.length ∧ ∀ x ∈ (rdManyN one n l).1, R x
  | 0, l, _ => by simp [rdManyN]
  | n + 1, l, hb => by
    rw [rdManyN]
    split
    · simp
    split
    · simp
    · obtain ⟨h1, h2, h3⟩ := h l hb
      obtain ⟨h4, h5, h6⟩ := manyN_len h n _ h1
      refine ⟨by simp; omega, by simp only; omega, fun x hx => ?_⟩
      rcases List.mem_cons.1 hx with rfl | hx
      · exact h3
      · exact h6 x hx
theorem rdCount_max {most : Int} {l : List Int} : ((rdCount most l).1 : Int) ≤ max most 0 := by
  unfold rdCount
  split
  · simp; omega
  split
  · simp; omega
  · rename_i h; omega
theorem many_len {β : Type} {one : List Int → β × List Int × Int} {R : β → Prop} (h : ∀ l, By l → By (one l).2.1 ∧ (one l).2.1.length ≤ l.length ∧ R (one l).1) {most : Int} {l : List Int} (hb : By l) : (((rdMany one most l).1.length : Int) ≤ max most 0 ∧ ∀ x ∈ (rdMany one most l).1, R x) ∧ (rdMany one most l).2.1.length ≤ l.length := by
  have h1 := rdCount_max (most := most) (l := l)
  have h2 := rdCount_by (most := most) hb
  have h3 := manyN_len h (rdCount most l).1 _ h2.1
  unfold rdMany
  split
  · simp; omega
  split
  · simp; omega
  · exact ⟨⟨by omega, h3.2.2⟩, by omega⟩
theorem rdKeys_len {most : Int} {l : List Int} (hb : By l) : (((rdMany rdKey most l).1.length : Int) ≤ max most 0 ∧ ∀ x ∈ (rdMany rdKey most l).1, True) ∧ (rdMany rdKey most l).2.1.length ≤ l.length := by
  refine many_len (R := fun _ => True) (fun l hb => ?_) hb
  unfold rdKey
  split
  · exact ⟨hb, Nat.le_refl _, trivial⟩
  · exact ⟨fun x hx => hb x (List.mem_of_mem_drop hx), by simp only [List.length_drop]; omega, trivial⟩
theorem rdNums_len {most : Int} {l : List Int} (hb : By l) : (((rdMany rdNum most l).1.length : Int) ≤ max most 0 ∧ ∀ x ∈ (rdMany rdNum most l).1, x ≤ 4294967295) ∧ (rdMany rdNum most l).2.1.length ≤ l.length :=
  many_len (R := fun x : Nat => x ≤ 4294967295) (fun l hb => ⟨(rdNum_by hb).1, (rdNum_by hb).2, rdNum_val⟩) hb
attribute [local simp] wb_bool wb_undef XL_nil XL_cons XLc_val XLc_call step1_eq stepW_t stepW_f stepC_n stepC_s stepX_s stepX_n stepN_s calleeX oneV xop_eq xopR_s xopR_n wantedA_eq wantedG_n wantedG_s plain1_int plain1_bool plain1_string bits_i64 bits_u64 bits_u32 bits_u16 bits_u8 xeqA xarr allK_iv num_iv calleeOf xread xeff xbin xint xnil xun xstr xload xconv xpart xfield xfieldAddr xindexAddr xindex bnd asInt? xslice xlen xmin xmax xbuild xfill xappend xapp2 xappstr xappmk xcap xcopy xcells eval_tmp eval_const put_at put_none fr0_at cells_agg cells_int cells_bool cells_string cells_ptr cells_slice notTuple tab iv_all hget_app hget_app0 hget_cons0 hget_cons set_app set_app0 setR setR_one QL_nil QL_cons QLc_val stepQ_t stepQ_f stepQC_n stepQC_s stepQX_s SL_nil SL_cons SLc_val stepS_t stepS_f ltT ltF leT leF eqT eqF ltTn ltFn leTn leFn eqTn eqFn beqT beqF bneT bneF wi64 wu64 wu32 wu16 wu8 tmodP tdivP hgetL hgetNe hgetEq setL nums_def nums_len Nat.succ_le_of_lt List.getElem?_cons_zero List.getElem?_cons_succ Option.getD_some Int.toNat_add Int.toNat_mul agB agI agS agP agL agA okB okI okS okP okSl okA
theorem one_law {H : AH} {γ : Nat → Option Nat} (s : ByteArray) (kind : Int) (hk : -9223372036854775808 ≤ kind ∧ kind ≤ 9223372036854775807) (hs : s.size ≤ maxLen) :
    AC Try.prog H.length γ 5 #[.string s, .int .i64 kind] H (fun v' H' => v' = .bool true) := by
  obtain ⟨l, hl⟩ : ∃ l, l = nums s := ⟨_, rfl⟩
  have hb : By l := by rw [hl]; exact nums_bd s
  have hsl : s = strOfNums l := by rw [hl, of_nums']
  have hsz := sn_size l
  rw [hsl] at hs ⊢
  clear hl hsl
  rw [hsz] at hs
  simp only [maxLen] at hs
  obtain ⟨k4, hk4⟩ : ∃ k4, k4 = kind.tmod 4 := ⟨_, rfl⟩
  refine ac_of_aw Try.func5 rfl Try.ntmps5 Try.results5 (by simp) ?_
  refine aw_seq ?_
  (refine aw_ops (by kernel_rfl) (fun K hK => ?_); simp (disch := first | omega | (simp only [List.length_set, List.length_append, List.length_cons, List.length_nil, iv_length, zl_length]; try omega; done)) [-getElem?_pos, -getElem?_neg]; refine hK _ _ ?_; clear hK K)
  refine aw_seq ?_
  refine aw_seq ?_
  refine aw_ops (by kernel_rfl) (fun K hK => ?_)
  simp (disch := first | omega | (simp only [List.length_set, List.length_append, List.length_cons, List.length_nil, iv_length, zl_length]; try omega; done)) [-getElem?_pos, -getElem?_neg]
  refine ⟨by kernel_rfl, (alive_ac (Nat.le_refl _)).mono ?_⟩
  rintro v1 G1 ⟨rfl, s1⟩
  try simp (disch := first | omega | (simp only [List.length_set, List.length_append, List.length_cons, List.length_nil, iv_length, zl_length]; try omega; done)) [-getElem?_pos, -getElem?_neg]
  refine hK _ _ ?_; clear hK K
  refine aw_f (by (first | (simp [eval_tmp, put_at]; done) | (simp [eval_tmp, put_at]; omega))) (by kernel_rfl) ?_
  refine aw_skip ?_
  refine aw_seq ?_
  refine aw_seq ?_
  (refine aw_ops (by kernel_rfl) (fun K hK => ?_); simp (disch := first | omega | (simp only [List.length_set, List.length_append, List.length_cons, List.length_nil, iv_length, zl_length]; try omega; done)) [-getElem?_pos, -getElem?_neg, hsz]; refine hK _ _ ?_; clear hK K)
  by_cases hlong : 3000 < l.length
  · refine aw_t (by (first | (simp [eval_tmp, put_at, hlong]; done) | (simp [eval_tmp, put_at, hlong]; omega))) (by kernel_rfl) ?_
    refine aw_seq ?_
    refine aw_ops (by kernel_rfl) (fun K hK => ?_)
    simp (disch := first | omega | (simp only [List.length_set, List.length_append, List.length_cons, List.length_nil, iv_length, zl_length]; try omega; done)) [-getElem?_pos, -getElem?_neg]
    refine ⟨by kernel_rfl, (alive_ac s1.1).mono ?_⟩
    rintro v3 G3 ⟨rfl, s3⟩
    try simp (disch := first | omega | (simp only [List.length_set, List.length_append, List.length_cons, List.length_nil, iv_length, zl_length]; try omega; done)) [-getElem?_pos, -getElem?_neg]
    refine hK _ _ ?_; clear hK K
    (refine aw_ret ?_; simp (disch := first | omega | (simp only [List.length_set, List.length_append, List.length_cons, List.length_nil, iv_length, zl_length]; try omega; done)) [-getElem?_pos, -getElem?_neg, thenQ_ret, scopeQ_ret, inBlockQ_ret, RQ, resL, resV])
  refine aw_f (by (first | (simp [eval_tmp, put_at, hlong]; done) | (simp [eval_tmp, put_at, hlong]; omega))) (by kernel_rfl) ?_
  refine aw_skip ?_
  refine aw_seq ?_
  refine aw_ops (by kernel_rfl) (fun K hK => ?_)
  simp (disch := first | omega | (simp only [List.length_set, List.length_append, List.length_cons, List.length_nil, iv_length, zl_length]; try omega; done)) [-getElem?_pos, -getElem?_neg]
  refine ⟨by kernel_rfl, newreader_ac.mono ?_⟩
  rintro v4 G4 ⟨rfl, rfl⟩
  try simp (disch := first | omega | (simp only [List.length_set, List.length_append, List.length_cons, List.length_nil, iv_length, zl_length]; try omega; done)) [-getElem?_pos, -getElem?_neg]
  refine hK _ _ ?_; clear hK K
  refine aw_seq ?_
  obtain ⟨p, hp⟩ : ∃ p, p = G1.length := ⟨_, rfl⟩
  have hr0 : hget (G1 ++ [some (rdC l 0)]) p = some (rdC l 0) := by rw [hp, hget_app0]; rfl
  have s2 : Same0 H (G1 ++ [some (rdC l 0)]) := s1.trans (.app _ _)
  have hpH : H.length ≤ p := by rw [hp]; exact s1.1
  rw [← hp]
  generalize G1 ++ [some (rdC l 0)] = G2 at hr0 s2 ⊢
  clear hp s1
  (refine aw_ops (by kernel_rfl) (fun K hK => ?_); simp (disch := first | omega | (simp only [List.length_set, List.length_append, List.length_cons, List.length_nil, iv_length, zl_length]; try omega; done)) [-getElem?_pos, -getElem?_neg]; refine hK _ _ ?_; clear hK K)
  have hw0 := wr_new (H := G2) rfl
  obtain ⟨w, hw⟩ : ∃ w, w = G2.length := ⟨_, rfl⟩
  rw [← hw] at hw0 ⊢
  have hr1 := hget_left' (L := [some ⟨[.slice none 0 0], 27, none⟩]) hr0
  have s3 : Same0 H (G2 ++ [some ⟨[.slice none 0 0], 27, none⟩]) := s2.trans (.app _ _)
  have hpw : p < w := by rw [hw]; exact hget_lt hr0
  generalize G2 ++ [some ⟨[.slice none 0 0], 27, none⟩] = G at hr1 s3 hw0 ⊢
  clear hw hr0 s2
  have hpl := hget_lt hr1
  have hwl := hw0.lt w (by simp)
  refine aw_seq ?_
  refine aw_cut (fun α G' => α 5 = .pointer (some ⟨p, 0, none⟩) ∧ α 6 = .pointer (some ⟨w, 0, none⟩) ∧ α 1 = .int .i64 kind ∧ α 0 = .string (strOfNums l) ∧ ∃ F wbs l' e, Wr G' w F wbs ∧ hget G' p = some (rdC l' e) ∧ Same0 H G' ∧ ErrR e ∧ l'.length ≤ l.length ∧ (0 ≤ kind → e = 0 → l = wbs ++ l')) ?_ ?_
  case refine_2 =>
    rintro α G' ⟨h5, h6, h1, h0, F, wbs, l', e, hwr, hrd, sG, he, hll, hq⟩
    refine aw_seq ?_
    refine aw_seq ?_
    by_cases hk0 : kind < 0
    · (refine aw_ops (by kernel_rfl) (fun K hK => ?_); simp (disch := first | omega | (simp only [List.length_set, List.length_append, List.length_cons, List.length_nil, iv_length, zl_length]; try omega; done)) [-getElem?_pos, -getElem?_neg, h1, hk0]; refine hK _ _ ?_; clear hK K)
      refine aw_t (by (first | (simp [eval_tmp, put_at]; done) | (simp [eval_tmp, put_at]; omega))) (by kernel_rfl) ?_
      refine aw_seq ?_
      refine aw_ops (by kernel_rfl) (fun K hK => ?_)
      simp (disch := first | omega | (simp only [List.length_set, List.length_append, List.length_cons, List.length_nil, iv_length, zl_length]; try omega; done)) [-getElem?_pos, -getElem?_neg]
      refine ⟨by kernel_rfl, (alive_ac sG.1).mono ?_⟩
      rintro v3 G3 ⟨rfl, s3⟩
      try simp (disch := first | omega | (simp only [List.length_set, List.length_append, List.length_cons, List.length_nil, iv_length, zl_length]; try omega; done)) [-getElem?_pos, -getElem?_neg]
      refine hK _ _ ?_; clear hK K
      (refine aw_ret ?_; simp (disch := first | omega | (simp only [List.length_set, List.length_append, List.length_cons, List.length_nil, iv_length, zl_length]; try omega; done)) [-getElem?_pos, -getElem?_neg, thenQ_ret, scopeQ_ret, inBlockQ_ret, RQ, resL, resV])
    · refine aw_cut (fun α2 G2 => G2 = G' ∧ α2 50 = .bool (decide (e ≠ 0)) ∧ α2 0 = .string (strOfNums l) ∧ α2 5 = .pointer (some ⟨p, 0, none⟩) ∧ α2 6 = .pointer (some ⟨w, 0, none⟩)) ?_ ?_
      · refine aw_ops (by kernel_rfl) (fun K hK => ?_)
        simp (disch := first | omega | (simp only [List.length_set, List.length_append, List.length_cons, List.length_nil, iv_length, zl_length]; try omega; done)) [-getElem?_pos, -getElem?_neg, h1, hk0, h5]
        refine ⟨by kernel_rfl, (end_ac hrd).mono ?_⟩
        rintro v3 G3 ⟨rfl, rfl⟩
        obtain ⟨en, hen⟩ : ∃ en, en = if e = 0 ∧ l' ≠ [] then (6 : Int) else e := ⟨_, rfl⟩
        have hrd2 := end_ac (γ := γ) (nro := H.length) hrd
        rw [← hen] at hrd2 ⊢
        by_cases hen0 : en = 0
        · have he0 : e = 0 := by
            rw [hen] at hen0
            split at hen0
            · cases hen0
            · exact hen0
          rw [hen0]
          try simp (disch := first | omega | (simp only [List.length_set, List.length_append, List.length_cons, List.length_nil, iv_length, zl_length]; try omega; done)) [-getElem?_pos, -getElem?_neg]
          refine hK _ _ ?_; clear hK K
          exact ⟨rfl, by simp [put_at, he0], by (first | (simp [put_at, put_none, fr0_at, h0]; done) | rfl), by (first | (simp [put_at, put_none, fr0_at, h5]; done) | rfl), by (first | (simp [put_at, put_none, fr0_at, h6]; done) | rfl)⟩
        · try simp (disch := first | omega | (simp only [List.length_set, List.length_append, List.length_cons, List.length_nil, iv_length, zl_length]; try omega; done)) [-getElem?_pos, -getElem?_neg, hen0, h5]
          refine ⟨by kernel_rfl, hrd2.mono ?_⟩
          rintro v4 G4 ⟨rfl, rfl⟩
          by_cases he0 : e = 0
          · have hen6 : en = 6 := by
              rw [hen] at hen0 ⊢
              split
              · rfl
              · rename_i q; rw [if_neg q] at hen0; exact absurd he0 hen0
            rw [hen6]
            try simp (disch := first | omega | (simp only [List.length_set, List.length_append, List.length_cons, List.length_nil, iv_length, zl_length]; try omega; done)) [-getElem?_pos, -getElem?_neg]
            refine hK _ _ ?_; clear hK K
            exact ⟨rfl, by simp [put_at, he0], by (first | (simp [put_at, put_none, fr0_at, h0]; done) | rfl), by (first | (simp [put_at, put_none, fr0_at, h5]; done) | rfl), by (first | (simp [put_at, put_none, fr0_at, h6]; done) | rfl)⟩
          · have hen3 : ¬ en = 6 := by
              rw [hen, if_neg (fun h => he0 h.1)]
              unfold ErrR at he
              omega
            try simp (disch := first | omega | (simp only [List.length_set, List.length_append, List.length_cons, List.length_nil, iv_length, zl_length]; try omega; done)) [-getElem?_pos, -getElem?_neg, hen3]
            refine hK _ _ ?_; clear hK K
            exact ⟨rfl, by simp [put_at, he0], by (first | (simp [put_at, put_none, fr0_at, h0]; done) | rfl), by (first | (simp [put_at, put_none, fr0_at, h5]; done) | rfl), by (first | (simp [put_at, put_none, fr0_at, h6]; done) | rfl)⟩
      clear h0 h5 h6 h1
      rintro α2 G2 ⟨rfl, h50, h0, h5, h6⟩
      by_cases he0 : e = 0
      · have hfin := hq (by omega) he0
        have hwl2 : wbs.length + l'.length = l.length := by
          have := congrArg List.length hfin
          rw [List.length_append] at this; omega
        have htk := ex_take l wbs.length
        have hpre : l.take wbs.length = wbs := by rw [hfin, List.take_left]
        rw [hpre] at htk
        refine aw_f (by (first | (simp [eval_tmp, put_at, h50, he0]; done) | (simp [eval_tmp, put_at, h50, he0]; omega))) (by kernel_rfl) ?_
        refine aw_skip ?_
        refine aw_seq ?_
        refine aw_ops (by kernel_rfl) (fun K hK => ?_)
        simp (disch := first | omega | (simp only [List.length_set, List.length_append, List.length_cons, List.length_nil, iv_length, zl_length]; try omega; done)) [-getElem?_pos, -getElem?_neg]
        refine ⟨by kernel_rfl, (alive_ac sG.1).mono ?_⟩
        rintro v3 G3 ⟨rfl, s3⟩
        try simp (disch := first | omega | (simp only [List.length_set, List.length_append, List.length_cons, List.length_nil, iv_length, zl_length]; try omega; done)) [-getElem?_pos, -getElem?_neg, h6]
        have hwr3 := hwr.low (fun j hj => s3.2 j (hwr.lt j hj))
        have hrd3 := (s3.2 p (hget_lt hrd)).trans hrd
        refine ⟨by kernel_rfl, (wstring_ac hwr3).mono ?_⟩
        rintro v4 G4 ⟨rfl, rfl⟩
        try simp (disch := first | omega | (simp only [List.length_set, List.length_append, List.length_cons, List.length_nil, iv_length, zl_length]; try omega; done)) [-getElem?_pos, -getElem?_neg, h0, h5, hsz]
        refine ⟨by kernel_rfl, (left_ac hrd3 (by omega)).mono ?_⟩
        rintro v5 G5 ⟨rfl, rfl⟩
        have hsub : (l.length : Int) - (l'.length : Int) = ((wbs.length : Nat) : Int) := by omega
        have hwi : IntKind.i64.wrap ((wbs.length : Nat) : Int) = ((wbs.length : Nat) : Int) := wi64 (by omega)
        try simp (disch := first | omega | (simp only [List.length_set, List.length_append, List.length_cons, List.length_nil, iv_length, zl_length]; try omega; done)) [-getElem?_pos, -getElem?_neg, hsub, hsz, htk]
        refine hK _ _ ?_; clear hK K
        (refine aw_ret ?_; simp (disch := first | omega | (simp only [List.length_set, List.length_append, List.length_cons, List.length_nil, iv_length, zl_length]; try omega; done)) [-getElem?_pos, -getElem?_neg, thenQ_ret, scopeQ_ret, inBlockQ_ret, RQ, resL, resV])
      · refine aw_t (by (first | (simp [eval_tmp, put_at, h50, he0]; done) | (simp [eval_tmp, put_at, h50, he0]; omega))) (by kernel_rfl) ?_
        refine aw_seq ?_
        refine aw_ops (by kernel_rfl) (fun K hK => ?_)
        simp (disch := first | omega | (simp only [List.length_set, List.length_append, List.length_cons, List.length_nil, iv_length, zl_length]; try omega; done)) [-getElem?_pos, -getElem?_neg]
        refine ⟨by kernel_rfl, (alive_ac sG.1).mono ?_⟩
        rintro v3 G3 ⟨rfl, s3⟩
        try simp (disch := first | omega | (simp only [List.length_set, List.length_append, List.length_cons, List.length_nil, iv_length, zl_length]; try omega; done)) [-getElem?_pos, -getElem?_neg]
        refine hK _ _ ?_; clear hK K
        (refine aw_ret ?_; simp (disch := first | omega | (simp only [List.length_set, List.length_append, List.length_cons, List.length_nil, iv_length, zl_length]; try omega; done)) [-getElem?_pos, -getElem?_neg, thenQ_ret, scopeQ_ret, inBlockQ_ret, RQ, resL, resV])
  have hl6 : l.length ≤ 1000000 := by omega
  have hwF : ∀ j ∈ [w], H.length ≤ j := by simp; omega
  have hwX : ∀ j ∈ [w], j < G.length := by simp; omega
  have hsame : ∀ {G2 : AH}, Fr G G2 [p] [p] → Wr G2 w [w] [] ∧ Same0 H G2 := fun hf =>
    ⟨hw0.low (fun j hj => hf.out j (hwX j hj) (by simp at hj ⊢; omega)), s3.fr hf (by simp; omega)⟩
  refine aw_seq ?_
  (refine aw_ops (by kernel_rfl) (fun K hK => ?_); simp (disch := first | omega | (simp only [List.length_set, List.length_append, List.length_cons, List.length_nil, iv_length, zl_length]; try omega; done)) [-getElem?_pos, -getElem?_neg, ← hk4]; refine hK _ _ ?_; clear hK K)
  refine aw_block ?_
  refine aw_seq ?_
  by_cases q0 : k4 = 0
  · subst q0
    (refine aw_ops (by kernel_rfl) (fun K hK => ?_); simp (disch := first | omega | (simp only [List.length_set, List.length_append, List.length_cons, List.length_nil, iv_length, zl_length]; try omega; done)) [-getElem?_pos, -getElem?_neg]; refine hK _ _ ?_; clear hK K)
    refine aw_t (by (first | (simp [eval_tmp, put_at]; done) | (simp [eval_tmp, put_at]; omega))) (by kernel_rfl) ?_
    refine aw_ops (by kernel_rfl) (fun K hK => ?_)
    simp (disch := first | omega | (simp only [List.length_set, List.length_append, List.length_cons, List.length_nil, iv_length, zl_length]; try omega; done)) [-getElem?_pos, -getElem?_neg]
    refine ⟨by kernel_rfl, (number_ac (by omega) hr1 hb hl6).mono ?_⟩
    rintro v5 G5 ⟨rfl, rfl⟩
    try simp (disch := first | omega | (simp only [List.length_set, List.length_append, List.length_cons, List.length_nil, iv_length, zl_length]; try omega; done)) [-getElem?_pos, -getElem?_neg]
    obtain ⟨n, l', e, hone⟩ : ∃ n l' e, rdNum l = (n, l', e) := ⟨_, _, _, rfl⟩
    have he := rdNum_err (l := l)
    have hn := rdNum_val (l := l)
    have hby := rdNum_by hb
    rw [hone] at he hn hby ⊢
    simp only at he hn hby ⊢
    obtain ⟨hw1, sG1⟩ := hsame (fr1 (H := G) (p := p) (x := some (rdC l' e)))
    have hrd1 : hget (G.set p (some (rdC l' e))) p = some (rdC l' e) := hgetEq hpl
    have hlg : G.length = (G.set p (some (rdC l' e))).length := by simp
    rw [hlg]
    clear hlg
    generalize G.set p (some (rdC l' e)) = G5 at hw1 sG1 hrd1 ⊢
    have hw2 : Wr (G5 ++ [some ⟨iv .u32 [(n : Int)], 37, some 1⟩]) w [w] [] := hw1.low (fun j hj => hget_left (hw1.lt j hj))
    refine ⟨by kernel_rfl, (numbers_ac (l := [(n : Int)]) hw2 hwF (by rw [List.length_append]; have := sG1.1; omega) (fresh_sls (cells := iv .u32 [(n : Int)]) hw1.lt) (by simp; omega) (by simp)).mono ?_⟩
    rintro v6 G6 ⟨F6, hw6, hf6⟩
    try simp (disch := first | omega | (simp only [List.length_set, List.length_append, List.length_cons, List.length_nil, iv_length, zl_length]; try omega; done)) [-getElem?_pos, -getElem?_neg]
    refine hK _ _ ?_; clear hK K
    have hf6' := (Fr.app1 (H := G5) (F := [w]) _).trans hf6
    refine ⟨by (first | (simp [put_at, put_none, fr0_at]; done) | rfl), by (first | (simp [put_at, put_none, fr0_at]; done) | rfl), by (first | (simp [put_at, put_none, fr0_at]; done) | rfl), by (first | (simp [put_at, put_none, fr0_at]; done) | rfl), F6, _, l', e, hw6, (hf6'.out p (hget_lt hrd1) (by simp; omega)).trans hrd1, sG1.fr hf6' hwF, he, hby.2, fun _ h0 => ?_⟩
    subst h0
    rw [rdNum_one hb hone]
    simp [numsB]
  (refine aw_ops (by kernel_rfl) (fun K hK => ?_); simp (disch := first | omega | (simp only [List.length_set, List.length_append, List.length_cons, List.length_nil, iv_length, zl_length]; try omega; done)) [-getElem?_pos, -getElem?_neg, q0]; refine hK _ _ ?_; clear hK K)
  refine aw_f (by (first | (simp [eval_tmp, put_at]; done) | (simp [eval_tmp, put_at]; omega))) (by kernel_rfl) ?_
  refine aw_seq ?_
  by_cases q1 : k4 = 1
  · subst q1
    (refine aw_ops (by kernel_rfl) (fun K hK => ?_); simp (disch := first | omega | (simp only [List.length_set, List.length_append, List.length_cons, List.length_nil, iv_length, zl_length]; try omega; done)) [-getElem?_pos, -getElem?_neg]; refine hK _ _ ?_; clear hK K)
    refine aw_t (by (first | (simp [eval_tmp, put_at]; done) | (simp [eval_tmp, put_at]; omega))) (by kernel_rfl) ?_
    refine aw_ops (by kernel_rfl) (fun K hK => ?_)
    simp (disch := first | omega | (simp only [List.length_set, List.length_append, List.length_cons, List.length_nil, iv_length, zl_length]; try omega; done)) [-getElem?_pos, -getElem?_neg]
    refine ⟨by kernel_rfl, (text_ac (by omega) hr1 hb hl6 (by omega)).mono ?_⟩
    rintro v5 G5 ⟨rfl, rfl⟩
    try simp (disch := first | omega | (simp only [List.length_set, List.length_append, List.length_cons, List.length_nil, iv_length, zl_length]; try omega; done)) [-getElem?_pos, -getElem?_neg]
    obtain ⟨t, l', e, hone⟩ : ∃ t l' e, rdText 3000 l = (t, l', e) := ⟨_, _, _, rfl⟩
    have he := rdText_err (most := 3000) (l := l)
    have hby := rdText_by (most := 3000) hb
    rw [hone] at he hby ⊢
    simp only at he hby ⊢
    obtain ⟨hw1, sG1⟩ := hsame (fr1 (H := G) (p := p) (x := some (rdC l' e)))
    have hrd1 : hget (G.set p (some (rdC l' e))) p = some (rdC l' e) := hgetEq hpl
    have hlg : G.length = (G.set p (some (rdC l' e))).length := by simp
    rw [hlg]
    clear hlg
    generalize G.set p (some (rdC l' e)) = G5 at hw1 sG1 hrd1 ⊢
    have hw2 : Wr (G5 ++ [some ⟨[.string (strOfNums t)], 9, some 1⟩]) w [w] [] := hw1.low (fun j hj => hget_left (hw1.lt j hj))
    have htl : (strOfNums t).size ≤ 3000 := by rw [sn_size]; omega
    refine ⟨by kernel_rfl, (texts_ac (ps := [strOfNums t]) hw2 hwF (by rw [List.length_append]; have := sG1.1; omega) (fresh_sls (cells := [.string (strOfNums t)]) hw1.lt) (by simpa using htl) (by simp)).mono ?_⟩
    rintro v6 G6 ⟨F6, hw6, hf6⟩
    try simp (disch := first | omega | (simp only [List.length_set, List.length_append, List.length_cons, List.length_nil, iv_length, zl_length]; try omega; done)) [-getElem?_pos, -getElem?_neg]
    refine hK _ _ ?_; clear hK K
    have hf6' := (Fr.app1 (H := G5) (F := [w]) _).trans hf6
    refine ⟨by (first | (simp [put_at, put_none, fr0_at]; done) | rfl), by (first | (simp [put_at, put_none, fr0_at]; done) | rfl), by (first | (simp [put_at, put_none, fr0_at]; done) | rfl), by (first | (simp [put_at, put_none, fr0_at]; done) | rfl), F6, _, l', e, hw6, (hf6'.out p (hget_lt hrd1) (by simp; omega)).trans hrd1, sG1.fr hf6' hwF, he, by omega, fun _ h0 => ?_⟩
    subst h0
    obtain ⟨h8, h9, _⟩ := rdText_one hb hone
    rw [h8]
    simp [textsB, textB, sn_size, nums_of t h9]
  (refine aw_ops (by kernel_rfl) (fun K hK => ?_); simp (disch := first | omega | (simp only [List.length_set, List.length_append, List.length_cons, List.length_nil, iv_length, zl_length]; try omega; done)) [-getElem?_pos, -getElem?_neg, q1]; refine hK _ _ ?_; clear hK K)
  refine aw_f (by (first | (simp [eval_tmp, put_at]; done) | (simp [eval_tmp, put_at]; omega))) (by kernel_rfl) ?_
  refine aw_seq ?_
  by_cases q2 : k4 = 2
  · subst q2
    (refine aw_ops (by kernel_rfl) (fun K hK => ?_); simp (disch := first | omega | (simp only [List.length_set, List.length_append, List.length_cons, List.length_nil, iv_length, zl_length]; try omega; done)) [-getElem?_pos, -getElem?_neg]; refine hK _ _ ?_; clear hK K)
    refine aw_t (by (first | (simp [eval_tmp, put_at]; done) | (simp [eval_tmp, put_at]; omega))) (by kernel_rfl) ?_
    refine aw_ops (by kernel_rfl) (fun K hK => ?_)
    simp (disch := first | omega | (simp only [List.length_set, List.length_append, List.length_cons, List.length_nil, iv_length, zl_length]; try omega; done)) [-getElem?_pos, -getElem?_neg]
    refine ⟨by kernel_rfl, (rkeylist_ac (nro := H.length) s3.1 (by omega) hr1 hb hl6 (most := 100) (by omega)).mono ?_⟩
    rintro v5 G5 ⟨hky, hk32, hrd1, hf5⟩
    try simp (disch := first | omega | (simp only [List.length_set, List.length_append, List.length_cons, List.length_nil, iv_length, zl_length]; try omega; done)) [-getElem?_pos, -getElem?_neg]
    obtain ⟨hw1, sG1⟩ := hsame hf5
    obtain ⟨ks, l', e, hone⟩ : ∃ t l' e, rdMany rdKey 100 l = (t, l', e) := ⟨_, _, _, rfl⟩
    have he := many_err (fun l => rdKey_err (l := l)) (most := 100) (l := l)
    have hby := rdKeys_len (most := 100) (l := l) hb
    rw [hone] at he hby hky hk32 hrd1
    simp only at he hby hky hk32 hrd1
    refine ⟨by kernel_rfl, (keylist_ac hw1 hwF sG1.1 (hky [w] hwX) (fun k hk => (hk32 k hk).1) (by simp; omega)).mono ?_⟩
    rintro v6 G6 ⟨F6, hw6, hf6⟩
    try simp (disch := first | omega | (simp only [List.length_set, List.length_append, List.length_cons, List.length_nil, iv_length, zl_length]; try omega; done)) [-getElem?_pos, -getElem?_neg]
    refine hK _ _ ?_; clear hK K
    refine ⟨by (first | (simp [put_at, put_none, fr0_at]; done) | rfl), by (first | (simp [put_at, put_none, fr0_at]; done) | rfl), by (first | (simp [put_at, put_none, fr0_at]; done) | rfl), by (first | (simp [put_at, put_none, fr0_at]; done) | rfl), F6, _, l', e, hw6, (hf6.out p (hget_lt hrd1) (by simp; omega)).trans hrd1, sG1.fr hf6 hwF, he, hby.2, fun _ h0 => ?_⟩
    subst h0
    obtain ⟨h8, h9, _⟩ := many_one key_of hb hone
    rw [h8, flat_id]
    simp
  (refine aw_ops (by kernel_rfl) (fun K hK => ?_); simp (disch := first | omega | (simp only [List.length_set, List.length_append, List.length_cons, List.length_nil, iv_length, zl_length]; try omega; done)) [-getElem?_pos, -getElem?_neg, q2]; refine hK _ _ ?_; clear hK K)
  refine aw_f (by (first | (simp [eval_tmp, put_at]; done) | (simp [eval_tmp, put_at]; omega))) (by kernel_rfl) ?_
  refine aw_seq ?_
  by_cases q3 : k4 = 3
  · subst q3
    (refine aw_ops (by kernel_rfl) (fun K hK => ?_); simp (disch := first | omega | (simp only [List.length_set, List.length_append, List.length_cons, List.length_nil, iv_length, zl_length]; try omega; done)) [-getElem?_pos, -getElem?_neg]; refine hK _ _ ?_; clear hK K)
    refine aw_t (by (first | (simp [eval_tmp, put_at]; done) | (simp [eval_tmp, put_at]; omega))) (by kernel_rfl) ?_
    refine aw_ops (by kernel_rfl) (fun K hK => ?_)
    simp (disch := first | omega | (simp only [List.length_set, List.length_append, List.length_cons, List.length_nil, iv_length, zl_length]; try omega; done)) [-getElem?_pos, -getElem?_neg]
    refine ⟨by kernel_rfl, (numberlist_ac (nro := H.length) s3.1 (by omega) hr1 hb hl6 (most := 3000) (by omega)).mono ?_⟩
    rintro v5 G5 ⟨hky, hrd1, hf5⟩
    try simp (disch := first | omega | (simp only [List.length_set, List.length_append, List.length_cons, List.length_nil, iv_length, zl_length]; try omega; done)) [-getElem?_pos, -getElem?_neg]
    obtain ⟨hw1, sG1⟩ := hsame hf5
    obtain ⟨ks, l', e, hone⟩ : ∃ t l' e, rdMany rdNum 3000 l = (t, l', e) := ⟨_, _, _, rfl⟩
    have he := many_err (fun l => rdNum_err (l := l)) (most := 3000) (l := l)
    have hby := rdNums_len (most := 3000) (l := l) hb
    rw [hone] at he hby hky hrd1
    simp only at he hby hky hrd1
    refine ⟨by kernel_rfl, (numlist_ac hw1 hwF sG1.1 (hky [w] hwX) (fun x hx => ?_) (by simp; omega)).mono ?_⟩
    · obtain ⟨n, hn, rfl⟩ := List.mem_map.1 hx
      have := hby.1.2 n hn
      omega
    rintro v6 G6 ⟨F6, hw6, hf6⟩
    try simp (disch := first | omega | (simp only [List.length_set, List.length_append, List.length_cons, List.length_nil, iv_length, zl_length]; try omega; done)) [-getElem?_pos, -getElem?_neg]
    refine hK _ _ ?_; clear hK K
    refine ⟨by (first | (simp [put_at, put_none, fr0_at]; done) | rfl), by (first | (simp [put_at, put_none, fr0_at]; done) | rfl), by (first | (simp [put_at, put_none, fr0_at]; done) | rfl), by (first | (simp [put_at, put_none, fr0_at]; done) | rfl), F6, _, l', e, hw6, (hf6.out p (hget_lt hrd1) (by simp; omega)).trans hrd1, sG1.fr hf6 hwF, he, hby.2, fun _ h0 => ?_⟩
    subst h0
    obtain ⟨h8, h9, _⟩ := many_one num_of hb hone
    rw [h8, numsB_nat]
    simp
  (refine aw_ops (by kernel_rfl) (fun K hK => ?_); simp (disch := first | omega | (simp only [List.length_set, List.length_append, List.length_cons, List.length_nil, iv_length, zl_length]; try omega; done)) [-getElem?_pos, -getElem?_neg, q3]; refine hK _ _ ?_; clear hK K)
  refine aw_f (by (first | (simp [eval_tmp, put_at]; done) | (simp [eval_tmp, put_at]; omega))) (by kernel_rfl) ?_
  refine aw_skip ?_
  exact ⟨by (first | (simp [put_at, put_none, fr0_at]; done) | rfl), by (first | (simp [put_at, put_none, fr0_at]; done) | rfl), by (first | (simp [put_at, put_none, fr0_at]; done) | rfl), by (first | (simp [put_at, put_none, fr0_at]; done) | rfl), [w], [], l, 0, hw0, hr1, s3, .inl rfl, Nat.le_refl _, fun h0 _ => by
    exfalso
    have := Int.tmod_nonneg 4 h0
    have := Int.tmod_lt_of_pos kind (show (0 : Int) < 4 by omega)
    omega⟩
end Go.Proofs.Ytpdijcaikjobiaa
