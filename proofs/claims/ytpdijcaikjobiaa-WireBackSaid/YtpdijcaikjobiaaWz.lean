/-
  WireCut, walked.
-/
import Derived.Test.YtpdijcaikjobiaaRdE
import Derived.Test.YtpdijcaikjobiaaRdB
namespace Go.Proofs.Ytpdijcaikjobiaa
open Go Go.RowKit
set_option linter.unusedVariables false
set_option linter.unusedSimpArgs false
set_option maxRecDepth 100000
set_option maxHeartbeats 4000000
theorem fill_agg {f : Nat → Option (Nat × Nat)} {cells us : List Value} {n : Nat} (hf : f 0 = some (0, n)) (hc : cells.length = n) (hu : us.length = n) : xfill f cells [(0, .agg us.toArray)] = some us := by
  have h1 : (Value.agg us.toArray).cells.size = n := by simpa [Value.cells] using hu
  unfold xfill
  simp only [hf]
  rw [if_pos ⟨h1, by rw [h1]; omega⟩]
  unfold xfill
  rw [setR_all _ _ (by simp [Value.cells, hu, hc])]
  rfl
theorem numB_by (n : Nat) : By (numB n) := by
  have h : ∀ g, By (hiG n g) := by
    intro g
    induction g with
    | zero => exact .nil
    | succ g ih =>
      unfold hiG
      refine By.app ?_ ih
      split
      · exact .nil
      · exact .cons (by have := Nat.mod_lt (n / 128 ^ (g + 1)) (show 0 < 128 by omega); omega) .nil
  exact (h 4).app (.cons (by omega) .nil)
theorem numsB_by (l : List Int) : By (numsB l) := by
  induction l with
  | nil => exact .nil
  | cons x l ih => simp only [numsB, List.flatMap_cons]; exact (numB_by _).app ih
theorem textB_by (s : ByteArray) : By (textB s) := (numB_by _).app (nums_bd s)
theorem flat_by {ks : List (List Int)} (h : ∀ k ∈ ks, By k) : By ks.flatten := fun y hy => by
  obtain ⟨k, hk, hy⟩ := List.mem_flatten.1 hy
  exact h k hk y hy
theorem bytes_by {x : ItD} (h : x.Wf) : By x.bytes := by
  unfold ItD.bytes wrB
  split
  · exact numsB_by _
  split
  · exact (textB_by _).app (textB_by _)
  split
  · exact flat_by h.kb
  split
  · exact (numB_by _).app (flat_by h.kb)
  split
  · exact (numB_by _).app (numsB_by _)
  · exact .nil
/-- One of those that are cut off. -/
theorem cut_step {β : Type} {one : List Int → β × List Int × Int} {f : β → List Int} {R : β → Prop} (hone : ∀ x r, R x → one (f x ++ r) = (x, r, 0)) (hcut : ∀ x j, R x → j < (f x).length → (one ((f x).take j)).2.2 = 3) {x : β} {rest : List β} {j : Nat} (hx : R x) (hj : j < ((x :: rest).flatMap f).length) :
    (one (((x :: rest).flatMap f).take j)).2.2 = 3 ∨ ∃ j', j' < (rest.flatMap f).length ∧ one (((x :: rest).flatMap f).take j) = (x, (rest.flatMap f).take j', 0) := by
  rw [List.flatMap_cons, List.length_append] at hj
  rw [List.flatMap_cons]
  rcases Nat.lt_or_ge j (f x).length with h1 | h1
  · left
    rw [List.take_append_of_le_length (by omega)]
    exact hcut x j hx h1
  · right
    refine ⟨j - (f x).length, by omega, ?_⟩
    rw [List.take_append, List.take_of_length_le (l := f x) h1, hone x _ hx]
attribute [local simp] wb_bool wb_undef XL_nil XL_cons XLc_val XLc_call step1_eq stepW_t stepW_f stepC_n stepC_s stepX_s stepX_n stepN_s calleeX oneV xop_eq xopR_s xopR_n wantedA_eq wantedG_n wantedG_s plain1_int plain1_bool plain1_string bits_i64 bits_u64 bits_u32 bits_u16 bits_u8 xeqA xarr allK_iv num_iv calleeOf xread xeff xbin xint xnil xun xstr xload xconv xpart xfield xfieldAddr xindexAddr xindex bnd asInt? xslice xlen xmin xmax xbuild xfill xappend xapp2 xappstr xappmk xcap xcopy xcells eval_tmp eval_const put_at put_none fr0_at cells_agg cells_int cells_bool cells_string cells_ptr cells_slice notTuple tab iv_all hget_app hget_app0 hget_cons0 hget_cons set_app set_app0 setR setR_one QL_nil QL_cons QLc_val stepQ_t stepQ_f stepQC_n stepQC_s stepQX_s SL_nil SL_cons SLc_val stepS_t stepS_f ltT ltF leT leF eqT eqF ltTn ltFn leTn leFn eqTn eqFn beqT beqF bneT bneF wi64 wu64 wu32 wu16 wu8 tmodP tdivP hgetL hgetNe hgetEq setL nums_def nums_len Nat.succ_le_of_lt List.getElem?_cons_zero List.getElem?_cons_succ Option.getD_some Int.toNat_add Int.toNat_mul agB agI agS agP agL agA okB okI okS okP okSl okA
theorem cut_law {H : AH} {γ : Nat → Option Nat} {nro : Nat} {ds : List CD} {us : List Value} (at_ : Int) (hok : OkL itK ds) (hvl : ValL H ds us) (hat : -9223372036854775808 ≤ at_ ∧ at_ ≤ 9223372036854775807) (hnro : nro ≤ H.length) :
    AC Try.prog nro γ 6 #[.agg us.toArray, .int .i64 at_] H (fun v' H' => v' = .bool true) := by
  obtain ⟨x, rfl, hw⟩ := item_of hok
  obtain ⟨nv, kv, hus, hsn, hsk⟩ := item_val hvl
  have hkk := val_keys hw.ks hsk
  obtain ⟨hnn, hnc⟩ := nt_of hsn
  obtain ⟨hkn, hkc⟩ := ntk_of hkk
  have hul : us.length = 5 := by rw [hus]; rfl
  have c0 : us[0]? = some (.int .i64 x.kind) := by rw [hus]; rfl
  have c2 : us[2]? = some nv := by rw [hus]; rfl
  have c3 : us[3]? = some (.string x.tx) := by rw [hus]; rfl
  have c4 : us[4]? = some kv := by rw [hus]; rfl
  have hit : (x.it nv kv).val = .agg us.toArray := by rw [hus]; rfl
  have htk : us.take 5 = us := List.take_of_length_le (by omega)
  obtain ⟨k5, hk5⟩ : ∃ k5, k5 = x.kind.tmod 5 := ⟨_, rfl⟩
  have hagg : notTuple (.agg us.toArray) = true := rfl
  refine ac_of_aw Try.func6 rfl Try.ntmps6 Try.results6 (by simp) ?_
  refine aw_seq ?_
  (refine aw_ops (by kernel_rfl) (fun K hK => ?_); simp (disch := first | omega | (simp only [List.length_set, List.length_append, List.length_cons, List.length_nil, iv_length, zl_length]; try omega; done)) [-getElem?_pos, -getElem?_neg, hagg, -notTuple]; refine hK _ _ ?_; clear hK K)
  obtain ⟨b, hb⟩ : ∃ b, b = H.length := ⟨_, rfl⟩
  have hb0 : hget (H ++ [some ⟨us, 33, none⟩]) b = some ⟨us, 33, none⟩ := by rw [hb, hget_app0]; rfl
  have s0 : Same0 H (H ++ [some ⟨us, 33, none⟩]) := .app _ _
  rw [← hb]
  generalize H ++ [some ⟨us, 33, none⟩] = G0 at hb0 s0 ⊢
  have keepb : ∀ {G G' : AH}, hget G b = some ⟨us, 33, none⟩ → Same0 G G' → hget G' b = some ⟨us, 33, none⟩ := fun h s => (s.2 b (hget_lt h)).trans h
  refine aw_seq ?_
  refine aw_seq ?_
  refine aw_ops (by kernel_rfl) (fun K hK => ?_)
  simp (disch := first | omega | (simp only [List.length_set, List.length_append, List.length_cons, List.length_nil, iv_length, zl_length]; try omega; done)) [-getElem?_pos, -getElem?_neg]
  refine ⟨by kernel_rfl, (alive_ac (Nat.le_trans hnro s0.1)).mono ?_⟩
  rintro v1 G1 ⟨rfl, s1'⟩
  try simp (disch := first | omega | (simp only [List.length_set, List.length_append, List.length_cons, List.length_nil, iv_length, zl_length]; try omega; done)) [-getElem?_pos, -getElem?_neg]
  refine hK _ _ ?_; clear hK K
  have hb1 := keepb hb0 s1'
  have s1 := s0.trans s1'
  refine aw_f (by (first | (simp [eval_tmp, put_at]; done) | (simp [eval_tmp, put_at]; omega))) (by kernel_rfl) ?_
  refine aw_skip ?_
  refine aw_seq ?_
  refine aw_seq ?_
  have hpn : plain1 (.slice none 0 0) = true := rfl
  have hfil : xfill (fun i => some (i * 5, 5)) (List.map (fun j => [Value.int IntKind.i64 0, Value.int IntKind.i64 0, Value.slice none 0 0, Value.string ByteArray.empty, Value.slice none 0 0][j % 5]?.getD undef) (List.range 5)) [(0, Value.agg us.toArray)] = some us := fill_agg rfl rfl hul
  refine aw_ops (by kernel_rfl) (fun K hK => ?_)
  simp (disch := first | omega | (simp only [List.length_set, List.length_append, List.length_cons, List.length_nil, iv_length, zl_length]; try omega; done)) [-getElem?_pos, -getElem?_neg, hb1, hul, htk, -xfill, hfil, hpn]
  have s2 : Same0 G1 (G1 ++ [some ⟨us, 33, some 5⟩]) := .app _ _
  have hgv : CD.Val (G1 ++ [some ⟨us, 33, some 5⟩]) (.sl ([x].map ItD.row)) (.slice (some ⟨G1.length, 0, none⟩) 1 1) := by
    refine CD.Val.sl (sz := 5) (rows := [x.row]) (by rw [hget_app0]; rfl) (by show 1 * 5 ≤ us.length; omega) (fun row hr => by simp at hr; subst hr; rfl) (fun i row c d y hi hc hy => ?_)
    have hi0 : i = 0 := by
      have := (List.getElem?_eq_some_iff.1 hi).1
      simp at this; exact this
    subst hi0
    cases hi
    have hy' : us[c]? = some y := by simpa using hy
    exact (hvl.2 c d y hc hy').low (fun j hj => (s2.2 j (Nat.lt_of_lt_of_le hj s1.1)).trans (s1.2 j hj))
  refine ⟨by kernel_rfl, (great_ac (xs := [x]) hgv (by simp [maxLen]) (by simpa using hw)).mono ?_⟩
  rintro v2 G2 ⟨rfl, rfl⟩
  try simp (disch := first | omega | (simp only [List.length_set, List.length_append, List.length_cons, List.length_nil, iv_length, zl_length]; try omega; done)) [-getElem?_pos, -getElem?_neg]
  refine hK _ _ ?_; clear hK K
  have hb2 := keepb hb1 s2
  have s3 := s1.trans s2
  generalize G1 ++ [some ⟨us, 33, some 5⟩] = G2 at hb2 s3 ⊢
  clear hgv s2 hb1 s1 s1'
  cases hg : greatB [x] with
  | true =>
    refine aw_t (by (first | (simp [eval_tmp, put_at]; done) | (simp [eval_tmp, put_at]; omega))) (by kernel_rfl) ?_
    refine aw_seq ?_
    refine aw_ops (by kernel_rfl) (fun K hK => ?_)
    simp (disch := first | omega | (simp only [List.length_set, List.length_append, List.length_cons, List.length_nil, iv_length, zl_length]; try omega; done)) [-getElem?_pos, -getElem?_neg]
    refine ⟨by kernel_rfl, (alive_ac (Nat.le_trans hnro s3.1)).mono ?_⟩
    rintro v3 G3 ⟨rfl, s4⟩
    try simp (disch := first | omega | (simp only [List.length_set, List.length_append, List.length_cons, List.length_nil, iv_length, zl_length]; try omega; done)) [-getElem?_pos, -getElem?_neg]
    refine hK _ _ ?_; clear hK K
    (refine aw_ret ?_; simp (disch := first | omega | (simp only [List.length_set, List.length_append, List.length_cons, List.length_nil, iv_length, zl_length]; try omega; done)) [-getElem?_pos, -getElem?_neg, thenQ_ret, scopeQ_ret, inBlockQ_ret, RQ, resL, resV])
  | false =>
  obtain ⟨_, hgx⟩ := not_great hg
  have hgx := hgx x (by simp)
  have hok1 := ok_it hw hgx nv kv
  refine aw_f (by (first | (simp [eval_tmp, put_at]; done) | (simp [eval_tmp, put_at]; omega))) (by kernel_rfl) ?_
  refine aw_skip ?_
  refine aw_seq ?_
  (refine aw_ops (by kernel_rfl) (fun K hK => ?_); simp (disch := first | omega | (simp only [List.length_set, List.length_append, List.length_cons, List.length_nil, iv_length, zl_length]; try omega; done)) [-getElem?_pos, -getElem?_neg]; refine hK _ _ ?_; clear hK K)
  have hw0 := wr_new (H := G2) rfl
  obtain ⟨w, hww⟩ : ∃ w, w = G2.length := ⟨_, rfl⟩
  rw [← hww] at hw0 ⊢
  have hb3 := hget_left' (L := [some ⟨[.slice none 0 0], 27, none⟩]) hb2
  have s4 : Same0 H (G2 ++ [some ⟨[.slice none 0 0], 27, none⟩]) := s3.trans (.app _ _)
  have hHw : H.length ≤ w := by rw [hww]; exact s3.1
  have hbw : b < w := by rw [hww]; exact hget_lt hb2
  generalize G2 ++ [some ⟨[.slice none 0 0], 27, none⟩] = G3 at hw0 hb3 s4 ⊢
  clear hww hb2 s3
  refine aw_seq ?_
  refine aw_ops (by kernel_rfl) (fun K hK => ?_)
  simp (disch := first | omega | (simp only [List.length_set, List.length_append, List.length_cons, List.length_nil, iv_length, zl_length]; try omega; done)) [-getElem?_pos, -getElem?_neg, hb3, hul, htk]
  have hwa := write_ac (γ := γ) (nro := nro) hw0 (by simp; omega) (Nat.le_trans hnro s4.1) (x := x.it nv kv) ⟨hsn.sls s4.2 s4.1 (by simp; omega), hkk.kys s4.2 s4.1 (by simp; omega)⟩ hok1 (by simp)
  rw [hit, x.bytes_eq, List.nil_append] at hwa
  refine ⟨by kernel_rfl, hwa.mono ?_⟩
  rintro v4 G4 ⟨rfl, F, hwr, hf4⟩
  try simp (disch := first | omega | (simp only [List.length_set, List.length_append, List.length_cons, List.length_nil, iv_length, zl_length]; try omega; done)) [-getElem?_pos, -getElem?_neg]
  refine hK _ _ ?_; clear hK K
  have s5 := s4.fr hf4 (by simp; omega)
  have hb4 : hget G4 b = some ⟨us, 33, none⟩ := (hf4.out b (hget_lt hb3) (by simp; omega)).trans hb3
  clear hwa hf4 s4 hb3 hw0
  refine aw_seq ?_
  refine aw_ops (by kernel_rfl) (fun K hK => ?_)
  simp (disch := first | omega | (simp only [List.length_set, List.length_append, List.length_cons, List.length_nil, iv_length, zl_length]; try omega; done)) [-getElem?_pos, -getElem?_neg]
  refine ⟨by kernel_rfl, (wstring_ac hwr).mono ?_⟩
  rintro v5 G5 ⟨rfl, rfl⟩
  try simp (disch := first | omega | (simp only [List.length_set, List.length_append, List.length_cons, List.length_nil, iv_length, zl_length]; try omega; done)) [-getElem?_pos, -getElem?_neg]
  refine hK _ _ ?_; clear hK K
  obtain ⟨l, hl⟩ : ∃ l, l = x.bytes := ⟨_, rfl⟩
  have hlen := wrB_len hok1
  rw [x.bytes_eq, ← hl] at hlen
  rw [← hl]
  have hsz := sn_size l
  refine aw_seq ?_
  refine aw_seq ?_
  (refine aw_ops (by kernel_rfl) (fun K hK => ?_); simp (disch := first | omega | (simp only [List.length_set, List.length_append, List.length_cons, List.length_nil, iv_length, zl_length]; try omega; done)) [-getElem?_pos, -getElem?_neg, hsz]; refine hK _ _ ?_; clear hK K)
  by_cases hl0 : l.length = 0
  · refine aw_t (by (first | (simp [eval_tmp, put_at, hl0]; done) | (simp [eval_tmp, put_at, hl0]; omega))) (by kernel_rfl) ?_
    refine aw_seq ?_
    refine aw_ops (by kernel_rfl) (fun K hK => ?_)
    simp (disch := first | omega | (simp only [List.length_set, List.length_append, List.length_cons, List.length_nil, iv_length, zl_length]; try omega; done)) [-getElem?_pos, -getElem?_neg]
    refine ⟨by kernel_rfl, (alive_ac (Nat.le_trans hnro s5.1)).mono ?_⟩
    rintro v3 G3 ⟨rfl, s4⟩
    try simp (disch := first | omega | (simp only [List.length_set, List.length_append, List.length_cons, List.length_nil, iv_length, zl_length]; try omega; done)) [-getElem?_pos, -getElem?_neg]
    refine hK _ _ ?_; clear hK K
    (refine aw_ret ?_; simp (disch := first | omega | (simp only [List.length_set, List.length_append, List.length_cons, List.length_nil, iv_length, zl_length]; try omega; done)) [-getElem?_pos, -getElem?_neg, thenQ_ret, scopeQ_ret, inBlockQ_ret, RQ, resL, resV])
  refine aw_f (by (first | (simp [eval_tmp, put_at, hl0]; done) | (simp [eval_tmp, put_at, hl0]; omega))) (by kernel_rfl) ?_
  refine aw_skip ?_
  obtain ⟨A, hA⟩ : ∃ A, A = IntKind.u64.wrap at_ := ⟨_, rfl⟩
  have hA0 : 0 ≤ A ∧ A ≤ 18446744073709551615 := by rw [hA]; simp only [IntKind.wrap, IntKind.bits, IntKind.signed]; simp; omega
  have hwl : IntKind.u64.wrap ((l.length : Nat) : Int) = ((l.length : Nat) : Int) := wu64 (by omega)
  obtain ⟨j, hj⟩ : ∃ j : Nat, (j : Int) = A % ((l.length : Nat) : Int) := ⟨(A % ((l.length : Nat) : Int)).toNat, by
    have := Int.emod_nonneg A (show ((l.length : Nat) : Int) ≠ 0 by omega); omega⟩
  have hjl : j < l.length := by
    have := Int.emod_lt_of_pos A (show (0 : Int) < ((l.length : Nat) : Int) by omega); omega
  have hex := ex_take l j
  have hwj : IntKind.i64.wrap ((j : Nat) : Int) = ((j : Nat) : Int) := wi64 (by omega)
  refine aw_seq ?_
  refine aw_ops (by kernel_rfl) (fun K hK => ?_)
  simp (disch := first | omega | (simp only [List.length_set, List.length_append, List.length_cons, List.length_nil, iv_length, zl_length]; try omega; done)) [-getElem?_pos, -getElem?_neg, hsz, ← hA, hwl, ← hj, hwj, hex]
  refine ⟨by kernel_rfl, newreader_ac.mono ?_⟩
  rintro v6 G6 ⟨rfl, rfl⟩
  try simp (disch := first | omega | (simp only [List.length_set, List.length_append, List.length_cons, List.length_nil, iv_length, zl_length]; try omega; done)) [-getElem?_pos, -getElem?_neg]
  refine hK _ _ ?_; clear hK K
  obtain ⟨p, hp⟩ : ∃ p, p = G5.length := ⟨_, rfl⟩
  obtain ⟨cur0, hcur0⟩ : ∃ cur0, cur0 = l.take j := ⟨_, rfl⟩
  rw [← hp, ← hcur0]
  have hr0 : hget (G5 ++ [some (rdC cur0 0)]) p = some (rdC cur0 0) := by rw [hp, hget_app0]; rfl
  have s6 : Same0 H (G5 ++ [some (rdC cur0 0)]) := s5.trans (.app _ _)
  have hHp : H.length ≤ p := by rw [hp]; exact s5.1
  have hbp : b < p := by rw [hp]; exact hget_lt hb4
  have hb6 := hget_left' (L := [some (rdC cur0 0)]) hb4
  generalize G5 ++ [some (rdC cur0 0)] = G at hr0 s6 hb6 ⊢
  clear hp hb4 s5 hwr
  have hby0 : By cur0 := by
    rw [hcur0, hl]
    exact fun y hy => bytes_by hw y (List.mem_of_mem_take hy)
  have hcl0 : cur0.length ≤ 1000000 := by rw [hcur0, List.length_take]; omega
  have hnp : nro ≤ p := by omega
  have hYl : l = if k5 = 0 then numsB x.ns else if k5 = 1 then textB x.tx ++ textB x.tx else if k5 = 2 then x.ks.flatten else if k5 = 3 then numB x.ks.length ++ x.ks.flatten else if k5 = 4 then numB x.ns.length ++ numsB x.ns else [] := by
    rw [hl, hk5]; rfl
  obtain ⟨ms, hms, hmb⟩ := nat_ints hw.ns
  have keepbG : ∀ {G' : AH}, Fr G G' [p] [p] → hget G' b = some ⟨us, 33, none⟩ ∧ Same0 H G' := fun hf => ⟨(hf.out b (hget_lt hb6) (by simp; omega)).trans hb6, s6.fr hf (by simp; omega)⟩
  refine aw_seq ?_
  refine aw_cut (fun α G' => α 7 = .pointer (some ⟨p, 0, none⟩) ∧ Same0 H G' ∧ ∃ l', hget G' p = some (rdC l' 3)) ?_ ?_
  case refine_2 =>
    rintro α G' ⟨h7, sG, l', hrd⟩
    refine aw_seq ?_
    refine aw_ops (by kernel_rfl) (fun K hK => ?_)
    simp (disch := first | omega | (simp only [List.length_set, List.length_append, List.length_cons, List.length_nil, iv_length, zl_length]; try omega; done)) [-getElem?_pos, -getElem?_neg]
    refine ⟨by kernel_rfl, (alive_ac (Nat.le_trans hnro sG.1)).mono ?_⟩
    rintro v3 G3 ⟨rfl, s4⟩
    try simp (disch := first | omega | (simp only [List.length_set, List.length_append, List.length_cons, List.length_nil, iv_length, zl_length]; try omega; done)) [-getElem?_pos, -getElem?_neg, h7]
    have hrd3 := (s4.2 p (hget_lt hrd)).trans hrd
    refine ⟨by kernel_rfl, (end_ac hrd3).mono ?_⟩
    rintro v5 G5 ⟨rfl, rfl⟩
    try simp (disch := first | omega | (simp only [List.length_set, List.length_append, List.length_cons, List.length_nil, iv_length, zl_length]; try omega; done)) [-getElem?_pos, -getElem?_neg]
    refine hK _ _ ?_; clear hK K
    (refine aw_ret ?_; simp (disch := first | omega | (simp only [List.length_set, List.length_append, List.length_cons, List.length_nil, iv_length, zl_length]; try omega; done)) [-getElem?_pos, -getElem?_neg, thenQ_ret, scopeQ_ret, inBlockQ_ret, RQ, resL, resV])
  refine aw_seq ?_
  (refine aw_ops (by kernel_rfl) (fun K hK => ?_); simp (disch := first | omega | (simp only [List.length_set, List.length_append, List.length_cons, List.length_nil, iv_length, zl_length]; try omega; done)) [-getElem?_pos, -getElem?_neg, hb6, c0, hul, ← hk5]; refine hK _ _ ?_; clear hK K)
  refine aw_block ?_
  refine aw_seq ?_
  by_cases q0 : k5 = 0
  · subst q0
    rw [if_pos rfl] at hYl
    (refine aw_ops (by kernel_rfl) (fun K hK => ?_); simp (disch := first | omega | (simp only [List.length_set, List.length_append, List.length_cons, List.length_nil, iv_length, zl_length]; try omega; done)) [-getElem?_pos, -getElem?_neg]; refine hK _ _ ?_; clear hK K)
    refine aw_t (by (first | (simp [eval_tmp, put_at]; done) | (simp [eval_tmp, put_at]; omega))) (by kernel_rfl) ?_
    refine aw_seq ?_
    (refine aw_ops (by kernel_rfl) (fun K hK => ?_); simp (disch := first | omega | (simp only [List.length_set, List.length_append, List.length_cons, List.length_nil, iv_length, zl_length]; try omega; done)) [-getElem?_pos, -getElem?_neg]; refine hK _ _ ?_; clear hK K)
    refine aw_block ?_
    refine aw_loop (fun c α G' => ∃ (i : Nat) (cur : List Int) (e : Int), i + c = ms.length ∧ α 8 = .int .i64 (i : Nat) ∧ α 7 = .pointer (some ⟨p, 0, none⟩) ∧ α 2 = .pointer (some ⟨b, 0, none⟩) ∧ hget G' p = some (rdC cur e) ∧ Fr G G' [p] [p] ∧ By cur ∧ cur.length ≤ 1000000 ∧ (e = 3 ∨ e = 0 ∧ ∃ j', j' < ((ms.drop i).flatMap numB).length ∧ cur = ((ms.drop i).flatMap numB).take j')) ms.length ?_ ?_
    · refine ⟨0, cur0, 0, by omega, by (first | (simp [put_at, put_none, fr0_at]; done) | rfl), by (first | (simp [put_at, put_none, fr0_at]; done) | rfl), by (first | (simp [put_at, put_none, fr0_at]; done) | rfl), hr0, .refl _ _, hby0, hcl0, .inr ⟨rfl, j, ?_, ?_⟩⟩
      · rw [List.drop_zero, ← numsB_nat, ← hms, ← hYl]; exact hjl
      · rw [List.drop_zero, ← numsB_nat, ← hms, ← hYl]; exact hcur0
    rintro c α G' ⟨i, cur, e, hic, h8, h7, h2, hrd, hf, hcb, hcl, hcase⟩
    obtain ⟨hb7, s7⟩ := keepbG hf
    have hpl : xload Try.prog 30 (.pointer (some ⟨b, 2, none⟩)) G' = some nv := by
      simp [xload, hb7, c2, hul, -getElem?_pos]
    have hxl := hsn.len (P := Try.prog) (t := 30) (e := 37) (by simp)
    rw [iv_length, hms, List.length_map] at hxl
    have hm60 : ms.length ≤ 60 := by have := hgx.2.1; rw [hms, List.length_map] at this; exact this
    refine aw_seq ?_
    refine aw_seq ?_
    (refine aw_ops (by kernel_rfl) (fun K hK => ?_); simp (disch := first | omega | (simp only [List.length_set, List.length_append, List.length_cons, List.length_nil, iv_length, zl_length]; try omega; done)) [-getElem?_pos, -getElem?_neg, h8, h2, -xload, hpl, -xlen, hxl]; refine hK _ _ ?_; clear hK K)
    by_cases hi : i < ms.length
    case neg =>
      refine aw_f (by (first | (simp [eval_tmp, put_at, hi]; done) | (simp [eval_tmp, put_at, hi]; omega))) (by kernel_rfl) ?_
      refine aw_exit ?_
      refine ⟨by (first | (simp [put_at, put_none, fr0_at, h7]; done) | rfl), s7, cur, ?_⟩
      rcases hcase with rfl | ⟨_, j', hj', _⟩
      · exact hrd
      · rw [List.drop_of_length_le (by omega)] at hj'; simp at hj'
    refine aw_t (by (first | (simp [eval_tmp, put_at, hi]; done) | (simp [eval_tmp, put_at, hi]; omega))) (by kernel_rfl) ?_
    refine aw_skip ?_
    refine aw_seq ?_
    refine aw_block ?_
    refine aw_ops (by kernel_rfl) (fun K hK => ?_)
    simp (disch := first | omega | (simp only [List.length_set, List.length_append, List.length_cons, List.length_nil, iv_length, zl_length]; try omega; done)) [-getElem?_pos, -getElem?_neg, h7]
    rcases hcase with rfl | ⟨rfl, j', hj', hcj⟩
    · refine ⟨by kernel_rfl, (number_err hrd (by omega)).mono ?_⟩
      rintro v8 G8 ⟨rfl, rfl⟩
      try simp (disch := first | omega | (simp only [List.length_set, List.length_append, List.length_cons, List.length_nil, iv_length, zl_length]; try omega; done)) [-getElem?_pos, -getElem?_neg]
      refine hK _ _ ?_; clear hK K
      (refine aw_ops (by kernel_rfl) (fun K hK => ?_); simp (disch := first | omega | (simp only [List.length_set, List.length_append, List.length_cons, List.length_nil, iv_length, zl_length]; try omega; done)) [-getElem?_pos, -getElem?_neg, h8]; refine hK _ _ ?_; clear hK K)
      exact ⟨c - 1, by omega, i + 1, cur, 3, by omega, by (first | (simp [put_at, put_none, fr0_at]; done) | rfl), by (first | (simp [put_at, put_none, fr0_at, h7]; done) | rfl), by (first | (simp [put_at, put_none, fr0_at, h2]; done) | rfl), hrd, hf, hcb, hcl, .inl rfl⟩
    · refine ⟨by kernel_rfl, (number_ac hnp hrd hcb hcl).mono ?_⟩
      rintro v8 G8 ⟨rfl, rfl⟩
      try simp (disch := first | omega | (simp only [List.length_set, List.length_append, List.length_cons, List.length_nil, iv_length, zl_length]; try omega; done)) [-getElem?_pos, -getElem?_neg]
      refine hK _ _ ?_; clear hK K
      (refine aw_ops (by kernel_rfl) (fun K hK => ?_); simp (disch := first | omega | (simp only [List.length_set, List.length_append, List.length_cons, List.length_nil, iv_length, zl_length]; try omega; done)) [-getElem?_pos, -getElem?_neg, h8]; refine hK _ _ ?_; clear hK K)
      have hby := rdNum_by hcb
      refine ⟨c - 1, by omega, i + 1, _, _, by omega, by (first | (simp [put_at, put_none, fr0_at]; done) | rfl), by (first | (simp [put_at, put_none, fr0_at, h7]; done) | rfl), by (first | (simp [put_at, put_none, fr0_at, h2]; done) | rfl), hgetEq (hget_lt hrd), hf.trans fr1, hby.1, by have := hby.2; omega, ?_⟩
      rw [List.drop_eq_getElem_cons hi] at hj' hcj
      rcases cut_step num_one num_cut (hmb _ (List.getElem_mem hi)) hj' with h3 | ⟨j2, hj2, h3⟩
      · exact .inl (by rw [hcj]; exact h3)
      · exact .inr ⟨by rw [hcj, h3], j2, hj2, by rw [hcj, h3]⟩
  rw [if_neg q0] at hYl
  (refine aw_ops (by kernel_rfl) (fun K hK => ?_); simp (disch := first | omega | (simp only [List.length_set, List.length_append, List.length_cons, List.length_nil, iv_length, zl_length]; try omega; done)) [-getElem?_pos, -getElem?_neg, q0]; refine hK _ _ ?_; clear hK K)
  refine aw_f (by (first | (simp [eval_tmp, put_at]; done) | (simp [eval_tmp, put_at]; omega))) (by kernel_rfl) ?_
  refine aw_seq ?_
  by_cases q1 : k5 = 1
  · subst q1
    rw [if_pos rfl] at hYl
    (refine aw_ops (by kernel_rfl) (fun K hK => ?_); simp (disch := first | omega | (simp only [List.length_set, List.length_append, List.length_cons, List.length_nil, iv_length, zl_length]; try omega; done)) [-getElem?_pos, -getElem?_neg]; refine hK _ _ ?_; clear hK K)
    refine aw_t (by (first | (simp [eval_tmp, put_at]; done) | (simp [eval_tmp, put_at]; omega))) (by kernel_rfl) ?_
    have h300 : ((x.tx.size : Nat) : Int) ≤ 300 := by omega
    have htl : (textB x.tx ++ textB x.tx).length = (textB x.tx).length + (textB x.tx).length := List.length_append
    refine aw_seq ?_
    refine aw_ops (by kernel_rfl) (fun K hK => ?_)
    simp (disch := first | omega | (simp only [List.length_set, List.length_append, List.length_cons, List.length_nil, iv_length, zl_length]; try omega; done)) [-getElem?_pos, -getElem?_neg]
    refine ⟨by kernel_rfl, (text_ac hnp hr0 hby0 hcl0 (by omega)).mono ?_⟩
    rintro v7 G7 ⟨rfl, rfl⟩
    try simp (disch := first | omega | (simp only [List.length_set, List.length_append, List.length_cons, List.length_nil, iv_length, zl_length]; try omega; done)) [-getElem?_pos, -getElem?_neg]
    refine hK _ _ ?_; clear hK K
    have hpl := hget_lt hr0
    rcases Nat.lt_or_ge j (textB x.tx).length with hjt | hjt
    · have e1 : (rdText 300 cur0).2.2 = 3 := by
        rw [hcur0, hYl, List.take_append_of_le_length (by omega)]
        exact rdText_cut h300 (by omega) hjt
      have hrd := hgetEq (x := some (rdC (rdText 300 cur0).2.1 (rdText 300 cur0).2.2)) hpl
      have hf : Fr G (G.set p (some (rdC (rdText 300 cur0).2.1 (rdText 300 cur0).2.2))) [p] [p] := fr1
      rw [e1] at hrd hf ⊢
      refine aw_ops (by kernel_rfl) (fun K hK => ?_)
      simp (disch := first | omega | (simp only [List.length_set, List.length_append, List.length_cons, List.length_nil, iv_length, zl_length]; try omega; done)) [-getElem?_pos, -getElem?_neg]
      refine ⟨by kernel_rfl, (text_err hrd (by omega)).mono ?_⟩
      rintro v8 G8 ⟨rfl, rfl⟩
      try simp (disch := first | omega | (simp only [List.length_set, List.length_append, List.length_cons, List.length_nil, iv_length, zl_length]; try omega; done)) [-getElem?_pos, -getElem?_neg]
      refine hK _ _ ?_; clear hK K
      exact ⟨by (first | (simp [put_at, put_none, fr0_at]; done) | rfl), (keepbG hf).2, _, hrd⟩
    · have e1 : rdText 300 cur0 = (nums x.tx, (textB x.tx).take (j - (textB x.tx).length), 0) := by
        rw [hcur0, hYl, List.take_append, List.take_of_length_le (l := textB x.tx) hjt]
        exact rdText_back h300 (by omega) _
      rw [e1]
      have hrd := hgetEq (x := some (rdC ((textB x.tx).take (j - (textB x.tx).length)) 0)) hpl
      have hf : Fr G (G.set p (some (rdC ((textB x.tx).take (j - (textB x.tx).length)) 0))) [p] [p] := fr1
      have e2 := rdText_cut (most := 300) (j := j - (textB x.tx).length) h300 (by omega) (by rw [hYl] at hjl; omega)
      generalize G.set p (some (rdC ((textB x.tx).take (j - (textB x.tx).length)) 0)) = G7 at hrd hf ⊢
      refine aw_ops (by kernel_rfl) (fun K hK => ?_)
      simp (disch := first | omega | (simp only [List.length_set, List.length_append, List.length_cons, List.length_nil, iv_length, zl_length]; try omega; done)) [-getElem?_pos, -getElem?_neg]
      refine ⟨by kernel_rfl, (text_ac hnp hrd (fun y hy => textB_by x.tx y (List.mem_of_mem_take hy)) (by rw [List.length_take]; have := textB_len x.tx; omega) (by omega)).mono ?_⟩
      rintro v8 G8 ⟨rfl, rfl⟩
      try simp (disch := first | omega | (simp only [List.length_set, List.length_append, List.length_cons, List.length_nil, iv_length, zl_length]; try omega; done)) [-getElem?_pos, -getElem?_neg]
      refine hK _ _ ?_; clear hK K
      refine ⟨by (first | (simp [put_at, put_none, fr0_at]; done) | rfl), (keepbG (hf.trans fr1)).2, (rdText 300 ((textB x.tx).take (j - (textB x.tx).length))).2.1, ?_⟩
      rw [← e2]
      exact hgetEq (hget_lt hrd)
  rw [if_neg q1] at hYl
  (refine aw_ops (by kernel_rfl) (fun K hK => ?_); simp (disch := first | omega | (simp only [List.length_set, List.length_append, List.length_cons, List.length_nil, iv_length, zl_length]; try omega; done)) [-getElem?_pos, -getElem?_neg, q1]; refine hK _ _ ?_; clear hK K)
  refine aw_f (by (first | (simp [eval_tmp, put_at]; done) | (simp [eval_tmp, put_at]; omega))) (by kernel_rfl) ?_
  refine aw_seq ?_
  by_cases q2 : k5 = 2
  · subst q2
    rw [if_pos rfl] at hYl
    (refine aw_ops (by kernel_rfl) (fun K hK => ?_); simp (disch := first | omega | (simp only [List.length_set, List.length_append, List.length_cons, List.length_nil, iv_length, zl_length]; try omega; done)) [-getElem?_pos, -getElem?_neg]; refine hK _ _ ?_; clear hK K)
    refine aw_t (by (first | (simp [eval_tmp, put_at]; done) | (simp [eval_tmp, put_at]; omega))) (by kernel_rfl) ?_
    refine aw_seq ?_
    (refine aw_ops (by kernel_rfl) (fun K hK => ?_); simp (disch := first | omega | (simp only [List.length_set, List.length_append, List.length_cons, List.length_nil, iv_length, zl_length]; try omega; done)) [-getElem?_pos, -getElem?_neg]; refine hK _ _ ?_; clear hK K)
    refine aw_block ?_
    refine aw_loop (fun c α G' => ∃ (i : Nat) (cur : List Int) (e : Int), i + c = x.ks.length ∧ α 9 = .int .i64 (i : Nat) ∧ α 7 = .pointer (some ⟨p, 0, none⟩) ∧ α 2 = .pointer (some ⟨b, 0, none⟩) ∧ hget G' p = some (rdC cur e) ∧ Fr G G' [p] [p] ∧ By cur ∧ cur.length ≤ 1000000 ∧ (e = 3 ∨ e = 0 ∧ ∃ j', j' < ((x.ks.drop i).flatMap id).length ∧ cur = ((x.ks.drop i).flatMap id).take j')) x.ks.length ?_ ?_
    · refine ⟨0, cur0, 0, by omega, by (first | (simp [put_at, put_none, fr0_at]; done) | rfl), by (first | (simp [put_at, put_none, fr0_at]; done) | rfl), by (first | (simp [put_at, put_none, fr0_at]; done) | rfl), hr0, .refl _ _, hby0, hcl0, .inr ⟨rfl, j, ?_, ?_⟩⟩
      · rw [List.drop_zero, flat_id, ← hYl]; exact hjl
      · rw [List.drop_zero, flat_id, ← hYl]; exact hcur0
    rintro c α G' ⟨i, cur, e, hic, h8, h7, h2, hrd, hf, hcb, hcl, hcase⟩
    obtain ⟨hb7, s7⟩ := keepbG hf
    have hpl : xload Try.prog 31 (.pointer (some ⟨b, 4, none⟩)) G' = some kv := by
      simp [xload, hb7, c4, hul, -getElem?_pos]
    have hxl := hkk.len (P := Try.prog) (t := 31) (e := 41) (by simp)
    have hm20 := hgx.2.2
    refine aw_seq ?_
    refine aw_seq ?_
    (refine aw_ops (by kernel_rfl) (fun K hK => ?_); simp (disch := first | omega | (simp only [List.length_set, List.length_append, List.length_cons, List.length_nil, iv_length, zl_length]; try omega; done)) [-getElem?_pos, -getElem?_neg, h8, h2, -xload, hpl, -xlen, hxl]; refine hK _ _ ?_; clear hK K)
    by_cases hi : i < x.ks.length
    case neg =>
      refine aw_f (by (first | (simp [eval_tmp, put_at, hi]; done) | (simp [eval_tmp, put_at, hi]; omega))) (by kernel_rfl) ?_
      refine aw_exit ?_
      refine ⟨by (first | (simp [put_at, put_none, fr0_at, h7]; done) | rfl), s7, cur, ?_⟩
      rcases hcase with rfl | ⟨_, j', hj', _⟩
      · exact hrd
      · rw [List.drop_of_length_le (by omega)] at hj'; simp at hj'
    refine aw_t (by (first | (simp [eval_tmp, put_at, hi]; done) | (simp [eval_tmp, put_at, hi]; omega))) (by kernel_rfl) ?_
    refine aw_skip ?_
    refine aw_seq ?_
    refine aw_block ?_
    refine aw_ops (by kernel_rfl) (fun K hK => ?_)
    simp (disch := first | omega | (simp only [List.length_set, List.length_append, List.length_cons, List.length_nil, iv_length, zl_length]; try omega; done)) [-getElem?_pos, -getElem?_neg, h7]
    rcases hcase with rfl | ⟨rfl, j', hj', hcj⟩
    · refine ⟨by kernel_rfl, (key_err (Nat.le_trans hnro s7.1) hrd (by omega)).mono ?_⟩
      rintro v8 G8 ⟨rfl, hrd8, hf8⟩
      try simp (disch := first | omega | (simp only [List.length_set, List.length_append, List.length_cons, List.length_nil, iv_length, zl_length]; try omega; done)) [-getElem?_pos, -getElem?_neg]
      refine hK _ _ ?_; clear hK K
      (refine aw_ops (by kernel_rfl) (fun K hK => ?_); simp (disch := first | omega | (simp only [List.length_set, List.length_append, List.length_cons, List.length_nil, iv_length, zl_length]; try omega; done)) [-getElem?_pos, -getElem?_neg, h8]; refine hK _ _ ?_; clear hK K)
      exact ⟨c - 1, by omega, i + 1, cur, 3, by omega, by (first | (simp [put_at, put_none, fr0_at]; done) | rfl), by (first | (simp [put_at, put_none, fr0_at, h7]; done) | rfl), by (first | (simp [put_at, put_none, fr0_at, h2]; done) | rfl), hrd8, hf.trans hf8, hcb, hcl, .inl rfl⟩
    · refine ⟨by kernel_rfl, (key_ac (Nat.le_trans hnro s7.1) hnp hrd hcb hcl).mono ?_⟩
      rintro v8 G8 ⟨rfl, hrd8, hf8⟩
      try simp (disch := first | omega | (simp only [List.length_set, List.length_append, List.length_cons, List.length_nil, iv_length, zl_length]; try omega; done)) [-getElem?_pos, -getElem?_neg]
      refine hK _ _ ?_; clear hK K
      (refine aw_ops (by kernel_rfl) (fun K hK => ?_); simp (disch := first | omega | (simp only [List.length_set, List.length_append, List.length_cons, List.length_nil, iv_length, zl_length]; try omega; done)) [-getElem?_pos, -getElem?_neg, h8]; refine hK _ _ ?_; clear hK K)
      have hby : By (rdKey cur).2.1 ∧ (rdKey cur).2.1.length ≤ cur.length := by
        unfold rdKey
        split
        · exact ⟨hcb, Nat.le_refl _⟩
        · exact ⟨fun y hy => hcb y (List.mem_of_mem_drop hy), by simp only [List.length_drop]; omega⟩
      refine ⟨c - 1, by omega, i + 1, _, _, by omega, by (first | (simp [put_at, put_none, fr0_at]; done) | rfl), by (first | (simp [put_at, put_none, fr0_at, h7]; done) | rfl), by (first | (simp [put_at, put_none, fr0_at, h2]; done) | rfl), hrd8, hf.trans hf8, hby.1, by have := hby.2; omega, ?_⟩
      rw [List.drop_eq_getElem_cons hi] at hj' hcj
      rcases cut_step key_one key_cut (hw.ks _ (List.getElem_mem hi)) hj' with h3 | ⟨j2, hj2, h3⟩
      · exact .inl (by rw [hcj]; exact h3)
      · exact .inr ⟨by rw [hcj, h3], j2, hj2, by rw [hcj, h3]⟩
  rw [if_neg q2] at hYl
  (refine aw_ops (by kernel_rfl) (fun K hK => ?_); simp (disch := first | omega | (simp only [List.length_set, List.length_append, List.length_cons, List.length_nil, iv_length, zl_length]; try omega; done)) [-getElem?_pos, -getElem?_neg, q2]; refine hK _ _ ?_; clear hK K)
  refine aw_f (by (first | (simp [eval_tmp, put_at]; done) | (simp [eval_tmp, put_at]; omega))) (by kernel_rfl) ?_
  refine aw_seq ?_
  by_cases q3 : k5 = 3
  · subst q3
    rw [if_pos rfl] at hYl
    (refine aw_ops (by kernel_rfl) (fun K hK => ?_); simp (disch := first | omega | (simp only [List.length_set, List.length_append, List.length_cons, List.length_nil, iv_length, zl_length]; try omega; done)) [-getElem?_pos, -getElem?_neg]; refine hK _ _ ?_; clear hK K)
    refine aw_t (by (first | (simp [eval_tmp, put_at]; done) | (simp [eval_tmp, put_at]; omega))) (by kernel_rfl) ?_
    refine aw_ops (by kernel_rfl) (fun K hK => ?_)
    simp (disch := first | omega | (simp only [List.length_set, List.length_append, List.length_cons, List.length_nil, iv_length, zl_length]; try omega; done)) [-getElem?_pos, -getElem?_neg]
    refine ⟨by kernel_rfl, (rkeylist_ac (Nat.le_trans hnro s6.1) hnp hr0 hby0 hcl0 (most := 20) (by omega)).mono ?_⟩
    rintro v7 G7 ⟨_, _, hrd, hf⟩
    try simp (disch := first | omega | (simp only [List.length_set, List.length_append, List.length_cons, List.length_nil, iv_length, zl_length]; try omega; done)) [-getElem?_pos, -getElem?_neg]
    refine hK _ _ ?_; clear hK K
    have e1 : (rdMany rdKey 20 cur0).2.2 = 3 := by
      rw [hcur0, hYl, ← flat_id]
      exact many_cut key_one key_cut hw.ks (by have := hgx.2.2; omega) (by have := hgx.2.2; omega) (by rw [flat_id, ← hYl]; exact hjl)
    rw [e1] at hrd
    exact ⟨by (first | (simp [put_at, put_none, fr0_at]; done) | rfl), (keepbG hf).2, _, hrd⟩
  rw [if_neg q3] at hYl
  (refine aw_ops (by kernel_rfl) (fun K hK => ?_); simp (disch := first | omega | (simp only [List.length_set, List.length_append, List.length_cons, List.length_nil, iv_length, zl_length]; try omega; done)) [-getElem?_pos, -getElem?_neg, q3]; refine hK _ _ ?_; clear hK K)
  refine aw_f (by (first | (simp [eval_tmp, put_at]; done) | (simp [eval_tmp, put_at]; omega))) (by kernel_rfl) ?_
  refine aw_seq ?_
  by_cases q4 : k5 = 4
  · subst q4
    rw [if_pos rfl] at hYl
    (refine aw_ops (by kernel_rfl) (fun K hK => ?_); simp (disch := first | omega | (simp only [List.length_set, List.length_append, List.length_cons, List.length_nil, iv_length, zl_length]; try omega; done)) [-getElem?_pos, -getElem?_neg]; refine hK _ _ ?_; clear hK K)
    refine aw_t (by (first | (simp [eval_tmp, put_at]; done) | (simp [eval_tmp, put_at]; omega))) (by kernel_rfl) ?_
    refine aw_ops (by kernel_rfl) (fun K hK => ?_)
    simp (disch := first | omega | (simp only [List.length_set, List.length_append, List.length_cons, List.length_nil, iv_length, zl_length]; try omega; done)) [-getElem?_pos, -getElem?_neg]
    refine ⟨by kernel_rfl, (numberlist_ac (Nat.le_trans hnro s6.1) hnp hr0 hby0 hcl0 (most := 60) (by omega)).mono ?_⟩
    rintro v7 G7 ⟨_, hrd, hf⟩
    try simp (disch := first | omega | (simp only [List.length_set, List.length_append, List.length_cons, List.length_nil, iv_length, zl_length]; try omega; done)) [-getElem?_pos, -getElem?_neg]
    refine hK _ _ ?_; clear hK K
    have e1 : (rdMany rdNum 60 cur0).2.2 = 3 := by
      have hm60 : ms.length ≤ 60 := by have := hgx.2.1; rw [hms, List.length_map] at this; exact this
      rw [hms, numsB_nat, List.length_map] at hYl
      rw [hcur0, hYl]
      exact many_cut num_one num_cut hmb (by omega) (by omega) (by rw [← hYl]; exact hjl)
    rw [e1] at hrd
    exact ⟨by (first | (simp [put_at, put_none, fr0_at]; done) | rfl), (keepbG hf).2, _, hrd⟩
  rw [if_neg q4] at hYl
  rw [hYl] at hl0
  exact absurd rfl hl0
end Go.Proofs.Ytpdijcaikjobiaa
