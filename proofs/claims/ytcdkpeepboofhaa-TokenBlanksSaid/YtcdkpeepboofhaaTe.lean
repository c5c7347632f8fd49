/-
  A text cut, walked.
-/
import Derived.Test.YtcdkpeepboofhaaTd
import Derived.Test.YtcdkpeepboofhaaXsm
namespace Go.Proofs.Ytcdkpeepboofhaa
open Go Go.RowKit
set_option linter.unusedVariables false
set_option linter.unusedSimpArgs false
set_option maxRecDepth 100000
set_option maxHeartbeats 4000000
def toksC (ts : List (Tk × Nat)) : List Value := ts.flatMap fun p => p.1.cells p.2
theorem toksC_len (ts : List (Tk × Nat)) : (toksC ts).length = ts.length * 4 := by
  induction ts with
  | nil => rfl
  | cons p ts ih =>
    have : toksC (p :: ts) = p.1.cells p.2 ++ toksC ts := rfl
    rw [this, List.length_append, ih, List.length_cons]
    simp [Tk.cells]; omega
theorem toksC_snoc (ts : List (Tk × Nat)) (t : Tk) (a : Nat) : toksC (ts ++ [(t, a)]) = toksC ts ++ t.cells a := by simp [toksC]
theorem nt_agg (a : Array Value) : notTuple (.agg a) = true := rfl
theorem txL_ok : ∀ (f : Nat) (l b : List Int) (a : Nat), By l → By b → (txL f l b a).2.2 = 0 → a + 1 ≤ (txL f l b a).2.1 ∧ (txL f l b a).2.1 ≤ a + l.length ∧ By (txL f l b a).1.tx
  | 0, l, b, a, _, _, h => by simp [txL] at h
  | f + 1, [], b, a, _, _, h => by simp [txL] at h
  | f + 1, c :: r, b, a, hl, hb, h => by
    rw [txL] at h ⊢
    by_cases h1 : c = 34
    · rw [if_pos h1] at h ⊢
      by_cases h2 : 64 < b.length
      · rw [if_pos h2] at h; simp at h
      · rw [if_neg h2]
        simp only [List.length_cons]
        exact ⟨by omega, by omega, hb⟩
    · rw [if_neg h1] at h ⊢
      have hbd := letterL_bd hl
      by_cases h2 : (letterL (c :: r)).2.2 ≠ 0
      · rw [if_pos h2] at h
        exact absurd h h2
      · rw [if_neg h2] at h ⊢
        obtain ⟨g1, g2, _⟩ := hbd
        obtain ⟨g2, g3⟩ := g2 (by simpa using h2) (by simp)
        have := txL_ok f _ _ _ (hl.drop _) (hb.app g1) h
        rw [List.length_drop] at this
        exact ⟨by omega, by omega, this.2.2⟩
theorem firstL_ok {l : List Int} (hb : By l) (hne : l ≠ []) (h : (firstL l).2.2 = 0) : 1 ≤ (firstL l).2.1 ∧ (firstL l).2.1 ≤ l.length ∧ By (firstL l).1.tx := by
  cases l with
  | nil => exact absurd rfl hne
  | cons c r =>
    have hc0 : (c :: r).getD 0 0 = c := rfl
    unfold firstL at h ⊢
    rw [hc0] at h ⊢
    by_cases h1 : isLetB c = true
    · rw [if_pos h1] at h ⊢
      unfold nameL at h ⊢
      have hw : isWordB c = true := by simp [isWordB, h1]
      have hr := runL_le isWordB (c :: r)
      split at h
      · simp at h
      · rename_i hn
        rw [if_neg hn]
        have hp : 1 ≤ runL isWordB (c :: r) := by rw [runL_cons_t hw]; omega
        exact ⟨hp, hr, hb.take _⟩
    rw [if_neg h1] at h ⊢
    by_cases h2 : isDigB c = true
    · rw [if_pos h2] at h ⊢
      unfold numberL at h ⊢
      have hr := runL_le isDigB (c :: r)
      split at h
      · simp at h
      · rename_i hn
        rw [if_neg hn]
        have hp : 1 ≤ runL isDigB (c :: r) := by rw [runL_cons_t h2]; omega
        cases hv : numV 0 ((c :: r).take (runL isDigB (c :: r))) with
        | none => rw [hv] at h; simp at h
        | some v => exact ⟨hp, hr, .nil⟩
    rw [if_neg h2] at h ⊢
    by_cases h3 : c = 34
    · rw [if_pos h3] at h ⊢
      unfold textT at h ⊢
      have := txL_ok _ _ _ _ (hb.drop 1) .nil h
      rw [List.length_drop] at this
      have hlc : (c :: r).length = r.length + 1 := rfl
      exact ⟨by omega, by omega, this.2.2⟩
    rw [if_neg h3] at h ⊢
    by_cases h4 : isSign c = true
    · rw [if_pos h4]
      exact ⟨by simp, by simp, hb.take 1⟩
    · rw [if_neg h4] at h
      simp at h
def cutL : Nat → Nat → List Int → List (Tk × Nat) → List (Tk × Nat) × Nat × Int
  | 0, _, _, ts => (ts, 0, 0)
  | _ + 1, _, [], ts => (ts, 0, 0)
  | f + 1, a, c :: r, ts => if c = 32 ∨ c = 9 ∨ c = 10 then cutL f (a + 1) r ts else
    if c = 35 then cutL f (a + runL notNl (c :: r)) ((c :: r).drop (runL notNl (c :: r))) ts else
    if (firstL (c :: r)).2.2 ≠ 0 then ([], a, (firstL (c :: r)).2.2) else cutL f (a + (firstL (c :: r)).2.1) ((c :: r).drop (firstL (c :: r)).2.1) (ts ++ [((firstL (c :: r)).1, a)])
def cutR (l : List Int) : List (Tk × Nat) × Nat × Int := if 4000 < l.length then ([], 0, 24) else cutL (l.length + 1) 0 l []
attribute [local simp] wb_bool wb_undef XL_nil XL_cons XLc_val XLc_call step1_eq stepW_t stepW_f stepC_n stepC_s stepX_s stepX_n stepN_s calleeX oneV xop_eq xopR_s xopR_n wantedA_eq wantedG_n wantedG_s plain1_int plain1_bool plain1_string bits_i64 bits_u64 bits_u32 bits_u16 bits_u8 xeqA xagg xcmp xarr allK_iv num_iv calleeOf xread xeff xbin xint xnil xun xstr xload xconv xpart xfield xfieldAddr xindexAddr xindex bnd asInt? xslice xlen xmin xmax xbuild xfill xappend xapp2 xappstr xappmk xcap xcopy xcells eval_tmp eval_const put_at put_none fr0_at cells_agg cells_int cells_bool cells_string cells_ptr cells_slice notTuple tab iv_all hget_app hget_app0 hget_cons0 hget_cons set_app set_app0 setR setR_one QL_nil QL_cons QLc_val stepQ_t stepQ_f stepQC_n stepQC_s stepQX_s SL_nil SL_cons SLc_val stepS_t stepS_f ltT ltF leT leF eqT eqF ltTn ltFn leTn leFn eqTn eqFn beqT beqF bneT bneF wi64 wu64 wu32 wu16 wu8 tmodP tdivP hgetL hgetNe hgetEq setL nums_def nums_len Nat.succ_le_of_lt List.getElem?_cons_zero List.getElem?_cons_succ Option.getD_some Int.toNat_add Int.toNat_mul agB agI agS agP agL agA okB okI okS okP okSl okA
theorem tok_append {H : AH} {nro : Nat} {v : Value} {ts : List (Tk × Nat)} {F : List Nat} (t : Tk) (a : Nat) (h : OwnF H v 29 4 (toksC ts) F) (hF : ∀ j ∈ F, nro ≤ j) (hb : ts.length ≤ 1000000) :
    ∃ v' H', xappend Try.prog nro 24 v (.slice (some ⟨H.length, 0, none⟩) 1 1) (H ++ [some ⟨t.cells a, 29, some 4⟩]) = some (v', H') ∧ notTuple v' = true ∧ v'.cells = #[v'] ∧ OwnF H' v' 29 4 (toksC (ts ++ [(t, a)])) [H.length + 1] ∧ H'.length = H.length + 2 ∧ ∀ j, j < H.length → j ∉ F → hget H' j = hget H j := by
  have hlt := h.lt
  have hxc : xcells 4 (.slice (some ⟨H.length, 0, none⟩) 1 1) (H ++ [some ⟨t.cells a, 29, some 4⟩]) = some (t.cells a) := by simp [xcells, hget_app0, Tk.cells]
  have hlc := toksC_len ts
  have htc : (t.cells a).length = 4 := rfl
  obtain ⟨v', H', hap, ho, hlen, hk⟩ := ownF_append (P := Try.prog) (nro := nro) (t := 24) (e := 29) (H := H ++ [some ⟨t.cells a, 29, some 4⟩]) (v := v) (x := .slice (some ⟨H.length, 0, none⟩) 1 1) (sz := 4) (cells := toksC ts) (news := t.cells a) (F := F) (by simp) (by simp) (by omega) (by simp) (h.low (fun j hj => hget_left (hlt j hj)))
    hF (fun s e => by cases e) hxc (by simp [Tk.cells]) (by rw [htc]) (by rw [htc, hlc]; simp; omega) (by rw [htc, hlc]; simp [maxLen]; omega)
  have hs := own_shape ho
  refine ⟨v', H', hap, hs.1, hs.2, ?_, by rw [hlen]; simp, fun j hj hn => (hk j (by simp; omega) hn).trans (hget_left hj)⟩
  rw [toksC_snoc]
  simpa using ho
theorem cut_ac {H : AH} {γ : Nat → Option Nat} {nro : Nat} {l : List Int} (hnl : nro ≤ H.length) (hb : By l) (hl : l.length ≤ 1000000) :
    AC Try.prog nro γ 6 #[.string (strOfNums l)] H (fun v' H' => ∃ w F, v' = .tuple #[w, .int .i64 ((cutR l).2.1 : Nat), .int .i64 (cutR l).2.2] ∧ OwnF H' w 29 4 (toksC (cutR l).1) F ∧ (∀ j ∈ F, H.length ≤ j) ∧ Same0 H H') := by
  have hsz := sn_size l
  obtain ⟨R, hR⟩ : ∃ R, R = cutR l := ⟨_, rfl⟩
  have hR2 := hR
  unfold cutR at hR2
  rw [← hR]
  refine ac_of_aw Try.func6 rfl Try.ntmps6 Try.results6 (by simp) ?_
  refine aw_seq ?_
  (refine aw_ops (by kernel_rfl) (fun K hK => ?_); simp (disch := first | omega | (simp only [List.length_set, List.length_append, List.length_cons, List.length_nil, iv_length, zl_length]; try omega; done)) [-getElem?_pos, -getElem?_neg]; refine hK _ _ ?_; clear hK K)
  refine aw_scope ?_
  refine aw_seq ?_
  refine aw_seq ?_
  (refine aw_ops (by kernel_rfl) (fun K hK => ?_); simp (disch := first | omega | (simp only [List.length_set, List.length_append, List.length_cons, List.length_nil, iv_length, zl_length]; try omega; done)) [-getElem?_pos, -getElem?_neg, hsz]; refine hK _ _ ?_; clear hK K)
  by_cases hlong : 4000 < l.length
  · rw [if_pos hlong] at hR2
    refine aw_t (by (first | (simp [eval_tmp, put_at, hlong]; done) | (simp [eval_tmp, put_at, hlong]; omega))) (by kernel_rfl) ?_
    refine aw_seq ?_
    (refine aw_ops (by kernel_rfl) (fun K hK => ?_); simp (disch := first | omega | (simp only [List.length_set, List.length_append, List.length_cons, List.length_nil, iv_length, zl_length]; try omega; done)) [-getElem?_pos, -getElem?_neg]; refine hK _ _ ?_; clear hK K)
    (refine aw_ret ?_; simp (disch := first | omega | (simp only [List.length_set, List.length_append, List.length_cons, List.length_nil, iv_length, zl_length]; try omega; done)) [-getElem?_pos, -getElem?_neg, thenQ_ret, scopeQ_ret, inBlockQ_ret, RQ, resL, resV, hR2])
    exact ⟨[], .inl ⟨rfl, rfl, rfl⟩, by simp, .refl _⟩
  rw [if_neg hlong] at hR2
  refine aw_f (by (first | (simp [eval_tmp, put_at, hlong]; done) | (simp [eval_tmp, put_at, hlong]; omega))) (by kernel_rfl) ?_
  refine aw_skip ?_
  refine aw_seq ?_
  (refine aw_ops (by kernel_rfl) (fun K hK => ?_); simp (disch := first | omega | (simp only [List.length_set, List.length_append, List.length_cons, List.length_nil, iv_length, zl_length]; try omega; done)) [-getElem?_pos, -getElem?_neg]; refine hK _ _ ?_; clear hK K)
  refine aw_seq ?_
  (refine aw_ops (by kernel_rfl) (fun K hK => ?_); simp (disch := first | omega | (simp only [List.length_set, List.length_append, List.length_cons, List.length_nil, iv_length, zl_length]; try omega; done)) [-getElem?_pos, -getElem?_neg]; refine hK _ _ ?_; clear hK K)
  refine aw_seq ?_
  refine aw_label ?_
  refine aw_seq ?_
  refine aw_block ?_
  refine aw_loop (fun q α G => ∃ (at_ : Nat) (ts : List (Tk × Nat)) (w : Value) (F : List Nat), at_ ≤ l.length ∧ l.length - at_ < q ∧ ts.length ≤ at_ ∧ α 0 = .string (strOfNums l) ∧ α 5 = w ∧ α 6 = .int .i64 (at_ : Nat) ∧ OwnF G w 29 4 (toksC ts) F ∧ (∀ j ∈ F, H.length ≤ j) ∧ Same0 H G ∧ cutL q at_ (l.drop at_) ts = R) (l.length + 1) ?_ ?_
  · exact ⟨0, [], _, [], by omega, by omega, by simp, by (first | (simp [put_at, put_none, fr0_at]; done) | rfl), rfl, by (first | (simp [put_at, put_none, fr0_at]; done) | rfl), .inl ⟨by (first | (simp [put_at, put_none, fr0_at]; done) | rfl), rfl, rfl⟩, by simp, .refl _, hR2.symm⟩
  rintro q α G ⟨at_, ts, w, F, hal, hq, htl, h0, h5, h6, ho, hF, sG, hcu⟩
  obtain ⟨q, rfl⟩ : ∃ q', q = q' + 1 := ⟨q - 1, by omega⟩
  have hos := own_shape ho
  have hnt := hos.1
  have hnG : nro ≤ G.length := Nat.le_trans hnl sG.1
  refine aw_seq ?_
  refine aw_seq ?_
  (refine aw_ops (by kernel_rfl) (fun K hK => ?_); simp (disch := first | omega | (simp only [List.length_set, List.length_append, List.length_cons, List.length_nil, iv_length, zl_length]; try omega; done)) [-getElem?_pos, -getElem?_neg, h0, h6, hsz]; refine hK _ _ ?_; clear hK K)
  rcases Nat.lt_or_ge at_ l.length with hat | hat
  case inr =>
    obtain rfl : at_ = l.length := by omega
    rw [List.drop_length, cutL] at hcu
    refine aw_f (by (first | (simp [eval_tmp, put_at]; done) | (simp [eval_tmp, put_at]; omega))) (by kernel_rfl) ?_
    refine aw_exit ?_
    refine aw_seq ?_
    (refine aw_ops (by kernel_rfl) (fun K hK => ?_); simp (disch := first | omega | (simp only [List.length_set, List.length_append, List.length_cons, List.length_nil, iv_length, zl_length]; try omega; done)) [-getElem?_pos, -getElem?_neg, h5, hnt, -notTuple, nt_int, nt_sl]; refine hK _ _ ?_; clear hK K)
    clear hR2 hR
    subst hcu
    (refine aw_ret ?_; simp (disch := first | omega | (simp only [List.length_set, List.length_append, List.length_cons, List.length_nil, iv_length, zl_length]; try omega; done)) [-getElem?_pos, -getElem?_neg, thenQ_ret, scopeQ_ret, inBlockQ_ret, RQ, resL, resV, h5, -notTuple, hnt, nt_int])
    exact ⟨F, ho, hF, sG⟩
  refine aw_t (by (first | (simp [eval_tmp, put_at, hat]; done) | (simp [eval_tmp, put_at, hat]; omega))) (by kernel_rfl) ?_
  refine aw_skip ?_
  refine aw_block ?_
  obtain ⟨c, hc⟩ : ∃ c, l[at_]? = some c := ⟨_, List.getElem?_eq_getElem hat⟩
  have hcb := hb c (List.mem_of_getElem? hc)
  have hgb := gb_get hb hc
  have hdr : l.drop at_ = c :: l.drop (at_ + 1) := by
    obtain ⟨_, rfl⟩ := List.getElem?_eq_some_iff.1 hc
    exact List.drop_eq_getElem_cons hat
  rw [hdr, cutL, ← hdr] at hcu
  have hlb := hb.drop at_
  have hll : (l.drop at_).length = l.length - at_ := List.length_drop
  have hlne : l.drop at_ ≠ [] := by rw [hdr]; simp
  have hex := ex_drop l at_
  refine aw_seq ?_
  refine aw_seq ?_
  (refine aw_ops (by kernel_rfl) (fun K hK => ?_); simp (disch := first | omega | (simp only [List.length_set, List.length_append, List.length_cons, List.length_nil, iv_length, zl_length]; try omega; done)) [-getElem?_pos, -getElem?_neg, h0, h6, hsz, hgb]; refine hK _ _ ?_; clear hK K)
  refine aw_block ?_
  refine aw_seq ?_
  refine aw_cut (fun α G' => G' = G ∧ α 0 = .string (strOfNums l) ∧ α 5 = w ∧ α 6 = .int .i64 (at_ : Nat) ∧ α 19 = .int .u8 c ∧ α 20 = .bool (decide (c = 32 ∨ c = 9 ∨ c = 10))) ?_ ?_
  · refine aw_seq ?_
    (refine aw_ops (by kernel_rfl) (fun K hK => ?_); simp (disch := first | omega | (simp only [List.length_set, List.length_append, List.length_cons, List.length_nil, iv_length, zl_length]; try omega; done)) [-getElem?_pos, -getElem?_neg]; refine hK _ _ ?_; clear hK K)
    by_cases h1 : c = 32
    · refine aw_t (by (first | (simp [eval_tmp, put_at, h1]; done) | (simp [eval_tmp, put_at, h1]; omega))) (by kernel_rfl) ?_
      refine aw_skip ?_
      exact ⟨rfl, by (first | (simp [put_at, put_none, fr0_at, h0]; done) | rfl), by (first | (simp [put_at, put_none, fr0_at, h5]; done) | rfl), by (first | (simp [put_at, put_none, fr0_at, h6]; done) | rfl), by (first | (simp [put_at, put_none, fr0_at]; done) | rfl), by simp [put_at, h1]⟩
    · refine aw_f (by (first | (simp [eval_tmp, put_at, h1]; done) | (simp [eval_tmp, put_at, h1]; omega))) (by kernel_rfl) ?_
      refine aw_seq ?_
      (refine aw_ops (by kernel_rfl) (fun K hK => ?_); simp (disch := first | omega | (simp only [List.length_set, List.length_append, List.length_cons, List.length_nil, iv_length, zl_length]; try omega; done)) [-getElem?_pos, -getElem?_neg]; refine hK _ _ ?_; clear hK K)
      by_cases h2 : c = 9
      · refine aw_t (by (first | (simp [eval_tmp, put_at, h2]; done) | (simp [eval_tmp, put_at, h2]; omega))) (by kernel_rfl) ?_
        refine aw_skip ?_
        exact ⟨rfl, by (first | (simp [put_at, put_none, fr0_at, h0]; done) | rfl), by (first | (simp [put_at, put_none, fr0_at, h5]; done) | rfl), by (first | (simp [put_at, put_none, fr0_at, h6]; done) | rfl), by (first | (simp [put_at, put_none, fr0_at]; done) | rfl), by simp [put_at, h2]⟩
      · refine aw_f (by (first | (simp [eval_tmp, put_at, h2]; done) | (simp [eval_tmp, put_at, h2]; omega))) (by kernel_rfl) ?_
        (refine aw_ops (by kernel_rfl) (fun K hK => ?_); simp (disch := first | omega | (simp only [List.length_set, List.length_append, List.length_cons, List.length_nil, iv_length, zl_length]; try omega; done)) [-getElem?_pos, -getElem?_neg]; refine hK _ _ ?_; clear hK K)
        exact ⟨rfl, by (first | (simp [put_at, put_none, fr0_at, h0]; done) | rfl), by (first | (simp [put_at, put_none, fr0_at, h5]; done) | rfl), by (first | (simp [put_at, put_none, fr0_at, h6]; done) | rfl), by (first | (simp [put_at, put_none, fr0_at]; done) | rfl), by simp [put_at, h1, h2]; rw [Bool.eq_iff_iff]; simp⟩
  clear h0 h5 h6
  rintro α G' ⟨rfl, h0, h5, h6, h19, h20⟩
  by_cases h1 : c = 32 ∨ c = 9 ∨ c = 10
  · rw [if_pos h1] at hcu
    refine aw_t (by (first | (simp [eval_tmp, put_at, h20, h1]; done) | (simp [eval_tmp, put_at, h20, h1]; omega))) (by kernel_rfl) ?_
    refine aw_seq ?_
    (refine aw_ops (by kernel_rfl) (fun K hK => ?_); simp (disch := first | omega | (simp only [List.length_set, List.length_append, List.length_cons, List.length_nil, iv_length, zl_length]; try omega; done)) [-getElem?_pos, -getElem?_neg, h6]; refine hK _ _ ?_; clear hK K)
    refine aw_exit ?_
    exact ⟨q, by omega, at_ + 1, ts, w, F, by omega, by omega, by omega, by (first | (simp [put_at, put_none, fr0_at, h0]; done) | rfl), by (first | (simp [put_at, put_none, fr0_at, h5]; done) | rfl), by (first | (simp [put_at, put_none, fr0_at]; done) | rfl), ho, hF, sG, hcu⟩
  rw [if_neg h1] at hcu
  refine aw_f (by (first | (simp [eval_tmp, put_at, h20, h1]; done) | (simp [eval_tmp, put_at, h20, h1]; omega))) (by kernel_rfl) ?_
  refine aw_seq ?_
  (refine aw_ops (by kernel_rfl) (fun K hK => ?_); simp (disch := first | omega | (simp only [List.length_set, List.length_append, List.length_cons, List.length_nil, iv_length, zl_length]; try omega; done)) [-getElem?_pos, -getElem?_neg, h19]; refine hK _ _ ?_; clear hK K)
  by_cases h2 : c = 35
  · rw [if_pos h2] at hcu
    refine aw_t (by (first | (simp [eval_tmp, put_at, h2]; done) | (simp [eval_tmp, put_at, h2]; omega))) (by kernel_rfl) ?_
    have hru := run_vc (F := 10) (f := notNl) (l := l.drop at_) (by kernel_rfl) (fun c hc => nl_vc hc) hlb (by omega)
    have hrl := runL_le notNl (l.drop at_)
    have hr1 : 1 ≤ runL notNl (l.drop at_) := by rw [hdr, runL_cons_t (by rw [h2]; rfl)]; omega
    generalize runL notNl (l.drop at_) = n at hru hrl hr1 hcu
    refine aw_seq ?_
    refine aw_ops (by kernel_rfl) (fun K hK => ?_)
    simp (disch := first | omega | (simp only [List.length_set, List.length_append, List.length_cons, List.length_nil, iv_length, zl_length]; try omega; done)) [-getElem?_pos, -getElem?_neg, h0, h6, hsz, hex]
    refine ⟨by kernel_rfl, ac_of_vc (by simp [pv_fn, pv_string, pv_int, eval_fn]) hru ?_⟩
    try simp (disch := first | omega | (simp only [List.length_set, List.length_append, List.length_cons, List.length_nil, iv_length, zl_length]; try omega; done)) [-getElem?_pos, -getElem?_neg]
    refine hK _ _ ?_; clear hK K
    refine aw_exit ?_
    refine ⟨q, by omega, at_ + n, ts, w, F, by omega, by omega, by omega, by (first | (simp [put_at, put_none, fr0_at, h0]; done) | rfl), by (first | (simp [put_at, put_none, fr0_at, h5]; done) | rfl), by (first | (simp [put_at, put_none, fr0_at]; done) | rfl), ho, hF, sG, ?_⟩
    rw [← List.drop_drop, ← hcu]
  rw [if_neg h2] at hcu
  refine aw_f (by (first | (simp [eval_tmp, put_at, h2]; done) | (simp [eval_tmp, put_at, h2]; omega))) (by kernel_rfl) ?_
  refine aw_skip ?_
  have hfv := first_vc hlb (by omega) hlne
  have hfo := firstL_ok hlb hlne
  generalize firstL (l.drop at_) = r at hfv hfo hcu
  obtain ⟨t, n, e⟩ := r
  simp only at hfo hcu
  refine aw_seq ?_
  refine aw_ops (by kernel_rfl) (fun K hK => ?_)
  simp (disch := first | omega | (simp only [List.length_set, List.length_append, List.length_cons, List.length_nil, iv_length, zl_length]; try omega; done)) [-getElem?_pos, -getElem?_neg, h0, h6, hsz, hex]
  refine ⟨by kernel_rfl, ac_of_vc (by simp [pv_string, pv_tr]) hfv ?_⟩
  try simp (disch := first | omega | (simp only [List.length_set, List.length_append, List.length_cons, List.length_nil, iv_length, zl_length]; try omega; done)) [-getElem?_pos, -getElem?_neg, TR.val, Tk.val, hnG]
  refine hK _ _ ?_; clear hK K
  refine aw_seq ?_
  refine aw_seq ?_
  (refine aw_ops (by kernel_rfl) (fun K hK => ?_); simp (disch := first | omega | (simp only [List.length_set, List.length_append, List.length_cons, List.length_nil, iv_length, zl_length]; try omega; done)) [-getElem?_pos, -getElem?_neg]; refine hK _ _ ?_; clear hK K)
  by_cases he : e = 0
  case neg =>
    rw [if_pos he] at hcu
    clear hR2 hR
    subst hcu
    refine aw_t (by (first | (simp [eval_tmp, put_at, he]; done) | (simp [eval_tmp, put_at, he]; omega))) (by kernel_rfl) ?_
    refine aw_seq ?_
    (refine aw_ops (by kernel_rfl) (fun K hK => ?_); simp (disch := first | omega | (simp only [List.length_set, List.length_append, List.length_cons, List.length_nil, iv_length, zl_length]; try omega; done)) [-getElem?_pos, -getElem?_neg, h6]; refine hK _ _ ?_; clear hK K)
    (refine aw_ret ?_; simp (disch := first | omega | (simp only [List.length_set, List.length_append, List.length_cons, List.length_nil, iv_length, zl_length]; try omega; done)) [-getElem?_pos, -getElem?_neg, thenQ_ret, scopeQ_ret, inBlockQ_ret, RQ, resL, resV])
    exact ⟨[], .inl ⟨rfl, rfl, rfl⟩, by simp, sG.trans (.app _ _)⟩
  rw [if_neg (by simpa using he)] at hcu
  obtain ⟨hn1, hn2, htb⟩ := hfo he
  refine aw_f (by (first | (simp [eval_tmp, put_at, he]; done) | (simp [eval_tmp, put_at, he]; omega))) (by kernel_rfl) ?_
  refine aw_skip ?_
  refine aw_seq ?_
  (refine aw_ops (by kernel_rfl) (fun K hK => ?_); simp (disch := first | omega | (simp only [List.length_set, List.length_append, List.length_cons, List.length_nil, iv_length, zl_length]; try omega; done)) [-getElem?_pos, -getElem?_neg, h6]; refine hK _ _ ?_; clear hK K)
  obtain ⟨m, hm⟩ : ∃ m, m = G'.length := ⟨_, rfl⟩
  have hG1 : hget (G' ++ [some ⟨[.int .i64 t.kind, .int .i64 at_, .int .i64 t.n, .string (strOfNums t.tx)], 29, none⟩]) m = some ⟨[.int .i64 t.kind, .int .i64 at_, .int .i64 t.n, .string (strOfNums t.tx)], 29, none⟩ := by rw [hm, hget_app0]; rfl
  have ho1 := ho.low (H' := G' ++ [some ⟨[.int .i64 t.kind, .int .i64 at_, .int .i64 t.n, .string (strOfNums t.tx)], 29, none⟩]) (fun j hj => hget_left (ho.lt j hj))
  have s1 : Same0 H (G' ++ [some ⟨[.int .i64 t.kind, .int .i64 at_, .int .i64 t.n, .string (strOfNums t.tx)], 29, none⟩]) := sG.trans (.app _ _)
  rw [← hm]
  generalize G' ++ [some ⟨[.int .i64 t.kind, .int .i64 at_, .int .i64 t.n, .string (strOfNums t.tx)], 29, none⟩] = G1 at hG1 ho1 s1 ⊢
  clear hm
  obtain ⟨w', H', hap, hnw', hcw', ho', hlen', hk'⟩ := tok_append (nro := nro) t at_ ho1 (fun j hj => Nat.le_trans hnl (hF j hj)) (by omega)
  simp only [Tk.cells] at hap
  have hfil : xfill (fun i => some (i * 4, 4)) (List.map (fun j => [Value.int IntKind.i64 0, Value.int IntKind.i64 0, Value.int IntKind.i64 0, Value.string ByteArray.empty][j % 4]?.getD undef) (List.range 4)) [(0, .agg #[.int .i64 t.kind, .int .i64 at_, .int .i64 t.n, .string (strOfNums t.tx)])] = some [.int .i64 t.kind, .int .i64 at_, .int .i64 t.n, .string (strOfNums t.tx)] := fill_agg (us := [.int .i64 t.kind, .int .i64 at_, .int .i64 t.n, .string (strOfNums t.tx)]) rfl rfl rfl
  refine aw_seq ?_
  (refine aw_ops (by kernel_rfl) (fun K hK => ?_); simp (disch := first | omega | (simp only [List.length_set, List.length_append, List.length_cons, List.length_nil, iv_length, zl_length]; try omega; done)) [-getElem?_pos, -getElem?_neg, h5, hnt, hnw', -notTuple, nt_int, nt_sl, nt_agg, hG1, -xfill, hfil, -xappend, hap]; refine hK _ _ ?_; clear hK K)
  (refine aw_ops (by kernel_rfl) (fun K hK => ?_); simp (disch := first | omega | (simp only [List.length_set, List.length_append, List.length_cons, List.length_nil, iv_length, zl_length]; try omega; done)) [-getElem?_pos, -getElem?_neg, h6]; refine hK _ _ ?_; clear hK K)
  refine ⟨q, by omega, at_ + n, ts ++ [(t, at_)], w', _, by omega, by omega, by simp; omega, by (first | (simp [put_at, put_none, fr0_at, h0]; done) | rfl), by (first | (simp [put_at, put_none, fr0_at]; done) | rfl), by (first | (simp [put_at, put_none, fr0_at]; done) | rfl), ho', by simp; have := s1.1; omega, ⟨by have := s1.1; omega, fun j hj => (hk' j (by have := s1.1; omega) (fun hm => by have := hF j hm; omega)).trans (s1.2 j hj)⟩, ?_⟩
  rw [← List.drop_drop, ← hcu]
end Go.Proofs.Ytcdkpeepboofhaa
