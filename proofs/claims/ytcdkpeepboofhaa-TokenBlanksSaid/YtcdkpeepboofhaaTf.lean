/-
  The reference's sameness of tokens, and a token as text, walked.
-/
import Derived.Test.YtcdkpeepboofhaaTe
namespace Go.Proofs.Ytcdkpeepboofhaa
open Go Go.RowKit
set_option linter.unusedVariables false
set_option linter.unusedSimpArgs false
set_option maxRecDepth 100000
set_option maxHeartbeats 4000000
theorem toksC_at : ∀ {ts : List (Tk × Nat)} {i : Nat} {t : Tk} {a : Nat}, ts[i]? = some (t, a) → ∀ c, c < 4 → (toksC ts)[i * 4 + c]? = (t.cells a)[c]?
  | p :: ts, 0, t, a, h, c, hc => by
    cases h
    have : toksC ((t, a) :: ts) = t.cells a ++ toksC ts := rfl
    rw [this, Nat.zero_mul, Nat.zero_add, List.getElem?_append_left (by simp [Tk.cells]; omega)]
  | p :: ts, i + 1, t, a, h, c, hc => by
    have h' : ts[i]? = some (t, a) := by simpa using h
    have := toksC_at h' c hc
    have e : toksC (p :: ts) = p.1.cells p.2 ++ toksC ts := rfl
    have hl : (p.1.cells p.2).length = 4 := rfl
    rw [e, List.getElem?_append_right (by omega), hl, ← this]
    congr 1
    omega
  | [], i, t, a, h, c, hc => by simp at h
attribute [local simp] wb_bool wb_undef XL_nil XL_cons XLc_val XLc_call step1_eq stepW_t stepW_f stepC_n stepC_s stepX_s stepX_n stepN_s calleeX oneV xop_eq xopR_s xopR_n wantedA_eq wantedG_n wantedG_s plain1_int plain1_bool plain1_string bits_i64 bits_u64 bits_u32 bits_u16 bits_u8 xeqA xagg xcmp xarr allK_iv num_iv calleeOf xread xeff xbin xint xnil xun xstr xload xconv xpart xfield xfieldAddr xindexAddr xindex bnd asInt? xslice xlen xmin xmax xbuild xfill xappend xapp2 xappstr xappmk xcap xcopy xcells eval_tmp eval_const put_at put_none fr0_at cells_agg cells_int cells_bool cells_string cells_ptr cells_slice notTuple tab iv_all hget_app hget_app0 hget_cons0 hget_cons set_app set_app0 setR setR_one QL_nil QL_cons QLc_val stepQ_t stepQ_f stepQC_n stepQC_s stepQX_s SL_nil SL_cons SLc_val stepS_t stepS_f ltT ltF leT leF eqT eqF ltTn ltFn leTn leFn eqTn eqFn beqT beqF bneT bneF wi64 wu64 wu32 wu16 wu8 tmodP tdivP hgetL hgetNe hgetEq setL nums_def nums_len Nat.succ_le_of_lt List.getElem?_cons_zero List.getElem?_cons_succ Option.getD_some Int.toNat_add Int.toNat_mul agB agI agS agP agL agA okB okI okS okP okSl okA
theorem own_tok {H : AH} {w : Value} {ts : List (Tk × Nat)} {F : List Nat} (h : OwnF H w 29 4 (toksC ts) F) {i : Nat} {t : Tk} {a : Nat} (hi : ts[i]? = some (t, a)) :
    ∃ j o, j ∈ F ∧ xindexAddr Try.prog 24 w (.int .i64 (i : Nat)) = some (.pointer (some ⟨j, o, none⟩)) ∧ xload Try.prog 3 (.pointer (some ⟨j, o, none⟩)) H = some (.int .i64 t.kind) ∧ xload Try.prog 3 (.pointer (some ⟨j, o + 1, none⟩)) H = some (.int .i64 (a : Nat)) ∧
      xload Try.prog 3 (.pointer (some ⟨j, o + 2, none⟩)) H = some (.int .i64 t.n) ∧ xload Try.prog 9 (.pointer (some ⟨j, o + 3, none⟩)) H = some (.string (strOfNums t.tx)) ∧
      xload Try.prog 29 (.pointer (some ⟨j, o, none⟩)) H = some (t.val a) := by
  have hil := (List.getElem?_eq_some_iff.1 hi).1
  have hlen := toksC_len ts
  rcases h with ⟨_, h0, _⟩ | ⟨j, len, rfl, hg, hl, rfl⟩
  · rw [h0] at hlen; simp at hlen; omega
  · obtain rfl : len = ts.length := by omega
    have g : ∀ c, c < 4 → (toksC ts)[i * 4 + c]? = (t.cells a)[c]? := fun c hc => toksC_at hi c hc
    have g0 : (toksC ts)[i * 4]? = some (.int .i64 t.kind) := g 0 (by omega)
    have g1 : (toksC ts)[i * 4 + 1]? = some (.int .i64 (a : Nat)) := g 1 (by omega)
    have g2 : (toksC ts)[i * 4 + 2]? = some (.int .i64 t.n) := g 2 (by omega)
    have g3 : (toksC ts)[i * 4 + 3]? = some (.string (strOfNums t.tx)) := g 3 (by omega)
    refine ⟨j, i * 4, by simp, ?_, ?_, ?_, ?_, ?_, ?_⟩
    · simp [xindexAddr, hil]
    · simp [xload, hg, g0]
    · simp [xload, hg, g1]
    · simp [xload, hg, g2]
    · simp [xload, hg, g3]
    · have hcs : ((toksC ts).drop (i * 4)).take 4 = t.cells a := by
        apply List.ext_getElem?
        intro c
        rcases Nat.lt_or_ge c 4 with hc | hc
        · rw [List.getElem?_take_of_lt hc, List.getElem?_drop, g c hc]
        · rw [List.getElem?_eq_none (by rw [List.length_take]; omega), List.getElem?_eq_none (by simp [Tk.cells]; omega)]
      have : i * 4 + 4 ≤ (toksC ts).length := by omega
      simp [xload, hg, hcs, this, Tk.cells, Tk.val]
theorem same_ac {H : AH} {γ : Nat → Option Nat} {nro : Nat} {ts us : List (Tk × Nat)} {a b : Value} {F F' : List Nat} (ha : OwnF H a 29 4 (toksC ts) F) (hb : OwnF H b 29 4 (toksC us) F') (he : ts.map (·.1) = us.map (·.1)) (hl : ts.length ≤ 1000000) :
    AC Try.prog nro γ 7 #[a, b, .bool false] H (fun v' H' => v' = .bool true ∧ H' = H) := by
  have hna := (own_shape ha).1
  have hnb := (own_shape hb).1
  have hlen : ts.length = us.length := by have := congrArg List.length he; simpa using this
  have hxa := ha.len (P := Try.prog) (t := 24) (by simp) (toksC_len ts) (by omega)
  have hxb := hb.len (P := Try.prog) (t := 24) (by simp) (toksC_len us) (by omega)
  rw [← hlen] at hxb
  refine ac_of_aw Try.func7 rfl Try.ntmps7 Try.results7 (by simp) ?_
  refine aw_seq ?_
  (refine aw_ops (by kernel_rfl) (fun K hK => ?_); simp (disch := first | omega | (simp only [List.length_set, List.length_append, List.length_cons, List.length_nil, iv_length, zl_length]; try omega; done)) [-getElem?_pos, -getElem?_neg]; refine hK _ _ ?_; clear hK K)
  refine aw_seq ?_
  refine aw_seq ?_
  (refine aw_ops (by kernel_rfl) (fun K hK => ?_); simp (disch := first | omega | (simp only [List.length_set, List.length_append, List.length_cons, List.length_nil, iv_length, zl_length]; try omega; done)) [-getElem?_pos, -getElem?_neg, -xlen, hxa, hxb]; refine hK _ _ ?_; clear hK K)
  refine aw_f (by (first | (simp [eval_tmp, put_at]; done) | (simp [eval_tmp, put_at]; omega))) (by kernel_rfl) ?_
  refine aw_skip ?_
  refine aw_seq ?_
  refine aw_seq ?_
  (refine aw_ops (by kernel_rfl) (fun K hK => ?_); simp (disch := first | omega | (simp only [List.length_set, List.length_append, List.length_cons, List.length_nil, iv_length, zl_length]; try omega; done)) [-getElem?_pos, -getElem?_neg]; refine hK _ _ ?_; clear hK K)
  refine aw_block ?_
  refine aw_loop (fun q α G => G = H ∧ ∃ i : Nat, i + q = ts.length ∧ α 7 = .int .i64 (i : Nat) ∧ α 0 = a ∧ α 1 = b ∧ α 2 = .bool false) ts.length ?_ ?_
  · exact ⟨rfl, 0, by omega, by (first | (simp [put_at, put_none, fr0_at]; done) | rfl), by (first | (simp [put_at, put_none, fr0_at]; done) | rfl), by (first | (simp [put_at, put_none, fr0_at]; done) | rfl), by (first | (simp [put_at, put_none, fr0_at]; done) | rfl)⟩
  rintro q α G ⟨rfl, i, hiq, h7, h0, h1, h2⟩
  refine aw_seq ?_
  refine aw_seq ?_
  (refine aw_ops (by kernel_rfl) (fun K hK => ?_); simp (disch := first | omega | (simp only [List.length_set, List.length_append, List.length_cons, List.length_nil, iv_length, zl_length]; try omega; done)) [-getElem?_pos, -getElem?_neg, h7, h0, -xlen, hxa]; refine hK _ _ ?_; clear hK K)
  by_cases hi : i < ts.length
  case neg =>
    refine aw_f (by (first | (simp [eval_tmp, put_at, hi]; done) | (simp [eval_tmp, put_at, hi]; omega))) (by kernel_rfl) ?_
    refine aw_exit ?_
    refine aw_seq ?_
    (refine aw_ops (by kernel_rfl) (fun K hK => ?_); simp (disch := first | omega | (simp only [List.length_set, List.length_append, List.length_cons, List.length_nil, iv_length, zl_length]; try omega; done)) [-getElem?_pos, -getElem?_neg]; refine hK _ _ ?_; clear hK K)
    (refine aw_ret ?_; simp (disch := first | omega | (simp only [List.length_set, List.length_append, List.length_cons, List.length_nil, iv_length, zl_length]; try omega; done)) [-getElem?_pos, -getElem?_neg, thenQ_ret, scopeQ_ret, inBlockQ_ret, RQ, resL, resV])
  refine aw_t (by (first | (simp [eval_tmp, put_at, hi]; done) | (simp [eval_tmp, put_at, hi]; omega))) (by kernel_rfl) ?_
  refine aw_skip ?_
  refine aw_seq ?_
  refine aw_block ?_
  refine aw_seq ?_
  obtain ⟨t, x, hti⟩ : ∃ t x, ts[i]? = some (t, x) := ⟨ts[i].1, ts[i].2, by rw [List.getElem?_eq_getElem hi]⟩
  obtain ⟨u, y, hui⟩ : ∃ u y, us[i]? = some (u, y) := ⟨us[i].1, us[i].2, by rw [List.getElem?_eq_getElem (by omega)]⟩
  have hut : t = u := by
    have h1 : (ts.map (·.1))[i]? = some t := by rw [List.getElem?_map, hti]; rfl
    have h2 : (us.map (·.1))[i]? = some u := by rw [List.getElem?_map, hui]; rfl
    rw [he, h2] at h1
    exact (Option.some.inj h1).symm
  subst hut
  obtain ⟨j, o, _, hpx, a0, a1, a2, a3, _⟩ := own_tok ha hti
  obtain ⟨k, o', _, hpy, b0, b1, b2, b3, _⟩ := own_tok hb hui
  (refine aw_quiet (by kernel_rfl) (by kernel_rfl) (by kernel_rfl) (fun K hK => ?_); simp (disch := first | omega | (simp only [List.length_set, List.length_append, List.length_cons, List.length_nil, iv_length, zl_length]; try omega; done)) [-getElem?_pos, -getElem?_neg, h0, h1, h2, h7, -xindexAddr, hpx, hpy, -xload, a0, a2, a3, b0, b2, b3]; refine hK _ ?_; clear hK K)
  refine aw_f (by (first | (simp [eval_tmp, put_at]; done) | (simp [eval_tmp, put_at]; omega))) (by kernel_rfl) ?_
  refine aw_skip ?_
  (refine aw_ops (by kernel_rfl) (fun K hK => ?_); simp (disch := first | omega | (simp only [List.length_set, List.length_append, List.length_cons, List.length_nil, iv_length, zl_length]; try omega; done)) [-getElem?_pos, -getElem?_neg, h7]; refine hK _ _ ?_; clear hK K)
  exact ⟨q - 1, by omega, rfl, i + 1, by omega, by (first | (simp [put_at, put_none, fr0_at]; done) | rfl), by (first | (simp [put_at, put_none, fr0_at, h0]; done) | rfl), by (first | (simp [put_at, put_none, fr0_at, h1]; done) | rfl), by (first | (simp [put_at, put_none, fr0_at, h2]; done) | rfl)⟩
end Go.Proofs.Ytcdkpeepboofhaa
