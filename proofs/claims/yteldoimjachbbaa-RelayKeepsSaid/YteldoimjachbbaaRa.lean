/-
  slices.Concat, slices.Clone, at slices of texts.
-/
import Derived.Test.YteldoimjachbbaaXsl
import Derived.Test.YteldoimjachbbaaXcl
import Derived.Test.YteldoimjachbbaaTab
import Derived.Test.YteldoimjachbbaaXd
namespace Go.Proofs.Yteldoimjachbbaa
open Go Go.RowKit
set_option linter.unusedVariables false
set_option linter.unusedSimpArgs false
set_option maxRecDepth 100000
set_option maxHeartbeats 4000000

/-- A list's own slice: nil, or the whole of a block above lo. -/
def OwnL (lo : Nat) (H : AH) (v : Value) (cells : List Value) : Prop :=
  (v = .slice none 0 0 ∧ cells = []) ∨ ∃ j cs, lo ≤ j ∧ v = .slice (some ⟨j, 0, none⟩) cells.length cells.length ∧ hget H j = some ⟨cs, 9, some 1⟩ ∧ cells <+: cs
theorem OwnL.low {lo : Nat} {H H' : AH} {v : Value} {cells : List Value} (h : OwnL lo H v cells) (hl : ∀ j, lo ≤ j → j < H.length → hget H' j = hget H j) : OwnL lo H' v cells := by
  rcases h with h | ⟨j, cs, h1, h2, h3, h4⟩
  · exact .inl h
  · exact .inr ⟨j, cs, h1, h2, by rw [hl j h1 (hget_lt h3)]; exact h3, h4⟩
theorem OwnL.nt {lo : Nat} {H : AH} {v : Value} {cells : List Value} (h : OwnL lo H v cells) : notTuple v = true := by
  rcases h with ⟨rfl, _⟩ | ⟨j, cs, _, rfl, _⟩ <;> rfl
theorem ownL_append {P : Program} {nro lo : Nat} {t : TypeId} {H : AH} {v x : Value} {cells news : List Value} (hu : und P t = .slice 9) (hs : szt P 9 = 1) (hz : (zer P 9).map (·.cells.size) = some 1) (hby : byt P 9 = 16)
    (hv : OwnL lo H v cells) (hnro : nro ≤ lo) (hlo : lo ≤ H.length) (hstr : ∀ s, x ≠ .string s) (hx : xcells 1 x H = some news) (hb : cells.length + news.length ≤ 1000000) :
    ∃ v' H', xappend P nro t v x H = some (v', H') ∧ OwnL lo H' v' (cells ++ news) ∧ H.length ≤ H'.length ∧ (∀ j, j < lo → hget H' j = hget H j) ∧ ((v = .slice none 0 0 ∧ news = [] ∧ v' = .slice none 0 0) ∨ (¬ (v = .slice none 0 0 ∧ news = []) ∧ v' = .slice (some ⟨H.length, 0, none⟩) (cells.length + news.length) (cells.length + news.length) ∧ H'.length = H.length + 1)) := by
  rcases hv with ⟨rfl, rfl⟩ | ⟨j, cs, h1, rfl, h3, h4⟩
  · by_cases hn : news = []
    · subst hn
      refine ⟨.slice none 0 0, H, ?_, .inl ⟨rfl, rfl⟩, Nat.le_refl _, fun _ _ => rfl, .inl ⟨rfl, rfl, rfl⟩⟩
      unfold xappend
      cases x <;> first | (exact absurd rfl (hstr _)) | (simp only [hu, hs, hx]; rw [if_pos ⟨by omega, hz, by simp, by simp⟩]; first | rw [if_pos rfl] | rw [if_pos trivial])
    · refine ⟨.slice (some ⟨H.length, 0, none⟩) (news.length / 1) (news.length / 1), H ++ [some ⟨news, 9, some 1⟩], ?_, .inr ⟨H.length, _, hlo, by simp, by rw [hget_app0]; rfl, List.prefix_rfl⟩, by simp, fun i hi => hget_left (by omega), .inr ⟨fun h => hn h.2, by simp, by simp⟩⟩
      simp only [List.length_nil, Nat.zero_add] at hb
      unfold xappend
      cases x <;> first | (exact absurd rfl (hstr _)) | (simp only [hu, hs, hx]; rw [if_pos ⟨by omega, hz, by rw [hby]; omega, by simp only [maxLen]; omega⟩, if_neg hn])
  · have hj := hget_lt h3
    have hpl := h4.length_le
    have hpt : cs.take cells.length = cells := by obtain ⟨r, rfl⟩ := h4; simp
    refine ⟨.slice (some ⟨H.length, 0, none⟩) (cells.length + news.length / 1) (cells.length + news.length / 1), H.set j none ++ [some ⟨cells ++ news, 9, some 1⟩], ?_, .inr ⟨H.length, _, hlo, by simp, by rw [hga0]; rfl, List.prefix_rfl⟩, by simp, fun i hi => ?_, .inr ⟨fun h => (by cases h.1), by simp, by simp⟩⟩
    · have hc : True ∧ 0 < 1 ∧ (zer P 9).map (·.cells.size) = some 1 ∧ nro ≤ j ∧ True ∧ True ∧ cells.length * 1 ≤ cs.length ∧ (cells.length * 1 + news.length) * byt P 9 ≤ 140737488355328 ∧ cells.length * 1 + news.length ≤ maxLen :=
        ⟨trivial, by omega, hz, by omega, trivial, trivial, by omega, by rw [hby]; omega, by simp only [maxLen]; omega⟩
      unfold xappend
      cases x <;> first | (exact absurd rfl (hstr _)) | (simp only [hu, hs, hx, h3]; rw [if_pos hc, Nat.mul_one, hpt])
    · rw [hget_left (by simp; omega), hget_set_ne (by omega)]
/-- Parts that are shown, as long as nothing below lo is turned. -/
def Part (H : AH) (lo : Nat) (x : Value) (cells : List Value) : Prop := (∃ a c, x = .slice a cells.length c) ∧ ∀ G : AH, (∀ j, j < lo → hget G j = hget H j) → xcells 1 x G = some cells
theorem OwnL.part {lo : Nat} {H : AH} {v : Value} {cells : List Value} (h : OwnL lo H v cells) : Part H H.length v cells := by
  rcases h with ⟨rfl, rfl⟩ | ⟨j, cs, h1, rfl, h3, h4⟩
  · exact ⟨⟨none, 0, rfl⟩, fun G _ => rfl⟩
  · refine ⟨⟨_, _, rfl⟩, fun G hG => ?_⟩
    have hpl := h4.length_le
    have hpt : cs.take cells.length = cells := by obtain ⟨r, rfl⟩ := h4; simp
    have hg : hget G j = _ := (hG j (hget_lt h3)).trans h3
    simp [xcells, hg, hpl, hpt]
theorem Part.keep {H H' : AH} {lo lo' : Nat} {x : Value} {cells : List Value} (h : Part H lo x cells) (hl : lo ≤ lo') (hg : ∀ j, j < lo → hget H' j = hget H j) : Part H' lo' x cells :=
  ⟨h.1, fun G hG => h.2 G (fun j hj => (hG j (by omega)).trans (hg j hj))⟩
theorem Part.nt {H : AH} {lo : Nat} {x : Value} {cells : List Value} (h : Part H lo x cells) : notTuple x = true := by
  obtain ⟨⟨a, c, rfl⟩, _⟩ := h; rfl
theorem Part.ns {H : AH} {lo : Nat} {x : Value} {cells : List Value} (h : Part H lo x cells) : ∀ s, x ≠ .string s := by
  obtain ⟨⟨a, c, rfl⟩, _⟩ := h
  intro s e; cases e
theorem Part.len {P : Program} {H : AH} {lo : Nat} {x : Value} {cells : List Value} {t e : TypeId} (h : Part H lo x cells) (ht : und P t = .slice e) : xlen P t x = some (.int .i64 cells.length) := by
  obtain ⟨⟨a, c, rfl⟩, _⟩ := h
  simp [xlen, ht]
/-- What Concat answers. -/
def sumL (L : List (List Value)) (i : Nat) : Nat := ((L.take i).map List.length).sum
theorem sumL_next {L : List (List Value)} {i : Nat} {c : List Value} (h : L[i]? = some c) : sumL L (i + 1) = sumL L i + c.length := by
  unfold sumL
  rw [List.take_add_one, h]
  simp
theorem flat_len (L : List (List Value)) (i : Nat) : ((L.take i).flatten).length = sumL L i := by
  unfold sumL
  rw [List.length_flatten]
theorem sumL_mono (L : List (List Value)) {i j : Nat} (h : i ≤ j) : sumL L i ≤ sumL L j := by
  induction j with
  | zero => have : i = 0 := by omega
            subst this; exact Nat.le_refl _
  | succ j ih =>
    rcases Nat.eq_or_lt_of_le h with rfl | h
    · exact Nat.le_refl _
    · have := ih (by omega)
      cases hc : L[j]? with
      | none => unfold sumL at this ⊢; rw [List.take_add_one, hc]; simpa using this
      | some c => rw [sumL_next hc]; omega
theorem zero_strs (n : Nat) : ((List.range n).map fun j => [Value.string ByteArray.empty][j % 1]?.getD undef) = List.replicate n (.string ByteArray.empty) := by
  have e : (fun j : Nat => [Value.string ByteArray.empty][j % 1]?.getD undef) = fun _ => Value.string ByteArray.empty := by
    funext j
    rw [Nat.mod_one]; rfl
  rw [e, List.map_const', List.length_range]
def cV (n : Nat) (L : List (List Value)) : Value := if sumL L L.length = 0 then .slice none 0 0 else .slice (some ⟨n + L.length, 0, none⟩) (sumL L L.length) (sumL L L.length)
attribute [local simp] wb_bool wb_undef XL_nil XL_cons XLc_val XLc_call step1_eq stepW_t stepW_f stepC_n stepC_s stepX_s xop_eq xopR_s xopR_n wantedA_eq wantedG_n wantedG_s plain1_int plain1_bool plain1_string bits_i64 bits_u64 bits_u32 bits_u16 bits_u8 xeqA xarr allK_iv num_iv calleeOf xread xeff xbin xint xnil xun xstr xload xconv xpart xfield xfieldAddr xindexAddr xindex bnd asInt? xslice xlen xmin xmax xbuild xfill xappend xappmk xcap xcopy xcells eval_tmp eval_const put_at put_none fr0_at cells_agg cells_int cells_bool cells_string cells_ptr cells_slice notTuple tab iv_all hget_app hget_app0 hget_cons0 hget_cons set_app set_app0 setR setR_one QL_nil QL_cons QLc_val stepQ_t stepQ_f stepQC_n stepQC_s stepQX_s SL_nil SL_cons SLc_val stepS_t stepS_f ltT ltF leT leF eqT eqF ltTn ltFn leTn leFn eqTn eqFn beqT beqF bneT bneF wi64 wu64 wu32 wu16 wu8 tmodP tdivP hgetL hgetNe hgetEq setL nums_def nums_len Nat.succ_le_of_lt List.getElem?_cons_zero List.getElem?_cons_succ Option.getD_some Int.toNat_add Int.toNat_mul agB agI agS agP agL agA okB okI okS okP okSl okA
section
variable {H : AH} {γ : Nat → Option Nat} {nro : Nat}
theorem grow_ac (n : Nat) (hn : n ≤ 1000000) (hnro : nro ≤ H.length) : AC Try.prog nro γ 25 #[.slice none 0 0, .int .i64 (n : Nat)] H (fun v' H' => OwnL H.length H' v' [] ∧ H.length ≤ H'.length ∧ (∀ j, j < H.length → hget H' j = hget H j) ∧ ((n = 0 ∧ v' = .slice none 0 0) ∨ (0 < n ∧ v' = .slice (some ⟨H.length, 0, none⟩) 0 0 ∧ H'.length = H.length + 1))) := by
  refine ac_of_aw Try.func25 rfl Try.ntmps25 Try.results25 (by simp) ?_
  refine aw_seq ?_
  (refine aw_ops (by kernel_rfl) (fun K hK => ?_); simp (disch := first | omega | (simp only [List.length_set, List.length_append, List.length_cons, List.length_nil, iv_length, zl_length]; try omega; done)) [-getElem?_pos, -getElem?_neg]; refine hK _ _ ?_; clear hK K)
  refine aw_seq ?_
  refine aw_seq ?_
  (refine aw_ops (by kernel_rfl) (fun K hK => ?_); simp (disch := first | omega | (simp only [List.length_set, List.length_append, List.length_cons, List.length_nil, iv_length, zl_length]; try omega; done)) [-getElem?_pos, -getElem?_neg]; refine hK _ _ ?_; clear hK K)
  refine aw_f (by (first | (simp [eval_tmp, put_at]; done) | (simp [eval_tmp, put_at]; omega))) (by kernel_rfl) ?_
  refine aw_skip ?_
  refine aw_seq ?_
  refine aw_seq ?_
  (refine aw_ops (by kernel_rfl) (fun K hK => ?_); simp (disch := first | omega | (simp only [List.length_set, List.length_append, List.length_cons, List.length_nil, iv_length, zl_length]; try omega; done)) [-getElem?_pos, -getElem?_neg]; refine hK _ _ ?_; clear hK K)
  refine aw_seq ?_
  by_cases h0 : 0 < n
  · (refine aw_ops (by kernel_rfl) (fun K hK => ?_); simp (disch := first | omega | (simp only [List.length_set, List.length_append, List.length_cons, List.length_nil, iv_length, zl_length]; try omega; done)) [-getElem?_pos, -getElem?_neg, h0]; refine hK _ _ ?_; clear hK K)
    refine aw_t (by (first | (simp [eval_tmp, put_at, h0]; done) | (simp [eval_tmp, put_at, h0]; omega))) (by kernel_rfl) ?_
    have hm1 : (n : Int) ≤ maxLen := by simp only [maxLen]; omega
    (refine aw_ops (by kernel_rfl) (fun K hK => ?_); simp (disch := first | omega | (simp only [List.length_set, List.length_append, List.length_cons, List.length_nil, iv_length, zl_length]; try omega; done)) [-getElem?_pos, -getElem?_neg, h0, zero_strs, hm1]; refine hK _ _ ?_; clear hK K)
    refine aw_seq ?_
    (refine aw_ops (by kernel_rfl) (fun K hK => ?_); simp (disch := first | omega | (simp only [List.length_set, List.length_append, List.length_cons, List.length_nil, iv_length, zl_length]; try omega; done)) [-getElem?_pos, -getElem?_neg]; refine hK _ _ ?_; clear hK K)
    (refine aw_ret ?_; simp (disch := first | omega | (simp only [List.length_set, List.length_append, List.length_cons, List.length_nil, iv_length, zl_length]; try omega; done)) [-getElem?_pos, -getElem?_neg, thenQ_ret, inBlockQ_ret, RQ, resL, resV])
    refine ⟨.inr ⟨H.length, _, Nat.le_refl _, by simp, by rw [hget_app0]; rfl, List.nil_prefix⟩, fun j hj => hget_left hj⟩
  · obtain rfl : n = 0 := by omega
    (refine aw_ops (by kernel_rfl) (fun K hK => ?_); simp (disch := first | omega | (simp only [List.length_set, List.length_append, List.length_cons, List.length_nil, iv_length, zl_length]; try omega; done)) [-getElem?_pos, -getElem?_neg]; refine hK _ _ ?_; clear hK K)
    refine aw_f (by (first | (simp [eval_tmp, put_at]; done) | (simp [eval_tmp, put_at]; omega))) (by kernel_rfl) ?_
    refine aw_skip ?_
    refine aw_seq ?_
    (refine aw_ops (by kernel_rfl) (fun K hK => ?_); simp (disch := first | omega | (simp only [List.length_set, List.length_append, List.length_cons, List.length_nil, iv_length, zl_length]; try omega; done)) [-getElem?_pos, -getElem?_neg]; refine hK _ _ ?_; clear hK K)
    (refine aw_ret ?_; simp (disch := first | omega | (simp only [List.length_set, List.length_append, List.length_cons, List.length_nil, iv_length, zl_length]; try omega; done)) [-getElem?_pos, -getElem?_neg, thenQ_ret, inBlockQ_ret, RQ, resL, resV])
    exact .inl ⟨rfl, rfl⟩
/-- What Concat makes of its parts. -/
theorem concat_ac {v : Value} {j : Nat} {xs : List Value} {L : List (List Value)} (hj : hget H j = some ⟨xs, 25, some 1⟩) (hxl : xs.length = L.length) (hp : ∀ (i : Nat) (x : Value) (c : List Value), xs[i]? = some x → L[i]? = some c → Part H H.length x c) (hs : sumL L L.length ≤ 1000000) (hl : L.length ≤ 1000) (hnro : nro ≤ H.length) :
    AC Try.prog nro γ 24 #[.slice (some ⟨j, 0, none⟩) L.length L.length] H (fun v' H' => v' = cV H.length L ∧ OwnL H.length H' v' L.flatten ∧ H.length ≤ H'.length ∧ ∀ j, j < H.length → hget H' j = hget H j) := by
  have hjl := hget_lt hj
  refine ac_of_aw Try.func24 rfl Try.ntmps24 Try.results24 (by simp) ?_
  refine aw_seq ?_
  (refine aw_ops (by kernel_rfl) (fun K hK => ?_); simp (disch := first | omega | (simp only [List.length_set, List.length_append, List.length_cons, List.length_nil, iv_length, zl_length]; try omega; done)) [-getElem?_pos, -getElem?_neg]; refine hK _ _ ?_; clear hK K)
  refine aw_seq ?_
  (refine aw_ops (by kernel_rfl) (fun K hK => ?_); simp (disch := first | omega | (simp only [List.length_set, List.length_append, List.length_cons, List.length_nil, iv_length, zl_length]; try omega; done)) [-getElem?_pos, -getElem?_neg]; refine hK _ _ ?_; clear hK K)
  refine aw_seq ?_
  refine aw_seq ?_
  (refine aw_ops (by kernel_rfl) (fun K hK => ?_); simp (disch := first | omega | (simp only [List.length_set, List.length_append, List.length_cons, List.length_nil, iv_length, zl_length]; try omega; done)) [-getElem?_pos, -getElem?_neg]; refine hK _ _ ?_; clear hK K)
  refine aw_block ?_
  refine aw_loop (fun c α G => ∃ i : Nat, i + c = L.length ∧ α 11 = .int .i64 (i : Nat) ∧ α 10 = .int .i64 (L.length : Nat) ∧ α 9 = .slice (some ⟨j, 0, none⟩) L.length L.length ∧ α 0 = .slice (some ⟨j, 0, none⟩) L.length L.length ∧ α 3 = .int .i64 (sumL L i : Nat) ∧ G = H) L.length ?_ ?_
  · exact ⟨0, by omega, by (first | (simp [put_at, put_none, fr0_at]; done) | rfl), by (first | (simp [put_at, put_none, fr0_at]; done) | rfl), by (first | (simp [put_at, put_none, fr0_at]; done) | rfl), by (first | (simp [put_at, put_none, fr0_at]; done) | rfl), by (first | (simp [put_at, put_none, fr0_at]; done) | rfl), rfl⟩
  rintro c α G ⟨i, hic, h11, h10, h9, h0, h3, rfl⟩
  refine aw_seq ?_
  (refine aw_ops (by kernel_rfl) (fun K hK => ?_); simp (disch := first | omega | (simp only [List.length_set, List.length_append, List.length_cons, List.length_nil, iv_length, zl_length]; try omega; done)) [-getElem?_pos, -getElem?_neg, h11, h10]; refine hK _ _ ?_; clear hK K)
  refine aw_seq ?_
  by_cases hi : i < L.length
  · refine aw_t (by (first | (simp [eval_tmp, put_at, hi]; done) | (simp [eval_tmp, put_at, hi]; omega))) (by kernel_rfl) ?_
    obtain ⟨x, hx⟩ : ∃ x, xs[i]? = some x := ⟨_, List.getElem?_eq_getElem (by omega)⟩
    obtain ⟨cc, hcc⟩ : ∃ cc, L[i]? = some cc := ⟨_, List.getElem?_eq_getElem hi⟩
    have hpt := hp i x cc hx hcc
    have hnt := hpt.nt
    have hln := hpt.len (P := Try.prog) (t := 25) (e := 9) (by simp)
    have hsn := sumL_next hcc
    have hsm := sumL_mono L (i := i + 1) (j := L.length) (by omega)
    refine aw_skip ?_
    refine aw_seq ?_
    refine aw_block ?_
    refine aw_seq ?_
    (refine aw_ops (by kernel_rfl) (fun K hK => ?_); simp (disch := first | omega | (simp only [List.length_set, List.length_append, List.length_cons, List.length_nil, iv_length, zl_length]; try omega; done)) [-getElem?_pos, -getElem?_neg, h9, h11, hj, hx]; refine hK _ _ ?_; clear hK K)
    refine aw_seq ?_
    (refine aw_ops (by kernel_rfl) (fun K hK => ?_); simp (disch := first | omega | (simp only [List.length_set, List.length_append, List.length_cons, List.length_nil, iv_length, zl_length]; try omega; done)) [-getElem?_pos, -getElem?_neg, h3, -xlen, hln]; refine hK _ _ ?_; clear hK K)
    refine aw_seq ?_
    (refine aw_ops (by kernel_rfl) (fun K hK => ?_); simp (disch := first | omega | (simp only [List.length_set, List.length_append, List.length_cons, List.length_nil, iv_length, zl_length]; try omega; done)) [-getElem?_pos, -getElem?_neg]; refine hK _ _ ?_; clear hK K)
    refine aw_f (by (first | (simp [eval_tmp, put_at]; done) | (simp [eval_tmp, put_at]; omega))) (by kernel_rfl) ?_
    refine aw_skip ?_
    (refine aw_ops (by kernel_rfl) (fun K hK => ?_); simp (disch := first | omega | (simp only [List.length_set, List.length_append, List.length_cons, List.length_nil, iv_length, zl_length]; try omega; done)) [-getElem?_pos, -getElem?_neg, h11]; refine hK _ _ ?_; clear hK K)
    exact ⟨c - 1, by omega, i + 1, by omega, by (first | (simp [put_at, put_none, fr0_at]; done) | rfl), by (first | (simp [put_at, put_none, fr0_at, h10]; done) | rfl), by (first | (simp [put_at, put_none, fr0_at, h9]; done) | rfl), by (first | (simp [put_at, put_none, fr0_at, h0]; done) | rfl), by simp [put_at, hsn], rfl⟩
  · obtain rfl : i = L.length := by omega
    refine aw_f (by (first | (simp [eval_tmp, put_at]; done) | (simp [eval_tmp, put_at]; omega))) (by kernel_rfl) ?_
    refine aw_exit ?_
    have hgr := grow_ac (H := G) (γ := γ) (nro := nro) (sumL L L.length) hs hnro
    refine aw_seq ?_
    refine aw_ops (by kernel_rfl) (fun K hK => ?_)
    simp (disch := first | omega | (simp only [List.length_set, List.length_append, List.length_cons, List.length_nil, iv_length, zl_length]; try omega; done)) [-getElem?_pos, -getElem?_neg, h3]
    refine ⟨by kernel_rfl, hgr.mono ?_⟩
    rintro v1 G1 ⟨ho1, hl1, hk1, hd1⟩
    have hnt1 := ho1.nt
    try simp (disch := first | omega | (simp only [List.length_set, List.length_append, List.length_cons, List.length_nil, iv_length, zl_length]; try omega; done)) [-getElem?_pos, -getElem?_neg]
    refine hK _ _ ?_; clear hK K
    refine aw_seq ?_
    refine aw_seq ?_
    (refine aw_ops (by kernel_rfl) (fun K hK => ?_); simp (disch := first | omega | (simp only [List.length_set, List.length_append, List.length_cons, List.length_nil, iv_length, zl_length]; try omega; done)) [-getElem?_pos, -getElem?_neg, h0]; refine hK _ _ ?_; clear hK K)
    refine aw_block ?_
    have hj1 : hget G1 j = _ := (hk1 j hjl).trans hj
    refine aw_loop (fun c α G2 => ∃ i : Nat, i + c = L.length ∧ α 27 = .int .i64 (i : Nat) ∧ α 26 = .int .i64 (L.length : Nat) ∧ α 25 = .slice (some ⟨j, 0, none⟩) L.length L.length ∧ OwnL G.length G2 (α 6) (L.take i).flatten ∧ G.length ≤ G2.length ∧ (∀ j, j < G.length → hget G2 j = hget G j) ∧ ((sumL L L.length = 0 ∧ α 6 = .slice none 0 0) ∨ (0 < sumL L L.length ∧ α 6 = .slice (some ⟨G.length + i, 0, none⟩) (sumL L i) (sumL L i) ∧ G2.length = G.length + 1 + i))) L.length ?_ ?_
    · exact ⟨0, by omega, by (first | (simp [put_at, put_none, fr0_at]; done) | rfl), by (first | (simp [put_at, put_none, fr0_at]; done) | rfl), by (first | (simp [put_at, put_none, fr0_at, h0]; done) | rfl), by simp only [put_at]; simpa using ho1, hl1, hk1, by simp only [put_at]; simpa [sumL] using hd1⟩
    clear h11 h10 h9 h0 h3 ho1 hl1 hk1 hj1 hnt1 hgr hd1
    rintro c2 α G2 ⟨i, hic, h27, h26, h25, ho, hl2, hk2, hd2⟩
    have hj2 : hget G2 j = _ := (hk2 j hjl).trans hj
    obtain ⟨v6, h6⟩ : ∃ v6, α 6 = v6 := ⟨_, rfl⟩
    rw [h6] at ho hd2
    have hnt6 := ho.nt
    refine aw_seq ?_
    (refine aw_ops (by kernel_rfl) (fun K hK => ?_); simp (disch := first | omega | (simp only [List.length_set, List.length_append, List.length_cons, List.length_nil, iv_length, zl_length]; try omega; done)) [-getElem?_pos, -getElem?_neg, h27, h26]; refine hK _ _ ?_; clear hK K)
    refine aw_seq ?_
    by_cases hi : i < L.length
    · refine aw_t (by (first | (simp [eval_tmp, put_at, hi]; done) | (simp [eval_tmp, put_at, hi]; omega))) (by kernel_rfl) ?_
      obtain ⟨x, hx⟩ : ∃ x, xs[i]? = some x := ⟨_, List.getElem?_eq_getElem (by omega)⟩
      obtain ⟨cc, hcc⟩ : ∃ cc, L[i]? = some cc := ⟨_, List.getElem?_eq_getElem hi⟩
      have hpt := hp i x cc hx hcc
      have hnt := hpt.nt
      have hfl := flat_len L i
      have hsn := sumL_next hcc
      have hsm := sumL_mono L (i := i + 1) (j := L.length) (by omega)
      obtain ⟨v7, G3, hap, ho3, hl3, hk3, hd3⟩ := ownL_append (P := Try.prog) (nro := nro) (t := 25) (by simp) (by simp) (by simp) (by simp) ho hnro hl2 hpt.ns (hpt.2 G2 hk2) (by omega)
      have hnt7 := ho3.nt
      refine aw_skip ?_
      refine aw_seq ?_
      refine aw_block ?_
      refine aw_seq ?_
      (refine aw_ops (by kernel_rfl) (fun K hK => ?_); simp (disch := first | omega | (simp only [List.length_set, List.length_append, List.length_cons, List.length_nil, iv_length, zl_length]; try omega; done)) [-getElem?_pos, -getElem?_neg, h25, h27, hj2, hx]; refine hK _ _ ?_; clear hK K)
      (refine aw_ops (by kernel_rfl) (fun K hK => ?_); simp (disch := first | omega | (simp only [List.length_set, List.length_append, List.length_cons, List.length_nil, iv_length, zl_length]; try omega; done)) [-getElem?_pos, -getElem?_neg, h6, -xappend, hap]; refine hK _ _ ?_; clear hK K)
      (refine aw_ops (by kernel_rfl) (fun K hK => ?_); simp (disch := first | omega | (simp only [List.length_set, List.length_append, List.length_cons, List.length_nil, iv_length, zl_length]; try omega; done)) [-getElem?_pos, -getElem?_neg, h27]; refine hK _ _ ?_; clear hK K)
      refine ⟨c2 - 1, by omega, i + 1, by omega, by (first | (simp [put_at, put_none, fr0_at]; done) | rfl), by (first | (simp [put_at, put_none, fr0_at, h26]; done) | rfl), by (first | (simp [put_at, put_none, fr0_at, h25]; done) | rfl), ?_, by omega, fun j hj => (hk3 j hj).trans (hk2 j hj), ?_⟩
      · simp only [put_at]
        rw [List.take_add_one, hcc]
        simpa using ho3
      · rw [hfl] at hd3
        rcases hd2 with ⟨hz, hv⟩ | ⟨hz, hv, hg⟩
        · left
          have hc0 : cc = [] := List.eq_nil_of_length_eq_zero (by omega)
          rcases hd3 with ⟨_, _, h⟩ | ⟨h, _⟩
          · exact ⟨hz, by simp [put_at, h]⟩
          · exact absurd ⟨hv, hc0⟩ h
        · right
          rcases hd3 with ⟨h, _, _⟩ | ⟨_, h, h2⟩
          · rw [hv] at h; cases h
          · exact ⟨hz, by simp [put_at, h, hsn, hg, Nat.add_assoc, Nat.add_comm 1], by omega⟩
    · obtain rfl : i = L.length := by omega
      refine aw_f (by (first | (simp [eval_tmp, put_at]; done) | (simp [eval_tmp, put_at]; omega))) (by kernel_rfl) ?_
      refine aw_exit ?_
      refine aw_seq ?_
      (refine aw_ops (by kernel_rfl) (fun K hK => ?_); simp (disch := first | omega | (simp only [List.length_set, List.length_append, List.length_cons, List.length_nil, iv_length, zl_length]; try omega; done)) [-getElem?_pos, -getElem?_neg, h6]; refine hK _ _ ?_; clear hK K)
      (refine aw_ret ?_; simp (disch := first | omega | (simp only [List.length_set, List.length_append, List.length_cons, List.length_nil, iv_length, zl_length]; try omega; done)) [-getElem?_pos, -getElem?_neg, thenQ_ret, inBlockQ_ret, RQ, resL, resV])
      rw [List.take_length] at ho
      refine ⟨?_, ho, hk2⟩
      unfold cV
      rcases hd2 with ⟨hz, hv⟩ | ⟨hz, hv, hg⟩
      · rw [if_pos hz]; exact hv
      · rw [if_neg (by omega)]; exact hv
/-- A copy. -/
theorem clone_fix {v : Value} {cells : List Value} (hv : Part H H.length v cells) (hc : cells.length ≤ 1000000) (hnro : nro ≤ H.length) :
    ∃ v0, AC Try.prog nro γ 21 #[v] H (fun v' H' => v' = v0 ∧ Part H' H'.length v' cells ∧ H.length ≤ H'.length ∧ ∀ j, j < H.length → hget H' j = hget H j) := by
  obtain ⟨⟨a, c, rfl⟩, hx⟩ := hv
  cases a with
  | none =>
    have h0 : cells = [] := by
      have := hx H (fun _ _ => rfl)
      unfold xcells at this
      split at this
      · exact (Option.some.inj this).symm
      · cases this; rfl
      · rename_i e; cases e
      · rename_i e; cases e
      · cases this
    subst h0
    refine ⟨.slice none 0 0, ?_⟩
    refine ac_of_aw Try.func21 rfl Try.ntmps21 Try.results21 (by simp) ?_
    refine aw_seq ?_
    (refine aw_ops (by kernel_rfl) (fun K hK => ?_); simp (disch := first | omega | (simp only [List.length_set, List.length_append, List.length_cons, List.length_nil, iv_length, zl_length]; try omega; done)) [-getElem?_pos, -getElem?_neg]; refine hK _ _ ?_; clear hK K)
    refine aw_seq ?_
    refine aw_seq ?_
    (refine aw_ops (by kernel_rfl) (fun K hK => ?_); simp (disch := first | omega | (simp only [List.length_set, List.length_append, List.length_cons, List.length_nil, iv_length, zl_length]; try omega; done)) [-getElem?_pos, -getElem?_neg]; refine hK _ _ ?_; clear hK K)
    refine aw_t (by (first | (simp [eval_tmp, put_at]; done) | (simp [eval_tmp, put_at]; omega))) (by kernel_rfl) ?_
    refine aw_seq ?_
    (refine aw_ops (by kernel_rfl) (fun K hK => ?_); simp (disch := first | omega | (simp only [List.length_set, List.length_append, List.length_cons, List.length_nil, iv_length, zl_length]; try omega; done)) [-getElem?_pos, -getElem?_neg]; refine hK _ _ ?_; clear hK K)
    (refine aw_ret ?_; simp (disch := first | omega | (simp only [List.length_set, List.length_append, List.length_cons, List.length_nil, iv_length, zl_length]; try omega; done)) [-getElem?_pos, -getElem?_neg, thenQ_ret, inBlockQ_ret, RQ, resL, resV])
    exact ⟨⟨none, 0, rfl⟩, fun G _ => rfl⟩
  | some a =>
    have ho0 : OwnL H.length (H ++ [some ⟨[], 9, some 1⟩]) (.slice (some ⟨H.length, 0, none⟩) 0 0) [] := .inr ⟨H.length, [], Nat.le_refl _, rfl, by rw [hget_app0]; rfl, List.prefix_rfl⟩
    obtain ⟨v7, G3, hap, ho3, hl3, hk3, _⟩ := ownL_append (P := Try.prog) (nro := nro) (t := 25) (x := .slice (some a) cells.length c) (by simp) (by simp) (by simp) (by simp) ho0 hnro (by simp) (fun s e => by cases e) (hx _ (fun j hj => hget_left hj)) (by simpa using hc)
    have hnt7 := ho3.nt
    refine ⟨v7, ?_⟩
    refine ac_of_aw Try.func21 rfl Try.ntmps21 Try.results21 (by simp) ?_
    refine aw_seq ?_
    (refine aw_ops (by kernel_rfl) (fun K hK => ?_); simp (disch := first | omega | (simp only [List.length_set, List.length_append, List.length_cons, List.length_nil, iv_length, zl_length]; try omega; done)) [-getElem?_pos, -getElem?_neg]; refine hK _ _ ?_; clear hK K)
    refine aw_seq ?_
    refine aw_seq ?_
    (refine aw_ops (by kernel_rfl) (fun K hK => ?_); simp (disch := first | omega | (simp only [List.length_set, List.length_append, List.length_cons, List.length_nil, iv_length, zl_length]; try omega; done)) [-getElem?_pos, -getElem?_neg]; refine hK _ _ ?_; clear hK K)
    refine aw_f (by (first | (simp [eval_tmp, put_at]; done) | (simp [eval_tmp, put_at]; omega))) (by kernel_rfl) ?_
    refine aw_skip ?_
    refine aw_seq ?_
    (refine aw_ops (by kernel_rfl) (fun K hK => ?_); simp (disch := first | omega | (simp only [List.length_set, List.length_append, List.length_cons, List.length_nil, iv_length, zl_length]; try omega; done)) [-getElem?_pos, -getElem?_neg, -xappend, hap]; refine hK _ _ ?_; clear hK K)
    (refine aw_ret ?_; simp (disch := first | omega | (simp only [List.length_set, List.length_append, List.length_cons, List.length_nil, iv_length, zl_length]; try omega; done)) [-getElem?_pos, -getElem?_neg, thenQ_ret, inBlockQ_ret, RQ, resL, resV])
    simp only [List.length_append, List.length_cons, List.length_nil] at hl3
    rw [List.nil_append] at ho3
    exact ⟨ho3.part, by omega, fun j hj => (hk3 j hj).trans (hget_left hj)⟩
theorem clone_ac {v : Value} {cells : List Value} (hv : Part H H.length v cells) (hc : cells.length ≤ 1000000) (hnro : nro ≤ H.length) :
    AC Try.prog nro γ 21 #[v] H (fun v' H' => Part H' H'.length v' cells ∧ H.length ≤ H'.length ∧ ∀ j, j < H.length → hget H' j = hget H j) := by
  obtain ⟨v0, h⟩ := clone_fix (γ := γ) hv hc hnro
  exact h.mono fun _ _ h => h.2
end
end Go.Proofs.Yteldoimjachbbaa
