/-
  The reference's Clamped, walked; an argument answered.
  The reference's Tag, walked.
  A tag under way, told; the document's Join.
-/
import Derived.Test.YtjfjakighnibpaaOtB
import Derived.Test.YtjfjakighnibpaaLibC
namespace Go.Proofs.Ytjfjakighnibpaa
section
open Go Go.RowKit
set_option linter.unusedVariables false
set_option linter.unusedSimpArgs false
set_option maxRecDepth 100000
set_option maxHeartbeats 4000000

/-- An argument answered. -/
theorem ac_of_echo {P : Program} {nro : Nat} {γ : Nat → Option Nat} {H : AH} {f : FuncId} {args : Array Value} {i l : Nat} {Q : Value → AH → Prop} (h : AC P H.length γ f args H (fun v' _ => v' = .slice (some ⟨i, 0, none⟩) l l)) (hi : i < H.length) (hq : Q (.slice (some ⟨i, 0, none⟩) l l) H) : AC P nro γ f args H Q := by
  intro m base w args' hR hsz hva
  refine (h m w.heap.size w args' hR.freeze hsz hva).mono ?_
  rintro e w' ⟨m', v1, v', H', rfl, hm, hv', _, hb, rfl⟩
  refine ⟨m, _, v', H, rfl, List.prefix_rfl, ?_, hR.below hb, hb.mono hR.base_le, hq⟩
  obtain ⟨e, c', _, he, hl, hs, rfl⟩ := hv'.sl_
  have him : i < m.length := by rw [hR.len]; exact hi
  have h3 := pre_get hm (List.getElem?_eq_getElem him)
  rw [he] at h3
  cases h3
  exact .one (.sl (List.getElem?_eq_getElem him) hl hs)
theorem digs_plain (l : List Int) : (dB l).cells.all plain1 = true := by unfold dB; exact iv_all _ _
theorem clL_get (k : List Int) {i : Nat} (h : i < 16) : (clL k).getD i 0 = clF i (k.getD i 0) := by simp [clL, h]
attribute [local irreducible] dv clL
attribute [local simp] wb_bool wb_undef XL_nil XL_cons XLc_val XLc_call step1_eq stepW_t stepW_f stepC_n stepC_s stepX_s xop_eq xopR_s xopR_n wantedA_eq wantedG_n wantedG_s plain1_int plain1_bool plain1_string bits_i64 bits_u64 bits_u32 bits_u16 bits_u8 xeqA xarr allK_iv num_iv calleeOf xread xeff xbin xint xnil xun xstr xload xconv xpart xfield xfieldAddr xindexAddr xindex bnd asInt? xslice xlen xmin xmax xbuild xfill xappend xcopy xcells eval_tmp eval_const put_at put_none fr0_at cells_agg cells_int cells_bool cells_string cells_ptr cells_slice notTuple tab iv_all hget_app hget_app0 hget_cons0 hget_cons set_app set_app0 setR setR_one QL_nil QL_cons QLc_val stepQ_t stepQ_f stepQC_n stepQC_s stepQX_s SL_nil SL_cons SLc_val stepS_t stepS_f ltT ltF leT leF eqT eqF ltTn ltFn leTn leFn eqTn eqFn beqT beqF bneT bneF wi64 wu64 wu32 wu16 wu8 tmodP tdivP hgetL hgetNe hgetEq setL nums_def nums_len Nat.succ_le_of_lt List.getElem?_cons_zero List.getElem?_cons_succ Option.getD_some Int.toNat_add Int.toNat_mul agB agI agS agP agL agA okB okI okS okP okSl okA
theorem clamped_rc {H : AH} {γ : Nat → Option Nat} {k : List Int} (hk : By k) (hlk : k.length = 32) : AC Try.prog H.length γ 44 #[.agg (iv .u8 k).toArray] H (Fresh H.length (dB (clL k)) 16) := by
  have hcl := clL_len k
  refine ac_of_aw Try.func44 rfl Try.ntmps44 Try.results44 (by simp) ?_
  refine aw_seq ?_
  (refine aw_ops (by kernel_rfl) (fun K hK => ?_); simp (disch := first | omega | (simp only [List.length_set, List.length_append, List.length_cons, List.length_nil, iv_length, zl_length]; try omega; done)) [-getElem?_pos, -getElem?_neg]; refine hK _ _ ?_; clear hK K)
  refine aw_seq ?_
  (refine aw_ops (by kernel_rfl) (fun K hK => ?_); simp (disch := first | omega | (simp only [List.length_set, List.length_append, List.length_cons, List.length_nil, iv_length, zl_length]; try omega; done)) [-getElem?_pos, -getElem?_neg]; refine hK _ _ ?_; clear hK K)
  refine aw_seq ?_
  refine aw_seq ?_
  (refine aw_ops (by kernel_rfl) (fun K hK => ?_); simp (disch := first | omega | (simp only [List.length_set, List.length_append, List.length_cons, List.length_nil, iv_length, zl_length]; try omega; done)) [-getElem?_pos, -getElem?_neg]; refine hK _ _ ?_; clear hK K)
  refine aw_block ?_
  refine aw_loop (fun q α H' => ∃ (i : Nat) (v : Value), i + q = 16 ∧ α 4 = .int .i64 (i : Nat) ∧ α 1 = .pointer (some ⟨H.length, 0, none⟩) ∧ α 3 = v ∧ OwnC (H.length + 1) H' v 45 1 (iv .u64 ((clL k).take i)) ∧ Low (H.length + 1) (H ++ [some ⟨iv .u8 k, 23, none⟩]) H') 16 ?_ ?_
  · exact ⟨0, _, by omega, by (first | (simp [put_at, put_none, fr0_at]; done) | rfl), by (first | (simp [put_at, put_none, fr0_at]; done) | rfl), by (first | (simp [put_at, put_none, fr0_at]; done) | rfl), .inl ⟨rfl, rfl⟩, Low.refl (by simp)⟩
  rintro q α H' ⟨i, v, hiq, h4, h1, h3, ho, hlow⟩
  have hbx : hget H' H.length = some ⟨iv .u8 k, 23, none⟩ := by rw [hlow.1 _ (by omega), hget_app0]; rfl
  refine aw_seq ?_
  refine aw_seq ?_
  by_cases hi : i < 16
  · have hki : (iv .u8 k)[i]? = some (.int .u8 (k.getD i 0)) := iv_getN _ _ _ (by omega)
    have hd := hk.get i
    have hts : (clL k).take (i + 1) = (clL k).take i ++ [clF i (k.getD i 0)] := by rw [← clL_get k hi, List.take_add_one, List.getElem?_eq_getElem (by omega), List.getD_eq_getElem?_getD, List.getElem?_eq_getElem (by omega)]; rfl
    obtain ⟨v', H2, hap, ho', hlow'⟩ := own_app1 (nro := H.length) (clF i (k.getD i 0)) ho (by have := hlow.2; omega) (by omega) (by simp; omega)
    rw [← hts] at ho'
    generalize k.getD i 0 = d at *
    (refine aw_ops (by kernel_rfl) (fun K hK => ?_); simp (disch := first | omega | (simp only [List.length_set, List.length_append, List.length_cons, List.length_nil, iv_length, zl_length]; try omega; done)) [-getElem?_pos, -getElem?_neg, h4]; refine hK _ _ ?_; clear hK K)
    refine aw_t (by (first | (simp [eval_tmp, put_at, hi]; done) | (simp [eval_tmp, put_at, hi]; omega))) (by kernel_rfl) ?_
    refine aw_skip ?_
    refine aw_seq ?_
    refine aw_block ?_
    refine aw_seq ?_
    (refine aw_ops (by kernel_rfl) (fun K hK => ?_); simp (disch := first | omega | (simp only [List.length_set, List.length_append, List.length_cons, List.length_nil, iv_length, zl_length]; try omega; done)) [-getElem?_pos, -getElem?_neg, h4, h1, hbx, hki]; refine hK _ _ ?_; clear hK K)
    refine aw_seq ?_
    refine aw_seq ?_
    refine aw_cut (fun α' H'' => α' 16 = .bool (decide (i % 4 = 3)) ∧ α' 5 = .int .u64 d ∧ α' 4 = .int .i64 (i : Nat) ∧ α' 1 = .pointer (some ⟨H.length, 0, none⟩) ∧ α' 3 = v ∧ H' = H'') ?_ ?_
    · by_cases c1 : i % 4 = 3
      · (refine aw_ops (by kernel_rfl) (fun K hK => ?_); simp (disch := first | omega | (simp only [List.length_set, List.length_append, List.length_cons, List.length_nil, iv_length, zl_length]; try omega; done)) [-getElem?_pos, -getElem?_neg, h4]; refine hK _ _ ?_; clear hK K)
        exact ⟨by simp [put_at, c1], by (first | (simp [put_at, put_none, fr0_at]; done) | rfl), by (first | (simp [put_at, put_none, fr0_at, h4]; done) | rfl), by (first | (simp [put_at, put_none, fr0_at, h1]; done) | rfl), by (first | (simp [put_at, put_none, fr0_at, h3]; done) | rfl), rfl⟩
      · (refine aw_ops (by kernel_rfl) (fun K hK => ?_); simp (disch := first | omega | (simp only [List.length_set, List.length_append, List.length_cons, List.length_nil, iv_length, zl_length]; try omega; done)) [-getElem?_pos, -getElem?_neg, h4]; refine hK _ _ ?_; clear hK K)
        exact ⟨by simp [put_at, c1], by (first | (simp [put_at, put_none, fr0_at]; done) | rfl), by (first | (simp [put_at, put_none, fr0_at, h4]; done) | rfl), by (first | (simp [put_at, put_none, fr0_at, h1]; done) | rfl), by (first | (simp [put_at, put_none, fr0_at, h3]; done) | rfl), rfl⟩
    clear h4 h1 h3
    rintro α H'' ⟨h16, h5, h4, h1, h3, rfl⟩
    refine aw_cut (fun α' H'' => α' 5 = .int .u64 (if i % 4 = 3 then d % 16 else d) ∧ α' 4 = .int .i64 (i : Nat) ∧ α' 1 = .pointer (some ⟨H.length, 0, none⟩) ∧ α' 3 = v ∧ H' = H'') ?_ ?_
    · by_cases c1 : i % 4 = 3
      · rw [if_pos c1]
        refine aw_t (by (first | (simp [eval_tmp, put_at, h16, c1]; done) | (simp [eval_tmp, put_at, h16, c1]; omega))) (by kernel_rfl) ?_
        (refine aw_ops (by kernel_rfl) (fun K hK => ?_); simp (disch := first | omega | (simp only [List.length_set, List.length_append, List.length_cons, List.length_nil, iv_length, zl_length]; try omega; done)) [-getElem?_pos, -getElem?_neg, h5]; refine hK _ _ ?_; clear hK K)
        exact ⟨by (first | (simp [put_at, put_none, fr0_at]; done) | rfl), by (first | (simp [put_at, put_none, fr0_at, h4]; done) | rfl), by (first | (simp [put_at, put_none, fr0_at, h1]; done) | rfl), by (first | (simp [put_at, put_none, fr0_at, h3]; done) | rfl), rfl⟩
      · rw [if_neg c1]
        refine aw_f (by (first | (simp [eval_tmp, put_at, h16, c1]; done) | (simp [eval_tmp, put_at, h16, c1]; omega))) (by kernel_rfl) ?_
        refine aw_skip ?_
        exact ⟨by (first | (simp [put_at, put_none, fr0_at, h5]; done) | rfl), by (first | (simp [put_at, put_none, fr0_at, h4]; done) | rfl), by (first | (simp [put_at, put_none, fr0_at, h1]; done) | rfl), by (first | (simp [put_at, put_none, fr0_at, h3]; done) | rfl), rfl⟩
    clear h16 h5 h4 h1 h3
    rintro α H'' ⟨h5, h4, h1, h3, rfl⟩
    refine aw_seq ?_
    refine aw_seq ?_
    refine aw_cut (fun α' H'' => α' 28 = .bool (decide (i = 4 ∨ i = 8 ∨ i = 12)) ∧ α' 5 = .int .u64 (if i % 4 = 3 then d % 16 else d) ∧ α' 4 = .int .i64 (i : Nat) ∧ α' 1 = .pointer (some ⟨H.length, 0, none⟩) ∧ α' 3 = v ∧ H' = H'') ?_ ?_
    · by_cases c1 : i = 4
      · (refine aw_ops (by kernel_rfl) (fun K hK => ?_); simp (disch := first | omega | (simp only [List.length_set, List.length_append, List.length_cons, List.length_nil, iv_length, zl_length]; try omega; done)) [-getElem?_pos, -getElem?_neg, h4]; refine hK _ _ ?_; clear hK K)
        exact ⟨by simp [put_at, c1], by (first | (simp [put_at, put_none, fr0_at, h5]; done) | rfl), by (first | (simp [put_at, put_none, fr0_at, h4]; done) | rfl), by (first | (simp [put_at, put_none, fr0_at, h1]; done) | rfl), by (first | (simp [put_at, put_none, fr0_at, h3]; done) | rfl), rfl⟩
      · by_cases c2 : i = 8
        · (refine aw_ops (by kernel_rfl) (fun K hK => ?_); simp (disch := first | omega | (simp only [List.length_set, List.length_append, List.length_cons, List.length_nil, iv_length, zl_length]; try omega; done)) [-getElem?_pos, -getElem?_neg, h4]; refine hK _ _ ?_; clear hK K)
          exact ⟨by simp [put_at, c2], by (first | (simp [put_at, put_none, fr0_at, h5]; done) | rfl), by (first | (simp [put_at, put_none, fr0_at, h4]; done) | rfl), by (first | (simp [put_at, put_none, fr0_at, h1]; done) | rfl), by (first | (simp [put_at, put_none, fr0_at, h3]; done) | rfl), rfl⟩
        · by_cases c3 : i = 12
          · (refine aw_ops (by kernel_rfl) (fun K hK => ?_); simp (disch := first | omega | (simp only [List.length_set, List.length_append, List.length_cons, List.length_nil, iv_length, zl_length]; try omega; done)) [-getElem?_pos, -getElem?_neg, h4]; refine hK _ _ ?_; clear hK K)
            exact ⟨by simp [put_at, c3], by (first | (simp [put_at, put_none, fr0_at, h5]; done) | rfl), by (first | (simp [put_at, put_none, fr0_at, h4]; done) | rfl), by (first | (simp [put_at, put_none, fr0_at, h1]; done) | rfl), by (first | (simp [put_at, put_none, fr0_at, h3]; done) | rfl), rfl⟩
          · (refine aw_ops (by kernel_rfl) (fun K hK => ?_); simp (disch := first | omega | (simp only [List.length_set, List.length_append, List.length_cons, List.length_nil, iv_length, zl_length]; try omega; done)) [-getElem?_pos, -getElem?_neg, h4]; refine hK _ _ ?_; clear hK K)
            exact ⟨by simp [put_at, c1, c2, c3], by (first | (simp [put_at, put_none, fr0_at, h5]; done) | rfl), by (first | (simp [put_at, put_none, fr0_at, h4]; done) | rfl), by (first | (simp [put_at, put_none, fr0_at, h1]; done) | rfl), by (first | (simp [put_at, put_none, fr0_at, h3]; done) | rfl), rfl⟩
    clear h5 h4 h1 h3
    rintro α H'' ⟨h28, h5, h4, h1, h3, rfl⟩
    refine aw_cut (fun α' H'' => α' 5 = .int .u64 (clF i d) ∧ α' 4 = .int .i64 (i : Nat) ∧ α' 1 = .pointer (some ⟨H.length, 0, none⟩) ∧ α' 3 = v ∧ H' = H'') ?_ ?_
    · unfold clF
      by_cases c1 : i = 4 ∨ i = 8 ∨ i = 12
      · rw [if_pos c1]
        rw [if_neg (by omega)] at h5
        refine aw_t (by (first | (simp [eval_tmp, put_at, h28, c1]; done) | (simp [eval_tmp, put_at, h28, c1]; omega))) (by kernel_rfl) ?_
        (refine aw_ops (by kernel_rfl) (fun K hK => ?_); simp (disch := first | omega | (simp only [List.length_set, List.length_append, List.length_cons, List.length_nil, iv_length, zl_length]; try omega; done)) [-getElem?_pos, -getElem?_neg, h5]; refine hK _ _ ?_; clear hK K)
        exact ⟨by (first | (simp [put_at, put_none, fr0_at]; done) | rfl), by (first | (simp [put_at, put_none, fr0_at, h4]; done) | rfl), by (first | (simp [put_at, put_none, fr0_at, h1]; done) | rfl), by (first | (simp [put_at, put_none, fr0_at, h3]; done) | rfl), rfl⟩
      · rw [if_neg c1]
        refine aw_f (by (first | (simp [eval_tmp, put_at, h28, c1]; done) | (simp [eval_tmp, put_at, h28, c1]; omega))) (by kernel_rfl) ?_
        refine aw_skip ?_
        exact ⟨by (first | (simp [put_at, put_none, fr0_at, h5]; done) | rfl), by (first | (simp [put_at, put_none, fr0_at, h4]; done) | rfl), by (first | (simp [put_at, put_none, fr0_at, h1]; done) | rfl), by (first | (simp [put_at, put_none, fr0_at, h3]; done) | rfl), rfl⟩
    clear h28 h5 h4 h1 h3
    rintro α H'' ⟨h5, h4, h1, h3, rfl⟩
    generalize clF i d = x at *
    (refine aw_ops (by kernel_rfl) (fun K hK => ?_); simp (disch := first | omega | (simp only [List.length_set, List.length_append, List.length_cons, List.length_nil, iv_length, zl_length]; try omega; done)) [-getElem?_pos, -getElem?_neg, -xappend, h3, h5, hap]; refine hK _ _ ?_; clear hK K)
    (refine aw_ops (by kernel_rfl) (fun K hK => ?_); simp (disch := first | omega | (simp only [List.length_set, List.length_append, List.length_cons, List.length_nil, iv_length, zl_length]; try omega; done)) [-getElem?_pos, -getElem?_neg, h4]; refine hK _ _ ?_; clear hK K)
    exact ⟨q - 1, by omega, i + 1, v', by omega, by (first | (simp [put_at, put_none, fr0_at]; done) | rfl), by (first | (simp [put_at, put_none, fr0_at, h1]; done) | rfl), by (first | (simp [put_at, put_none, fr0_at]; done) | rfl), ho', hlow.trans hlow'⟩
  · (refine aw_ops (by kernel_rfl) (fun K hK => ?_); simp (disch := first | omega | (simp only [List.length_set, List.length_append, List.length_cons, List.length_nil, iv_length, zl_length]; try omega; done)) [-getElem?_pos, -getElem?_neg, h4]; refine hK _ _ ?_; clear hK K)
    refine aw_f (by (first | (simp [eval_tmp, put_at, hi]; done) | (simp [eval_tmp, put_at, hi]; omega))) (by kernel_rfl) ?_
    obtain rfl : i = 16 := by omega
    refine aw_exit ?_
    rw [List.take_of_length_le (by omega)] at ho
    have hf := ho.fresh (len := 16) (iv_ne (fun e => by rw [e] at hcl; simp at hcl)) (by rw [iv_length, hcl]) (by omega)
    refine aw_seq ?_
    (refine aw_ops (by kernel_rfl) (fun K hK => ?_); simp (disch := first | omega | (simp only [List.length_set, List.length_append, List.length_cons, List.length_nil, iv_length, zl_length]; try omega; done)) [-getElem?_pos, -getElem?_neg, h3]; refine hK _ _ ?_; clear hK K)
    (refine aw_ret ?_; simp (disch := first | omega | (simp only [List.length_set, List.length_append, List.length_cons, List.length_nil, iv_length, zl_length]; try omega; done)) [-getElem?_pos, -getElem?_neg, thenQ_ret, inBlockQ_ret, RQ, resL, resV])
    obtain ⟨j, j1, j2, j3⟩ := hf
    exact ⟨j, by omega, j2, j3⟩
end

section
open Go Go.RowKit
set_option linter.unusedVariables false
set_option linter.unusedSimpArgs false
set_option maxRecDepth 100000
set_option maxHeartbeats 4000000

theorem gb_nums' (s : ByteArray) (i : Nat) : gb s i = (nums s).getD i 0 := by
  unfold gb nums
  rw [List.getD_eq_getElem?_getD, List.getD_eq_getElem?_getD, List.getElem?_map]
  cases s.data.toList[i]? <;> rfl
theorem own_appB {lo nro : Nat} {H : AH} {v : Value} {l : List Int} (x : Int) (ho : OwnC lo H v 5 1 (iv .u8 l)) (hlo : lo ≤ H.length) (hn : nro ≤ lo) (hl : l.length ≤ 2000000) : ∃ v' H', xappend Try.prog nro 38 v (.slice (some ⟨H.length, 0, none⟩) 1 1) (H ++ [some ⟨[.int .u8 x], 5, some 1⟩]) = some (v', H') ∧ OwnC lo H' v' 5 1 (iv .u8 (l ++ [x])) ∧ Low lo H H' := by
  obtain ⟨v', H2, hap, ho', hlow'⟩ := own_append (P := Try.prog) (nro := nro) (lo := lo) (t := 38) (e := 5) (H := H ++ [some ⟨[.int .u8 x], 5, some 1⟩]) (x := .slice (some ⟨H.length, 0, none⟩) 1 1) (sz := 1) (news := [.int .u8 x])
      (by simp [tab]) (by simp [tab]) (by omega) (by simp [tab, cells_int]) (ho.push _) (by simp; omega) (by omega) (by simp) (by simp [xcells, hget_app0, hget_cons0]) (by simp) (by simp) (by simp [tab]; omega) (by simp [maxLen]; omega)
  exact ⟨v', H2, hap, by rw [iv_append]; exact ho', (Low.push hlo _).trans hlow'⟩
def o16 (B : List Int) : List Int := (List.range 16).map fun i => B.getD i 0
theorem o16_get (B : List Int) {i : Nat} (h : i < 16) : (o16 B).getD i 0 = B.getD i 0 := by simp [o16, h]
theorem o16_len (B : List Int) : (o16 B).length = 16 := by simp [o16]
theorem o16_tag {B : List Int} (h : By B) : o16 B = tagB (dv B % 340282366920938463463374607431768211456) := by
  unfold o16 tagB
  refine List.map_congr_left fun i hi => ?_
  rw [dv_get h]
  have hi' : i < 16 := List.mem_range.1 hi
  generalize dv B = V
  have : ∀ j : Nat, j < 16 → V / 256 ^ j % 256 = V % 340282366920938463463374607431768211456 / 256 ^ j % 256 := by
    intro j hj
    rcases j with _ | _ | _ | _ | _ | _ | _ | _ | _ | _ | _ | _ | _ | _ | _ | _ | j <;> first | (exfalso; omega) | (simp; done) | (simp; omega)
  exact this i hi'
attribute [local irreducible] dv clL ac blk plusL plusN timesL restL tagB o16
attribute [local simp] wb_bool wb_undef XL_nil XL_cons XLc_val XLc_call step1_eq stepW_t stepW_f stepC_n stepC_s stepX_s xop_eq xopR_s xopR_n wantedA_eq wantedG_n wantedG_s plain1_int plain1_bool plain1_string bits_i64 bits_u64 bits_u32 bits_u16 bits_u8 xeqA xarr allK_iv num_iv calleeOf xread xeff xbin xint xnil xun xstr xload xconv xpart xfield xfieldAddr xindexAddr xindex bnd asInt? xslice xlen xmin xmax xbuild xfill xappend xcopy xcells eval_tmp eval_const put_at put_none fr0_at cells_agg cells_int cells_bool cells_string cells_ptr cells_slice notTuple tab iv_all hget_app hget_app0 hget_cons0 hget_cons set_app set_app0 setR setR_one QL_nil QL_cons QLc_val stepQ_t stepQ_f stepQC_n stepQC_s stepQX_s SL_nil SL_cons SLc_val stepS_t stepS_f ltT ltF leT leF eqT eqF ltTn ltFn leTn leFn eqTn eqFn beqT beqF bneT bneF wi64 wu64 wu32 wu16 wu8 tmodP tdivP hgetL hgetNe hgetEq setL nums_def nums_len Nat.succ_le_of_lt List.getElem?_cons_zero List.getElem?_cons_succ Option.getD_some Int.toNat_add Int.toNat_mul agB agI agS agP agL agA okB okI okS okP okSl okA
theorem rtag_rc {H : AH} {γ : Nat → Option Nat} {k : List Int} (hk : By k) (hlk : k.length = 32) (t : ByteArray) (ht : t.size ≤ 200000) : AC Try.prog H.length γ 29 #[.agg (iv .u8 k).toArray, .string t] H (fun v' _ => v' = .string (strOfNums (tagB (tagV (dv (clL k)) (dv (k.drop 16)) (nums t))))) := by
  obtain ⟨T, hT⟩ : ∃ T, T = nums t := ⟨_, rfl⟩
  have hTl : T.length = t.size := by rw [hT, nums_len]
  have hTb : By T := by rw [hT]; exact fun x hx => nums_bd t x hx
  rw [← hT]
  have hcl := clL_len k
  have hcb := clL_by hk
  have htk : (iv .u8 k).take 32 = iv .u8 k := List.take_of_length_le (by simp [hlk])
  obtain ⟨nb, hnb⟩ : ∃ nb, nb = (T.length + 15) / 16 := ⟨_, rfl⟩
  unfold tagV
  rw [← hnb]
  refine ac_of_aw Try.func29 rfl Try.ntmps29 Try.results29 (by simp) ?_
  refine aw_seq ?_
  (refine aw_ops (by kernel_rfl) (fun K hK => ?_); simp (disch := first | omega | (simp only [List.length_set, List.length_append, List.length_cons, List.length_nil, iv_length, zl_length]; try omega; done)) [-getElem?_pos, -getElem?_neg]; refine hK _ _ ?_; clear hK K)
  refine aw_seq ?_
  refine aw_ops (by kernel_rfl) (fun K hK => ?_)
  simp (disch := first | omega | (simp only [List.length_set, List.length_append, List.length_cons, List.length_nil, iv_length, zl_length]; try omega; done)) [-getElem?_pos, -getElem?_neg, hlk, htk]
  refine ⟨by kernel_rfl, ac_of_fresh (clamped_rc hk hlk) (digs_plain _) ?_⟩
  try simp (disch := first | omega | (simp only [List.length_set, List.length_append, List.length_cons, List.length_nil, iv_length, zl_length]; try omega; done)) [-getElem?_pos, -getElem?_neg]
  refine hK _ _ ?_; clear hK K
  refine aw_seq ?_
  (refine aw_ops (by kernel_rfl) (fun K hK => ?_); simp (disch := first | omega | (simp only [List.length_set, List.length_append, List.length_cons, List.length_nil, iv_length, zl_length]; try omega; done)) [-getElem?_pos, -getElem?_neg]; refine hK _ _ ?_; clear hK K)
  refine aw_seq ?_
  refine aw_seq ?_
  (refine aw_ops (by kernel_rfl) (fun K hK => ?_); simp (disch := first | omega | (simp only [List.length_set, List.length_append, List.length_cons, List.length_nil, iv_length, zl_length]; try omega; done)) [-getElem?_pos, -getElem?_neg]; refine hK _ _ ?_; clear hK K)
  obtain ⟨H1, hH1⟩ : ∃ H1, H1 = H ++ [some ⟨iv .u8 k, 23, none⟩, some (dB (clL k))] := ⟨_, rfl⟩
  rw [← hH1]
  have l1 : H1.length = H.length + 2 := by rw [hH1]; simp
  have b1 : hget H1 H.length = some ⟨iv .u8 k, 23, none⟩ := by rw [hH1, hget_app0]; rfl
  have s1 : SlV H1 (.slice (some ⟨H.length + 1, 0, none⟩) 16 16) (iv .u64 (clL k)) := by rw [hH1]; exact SlV.of (by rw [hget_app]; rfl) (by simp [hcl])
  clear hH1
  refine aw_block ?_
  refine aw_loop (fun q α G => ∃ (c : Nat) (A : List Int) (v6 : Value), c + q = nb ∧ α 7 = .int .i64 ((16 * c : Nat) : Int) ∧ α 1 = .string t ∧ α 2 = .pointer (some ⟨H.length, 0, none⟩) ∧ α 5 = .slice (some ⟨H.length + 1, 0, none⟩) 16 16 ∧ α 6 = v6 ∧ By A ∧ dv A = ac (dv (clL k)) T c ∧ A.length ≤ 36 * c ∧ SlV G v6 (iv .u64 A) ∧ Low H1.length H1 G) nb ?_ ?_
  · exact ⟨0, [], _, by omega, by (first | (simp [put_at, put_none, fr0_at]; done) | rfl), by (first | (simp [put_at, put_none, fr0_at]; done) | rfl), by (first | (simp [put_at, put_none, fr0_at]; done) | rfl), by (first | (simp [put_at, put_none, fr0_at]; done) | rfl), by (first | (simp [put_at, put_none, fr0_at]; done) | rfl), By.nil, by rw [ac]; simp [dv], by simp, .inl ⟨none, rfl, rfl⟩, Low.refl (Nat.le_refl _)⟩
  rintro q α G ⟨c, A, v6, hcq, h7, h1, h2, h5, h6, hA, hAv, hAl, hvA, hlow⟩
  have hGl := hlow.2
  refine aw_seq ?_
  refine aw_seq ?_
  by_cases hc : c < nb
  · have hc16 : 16 * c < t.size := by omega
    obtain ⟨bl, hbl⟩ : ∃ bl, bl = blk T c := ⟨_, rfl⟩
    have hbll : bl.length = min 16 (T.length - 16 * c) := by rw [hbl]; unfold blk; rw [List.length_take, List.length_drop]
    have hblb : By bl := by rw [hbl]; unfold blk; exact (hTb.drop _).take _
    have hblg : ∀ j, j < bl.length → gb t (16 * c + j) = bl.getD j 0 := fun j hj => by
      rw [gb_nums', ← hT, hbl]
      unfold blk
      simp only [List.getD_eq_getElem?_getD]
      rw [List.getElem?_take_of_lt (by omega), List.getElem?_drop]
    have hac : ac (dv (clL k)) T (c + 1) = (ac (dv (clL k)) T c + (dv bl + 256 ^ bl.length)) * dv (clL k) % pP := by rw [ac, ← hbl]
    (refine aw_ops (by kernel_rfl) (fun K hK => ?_); simp (disch := first | omega | (simp only [List.length_set, List.length_append, List.length_cons, List.length_nil, iv_length, zl_length]; try omega; done)) [-getElem?_pos, -getElem?_neg, h7, h1]; refine hK _ _ ?_; clear hK K)
    refine aw_t (by (first | (simp [eval_tmp, put_at, hc16]; done) | (simp [eval_tmp, put_at, hc16]; omega))) (by kernel_rfl) ?_
    refine aw_skip ?_
    refine aw_seq ?_
    refine aw_block ?_
    refine aw_seq ?_
    (refine aw_ops (by kernel_rfl) (fun K hK => ?_); simp (disch := first | omega | (simp only [List.length_set, List.length_append, List.length_cons, List.length_nil, iv_length, zl_length]; try omega; done)) [-getElem?_pos, -getElem?_neg]; refine hK _ _ ?_; clear hK K)
    refine aw_seq ?_
    refine aw_seq ?_
    (refine aw_ops (by kernel_rfl) (fun K hK => ?_); simp (disch := first | omega | (simp only [List.length_set, List.length_append, List.length_cons, List.length_nil, iv_length, zl_length]; try omega; done)) [-getElem?_pos, -getElem?_neg, h7]; refine hK _ _ ?_; clear hK K)
    refine aw_cut (fun α' G2 => ∃ v8 : Value, α' 7 = .int .i64 ((16 * c : Nat) : Int) ∧ α' 1 = .string t ∧ α' 2 = .pointer (some ⟨H.length, 0, none⟩) ∧ α' 5 = .slice (some ⟨H.length + 1, 0, none⟩) 16 16 ∧ α' 6 = v6 ∧ α' 8 = v8 ∧ OwnC G.length G2 v8 45 1 (iv .u64 bl) ∧ Low G.length G G2) ?_ ?_
    · refine aw_block ?_
      refine aw_loop (fun q2 α G2 => ∃ (j : Nat) (v8 : Value), j + q2 = bl.length ∧ α 9 = .int .i64 ((16 * c + j : Nat) : Int) ∧ α 7 = .int .i64 ((16 * c : Nat) : Int) ∧ α 1 = .string t ∧ α 2 = .pointer (some ⟨H.length, 0, none⟩) ∧ α 5 = .slice (some ⟨H.length + 1, 0, none⟩) 16 16 ∧ α 6 = v6 ∧ α 8 = v8 ∧ OwnC G.length G2 v8 45 1 (iv .u64 (bl.take j)) ∧ Low G.length G G2) bl.length ?_ ?_
      · exact ⟨0, _, by omega, by (first | (simp [put_at, put_none, fr0_at]; done) | rfl), by (first | (simp [put_at, put_none, fr0_at, h7]; done) | rfl), by (first | (simp [put_at, put_none, fr0_at, h1]; done) | rfl), by (first | (simp [put_at, put_none, fr0_at, h2]; done) | rfl), by (first | (simp [put_at, put_none, fr0_at, h5]; done) | rfl), by (first | (simp [put_at, put_none, fr0_at, h6]; done) | rfl), by (first | (simp [put_at, put_none, fr0_at]; done) | rfl), .inl ⟨rfl, rfl⟩, Low.refl (Nat.le_refl _)⟩
      clear h7 h1 h2 h5 h6
      rintro q2 α G2 ⟨j, v8, hjq, h9, h7, h1, h2, h5, h6, h8, ho, hlow2⟩
      obtain ⟨m, hm⟩ : ∃ m, m = 16 * c + j := ⟨_, rfl⟩
      rw [← hm] at h9
      refine aw_seq ?_
      refine aw_seq ?_
      by_cases hj : j < bl.length
      · have hg := hblg j hj
        rw [← hm] at hg
        have hd := hblb.get j
        have hts : bl.take (j + 1) = bl.take j ++ [bl.getD j 0] := by rw [List.take_add_one, List.getElem?_eq_getElem hj, List.getD_eq_getElem?_getD, List.getElem?_eq_getElem hj]; rfl
        obtain ⟨v', H2, hap, ho', hlow'⟩ := own_app1 (nro := H.length) (bl.getD j 0) ho (by have := hlow2.2; omega) (by omega) (by simp; omega)
        rw [← hts] at ho'
        generalize bl.getD j 0 = d at *
        (refine aw_ops (by kernel_rfl) (fun K hK => ?_); simp (disch := first | omega | (simp only [List.length_set, List.length_append, List.length_cons, List.length_nil, iv_length, zl_length]; try omega; done)) [-getElem?_pos, -getElem?_neg, h9, h1, h7]; refine hK _ _ ?_; clear hK K)
        refine aw_t (by (first | (simp [eval_tmp, put_at]; done) | (simp [eval_tmp, put_at]; omega))) (by kernel_rfl) ?_
        refine aw_skip ?_
        refine aw_seq ?_
        refine aw_block ?_
        (refine aw_ops (by kernel_rfl) (fun K hK => ?_); simp (disch := first | omega | (simp only [List.length_set, List.length_append, List.length_cons, List.length_nil, iv_length, zl_length]; try omega; done)) [-getElem?_pos, -getElem?_neg, -xappend, h8, h1, h9, hg, hap]; refine hK _ _ ?_; clear hK K)
        (refine aw_ops (by kernel_rfl) (fun K hK => ?_); simp (disch := first | omega | (simp only [List.length_set, List.length_append, List.length_cons, List.length_nil, iv_length, zl_length]; try omega; done)) [-getElem?_pos, -getElem?_neg, h9]; refine hK _ _ ?_; clear hK K)
        exact ⟨q2 - 1, by omega, j + 1, v', by omega, by rw [show ((16 * c + (j + 1) : Nat) : Int) = (m : Int) + 1 by omega]; (first | (simp [put_at, put_none, fr0_at]; done) | rfl), by (first | (simp [put_at, put_none, fr0_at, h7]; done) | rfl), by (first | (simp [put_at, put_none, fr0_at, h1]; done) | rfl), by (first | (simp [put_at, put_none, fr0_at, h2]; done) | rfl), by (first | (simp [put_at, put_none, fr0_at, h5]; done) | rfl), by (first | (simp [put_at, put_none, fr0_at, h6]; done) | rfl), by (first | (simp [put_at, put_none, fr0_at]; done) | rfl), ho', hlow2.trans hlow'⟩
      · obtain rfl : j = bl.length := by omega
        rw [List.take_of_length_le (Nat.le_refl _)] at ho
        refine aw_cut (fun α' G3 => α' 34 = .bool false ∧ α' 7 = .int .i64 ((16 * c : Nat) : Int) ∧ α' 1 = .string t ∧ α' 2 = .pointer (some ⟨H.length, 0, none⟩) ∧ α' 5 = .slice (some ⟨H.length + 1, 0, none⟩) 16 16 ∧ α' 6 = v6 ∧ α' 8 = v8 ∧ G2 = G3) ?_ ?_
        · by_cases c1 : m < t.size
          · (refine aw_ops (by kernel_rfl) (fun K hK => ?_); simp (disch := first | omega | (simp only [List.length_set, List.length_append, List.length_cons, List.length_nil, iv_length, zl_length]; try omega; done)) [-getElem?_pos, -getElem?_neg, h9, h1, h7]; refine hK _ _ ?_; clear hK K)
            exact ⟨by (first | (simp [put_at, put_none, fr0_at]; done) | rfl), by (first | (simp [put_at, put_none, fr0_at, h7]; done) | rfl), by (first | (simp [put_at, put_none, fr0_at, h1]; done) | rfl), by (first | (simp [put_at, put_none, fr0_at, h2]; done) | rfl), by (first | (simp [put_at, put_none, fr0_at, h5]; done) | rfl), by (first | (simp [put_at, put_none, fr0_at, h6]; done) | rfl), by (first | (simp [put_at, put_none, fr0_at, h8]; done) | rfl), rfl⟩
          · (refine aw_ops (by kernel_rfl) (fun K hK => ?_); simp (disch := first | omega | (simp only [List.length_set, List.length_append, List.length_cons, List.length_nil, iv_length, zl_length]; try omega; done)) [-getElem?_pos, -getElem?_neg, h9, h1, h7]; refine hK _ _ ?_; clear hK K)
            exact ⟨by (first | (simp [put_at, put_none, fr0_at]; done) | rfl), by (first | (simp [put_at, put_none, fr0_at, h7]; done) | rfl), by (first | (simp [put_at, put_none, fr0_at, h1]; done) | rfl), by (first | (simp [put_at, put_none, fr0_at, h2]; done) | rfl), by (first | (simp [put_at, put_none, fr0_at, h5]; done) | rfl), by (first | (simp [put_at, put_none, fr0_at, h6]; done) | rfl), by (first | (simp [put_at, put_none, fr0_at, h8]; done) | rfl), rfl⟩
        clear h9 h7 h1 h2 h5 h6 h8
        rintro α G3 ⟨h34, h7, h1, h2, h5, h6, h8, rfl⟩
        refine aw_f (by (first | (simp [eval_tmp, put_at, h34]; done) | (simp [eval_tmp, put_at, h34]; omega))) (by kernel_rfl) ?_
        refine aw_exit ?_
        exact ⟨v8, h7, h1, h2, h5, h6, h8, ho, hlow2⟩
    clear h7 h1 h2 h5 h6
    rintro α G2 ⟨v8, h7, h1, h2, h5, h6, h8, ho, hlow2⟩
    obtain ⟨v', G3, hap, ho', hlow'⟩ := own_app1 (nro := H.length) 1 ho (by have := hlow2.2; omega) (by omega) (by omega)
    refine aw_seq ?_
    (refine aw_ops (by kernel_rfl) (fun K hK => ?_); simp (disch := first | omega | (simp only [List.length_set, List.length_append, List.length_cons, List.length_nil, iv_length, zl_length]; try omega; done)) [-getElem?_pos, -getElem?_neg, -xappend, h8, hap]; refine hK _ _ ?_; clear hK K)
    have hG3 := hlow2.trans hlow'
    have hG3l := hG3.2
    have hvp := ho'.slv
    have hvA3 : SlV G3 v6 (iv .u64 A) := hvA.low hG3.1
    have hv5 : SlV G3 (.slice (some ⟨H.length + 1, 0, none⟩) 16 16) (iv .u64 (clL k)) := s1.low fun j hj => by rw [hG3.1 j (by omega), hlow.1 j hj]
    have hpb : By (bl ++ [1]) := hblb.app (By.cons (by omega) By.nil)
    have hpl : (bl ++ [1]).length = bl.length + 1 := by simp
    have hpv : dv (bl ++ [1]) = dv bl + 256 ^ bl.length := by rw [dv_append, show dv [1] = 1 by simp [dv], Int.mul_one]
    clear ho' ho hap h8
    generalize bl ++ [1] = part at *
    have hsb := plusL_by A part
    have hsl := plusL_len A part
    have hsn := plusN_le A part
    have hsv := plusL_dv hA hpb
    have htb := timesL_by hsb hcb
    have htl := timesL_len (plusL A part) (clL k)
    have htv := timesL_dv hsb hcb
    have hS := restL_spec htb
    have hnew : dv (restL (timesL (plusL A part) (clL k))) = ac (dv (clL k)) T (c + 1) := by rw [hac, hS.2.1, htv, hsv, hpv, hAv]
    have hlowF : ∀ L, Low H1.length H1 (G3 ++ L) := fun L => ((hlow.trans (hG3.weak hGl))).trans (Low.push (by omega) L)
    refine aw_ops (by kernel_rfl) (fun K hK => ?_)
    simp (disch := first | omega | (simp only [List.length_set, List.length_append, List.length_cons, List.length_nil, iv_length, zl_length]; try omega; done)) [-getElem?_pos, -getElem?_neg, h6, h5]
    refine ⟨by kernel_rfl, ac_of_fresh (dplus_rc hA hpb hvA3 hvp (by omega) (by omega) (by omega)) (digs_plain _) ?_⟩
    try simp (disch := first | omega | (simp only [List.length_set, List.length_append, List.length_cons, List.length_nil, iv_length, zl_length]; try omega; done)) [-getElem?_pos, -getElem?_neg]
    refine ⟨by kernel_rfl, ac_of_fresh (dtimes_rc hsb hcb (SlV.of (by rw [hget_app0]; rfl) (by rw [iv_length, hsl])) (hv5.app _) (by omega) (by omega)) (digs_plain _) ?_⟩
    rw [← htl]
    try simp (disch := first | omega | (simp only [List.length_set, List.length_append, List.length_cons, List.length_nil, iv_length, zl_length]; try omega; done)) [-getElem?_pos, -getElem?_neg]
    have hsd : SlV (G3 ++ [some (dB (plusL A part)), some (dB (timesL (plusL A part) (clL k)))]) (.slice (some ⟨G3.length + 1, 0, none⟩) (timesL (plusL A part) (clL k)).length (timesL (plusL A part) (clL k)).length) (iv .u64 (timesL (plusL A part) (clL k))) := SlV.of (by rw [hget_app]; rfl) (by rw [iv_length])
    by_cases hp : dv (timesL (plusL A part) (clL k)) < pP
    · rw [restL_same htb hp] at hnew
      refine ⟨by kernel_rfl, ac_of_echo (rest_same htb hsd (by omega) (by omega) hp) (by simp) ?_⟩
      try simp (disch := first | omega | (simp only [List.length_set, List.length_append, List.length_cons, List.length_nil, iv_length, zl_length]; try omega; done)) [-getElem?_pos, -getElem?_neg]
      refine hK _ _ ?_; clear hK K
      (refine aw_ops (by kernel_rfl) (fun K hK => ?_); simp (disch := first | omega | (simp only [List.length_set, List.length_append, List.length_cons, List.length_nil, iv_length, zl_length]; try omega; done)) [-getElem?_pos, -getElem?_neg, h7]; refine hK _ _ ?_; clear hK K)
      exact ⟨q - 1, by omega, c + 1, _, _, by omega, by rw [show ((16 * (c + 1) : Nat) : Int) = 16 * (c : Int) + 16 by omega]; (first | (simp [put_at, put_none, fr0_at]; done) | rfl), by (first | (simp [put_at, put_none, fr0_at, h1]; done) | rfl), by (first | (simp [put_at, put_none, fr0_at, h2]; done) | rfl), by (first | (simp [put_at, put_none, fr0_at, h5]; done) | rfl), by (first | (simp [put_at, put_none, fr0_at]; done) | rfl), htb, hnew, by omega, hsd, hlowF _⟩
    · refine ⟨by kernel_rfl, ac_of_fresh (rest_new htb hsd (by omega) (by omega) (by omega)) (digs_plain _) ?_⟩
      try simp (disch := first | omega | (simp only [List.length_set, List.length_append, List.length_cons, List.length_nil, iv_length, zl_length]; try omega; done)) [-getElem?_pos, -getElem?_neg]
      refine hK _ _ ?_; clear hK K
      (refine aw_ops (by kernel_rfl) (fun K hK => ?_); simp (disch := first | omega | (simp only [List.length_set, List.length_append, List.length_cons, List.length_nil, iv_length, zl_length]; try omega; done)) [-getElem?_pos, -getElem?_neg, h7]; refine hK _ _ ?_; clear hK K)
      exact ⟨q - 1, by omega, c + 1, _, _, by omega, by rw [show ((16 * (c + 1) : Nat) : Int) = 16 * (c : Int) + 16 by omega]; (first | (simp [put_at, put_none, fr0_at]; done) | rfl), by (first | (simp [put_at, put_none, fr0_at, h1]; done) | rfl), by (first | (simp [put_at, put_none, fr0_at, h2]; done) | rfl), by (first | (simp [put_at, put_none, fr0_at, h5]; done) | rfl), by (first | (simp [put_at, put_none, fr0_at]; done) | rfl), hS.1, hnew, by omega, SlV.of (by rw [hget_app]; rfl) (by rw [iv_length]), hlowF _⟩
  · have hc16 : ¬ 16 * c < t.size := by omega
    obtain rfl : c = nb := by omega
    (refine aw_ops (by kernel_rfl) (fun K hK => ?_); simp (disch := first | omega | (simp only [List.length_set, List.length_append, List.length_cons, List.length_nil, iv_length, zl_length]; try omega; done)) [-getElem?_pos, -getElem?_neg, h7, h1]; refine hK _ _ ?_; clear hK K)
    refine aw_f (by (first | (simp [eval_tmp, put_at, hc16]; done) | (simp [eval_tmp, put_at, hc16]; omega))) (by kernel_rfl) ?_
    refine aw_exit ?_
    have hsk : (k.drop 16).length = 16 := by rw [List.length_drop]; omega
    have hsb := hk.drop 16
    have hkg : ∀ j, (k.drop 16).getD j 0 = k.getD (16 + j) 0 := fun j => by simp [List.getD_eq_getElem?_getD, List.getElem?_drop]
    rw [← hAv]
    obtain ⟨s, hs⟩ : ∃ s, s = k.drop 16 := ⟨_, rfl⟩
    rw [← hs] at hsk hsb hkg ⊢
    clear hs h7 h1 h5
    refine aw_seq ?_
    (refine aw_ops (by kernel_rfl) (fun K hK => ?_); simp (disch := first | omega | (simp only [List.length_set, List.length_append, List.length_cons, List.length_nil, iv_length, zl_length]; try omega; done)) [-getElem?_pos, -getElem?_neg]; refine hK _ _ ?_; clear hK K)
    refine aw_seq ?_
    refine aw_seq ?_
    (refine aw_ops (by kernel_rfl) (fun K hK => ?_); simp (disch := first | omega | (simp only [List.length_set, List.length_append, List.length_cons, List.length_nil, iv_length, zl_length]; try omega; done)) [-getElem?_pos, -getElem?_neg]; refine hK _ _ ?_; clear hK K)
    refine aw_cut (fun α' G2 => ∃ v10 : Value, α' 6 = v6 ∧ α' 10 = v10 ∧ OwnC G.length G2 v10 45 1 (iv .u64 s) ∧ Low G.length G G2) ?_ ?_
    · refine aw_block ?_
      refine aw_loop (fun q2 α G2 => ∃ (j : Nat) (v10 : Value), j + q2 = 16 ∧ α 11 = .int .i64 ((16 + j : Nat) : Int) ∧ α 2 = .pointer (some ⟨H.length, 0, none⟩) ∧ α 6 = v6 ∧ α 10 = v10 ∧ OwnC G.length G2 v10 45 1 (iv .u64 (s.take j)) ∧ Low G.length G G2) 16 ?_ ?_
      · exact ⟨0, _, by omega, by (first | (simp [put_at, put_none, fr0_at]; done) | rfl), by (first | (simp [put_at, put_none, fr0_at, h2]; done) | rfl), by (first | (simp [put_at, put_none, fr0_at, h6]; done) | rfl), by (first | (simp [put_at, put_none, fr0_at]; done) | rfl), .inl ⟨rfl, rfl⟩, Low.refl (Nat.le_refl _)⟩
      clear h2 h6
      rintro q2 α G2 ⟨j, v10, hjq, h11, h2, h6, h10, ho, hlow2⟩
      have hbx : hget G2 H.length = some ⟨iv .u8 k, 23, none⟩ := by rw [hlow2.1 _ (by omega), hlow.1 _ (by omega)]; exact b1
      obtain ⟨m, hm⟩ : ∃ m, m = 16 + j := ⟨_, rfl⟩
      rw [← hm] at h11
      refine aw_seq ?_
      refine aw_seq ?_
      by_cases hj : j < 16
      · have hki : (iv .u8 k)[m]? = some (.int .u8 (s.getD j 0)) := by rw [hkg, ← hm]; exact iv_getN _ _ _ (by omega)
        have hd := hsb.get j
        have hts : s.take (j + 1) = s.take j ++ [s.getD j 0] := by rw [List.take_add_one, List.getElem?_eq_getElem (by omega), List.getD_eq_getElem?_getD, List.getElem?_eq_getElem (by omega)]; rfl
        obtain ⟨v', H2, hap, ho', hlow'⟩ := own_app1 (nro := H.length) (s.getD j 0) ho (by have := hlow2.2; omega) (by omega) (by simp; omega)
        rw [← hts] at ho'
        generalize s.getD j 0 = d at *
        (refine aw_ops (by kernel_rfl) (fun K hK => ?_); simp (disch := first | omega | (simp only [List.length_set, List.length_append, List.length_cons, List.length_nil, iv_length, zl_length]; try omega; done)) [-getElem?_pos, -getElem?_neg, h11]; refine hK _ _ ?_; clear hK K)
        refine aw_t (by (first | (simp [eval_tmp, put_at]; done) | (simp [eval_tmp, put_at]; omega))) (by kernel_rfl) ?_
        refine aw_skip ?_
        refine aw_seq ?_
        refine aw_block ?_
        (refine aw_ops (by kernel_rfl) (fun K hK => ?_); simp (disch := first | omega | (simp only [List.length_set, List.length_append, List.length_cons, List.length_nil, iv_length, zl_length]; try omega; done)) [-getElem?_pos, -getElem?_neg, -xappend, h10, h11, h2, hbx, hki, hap]; refine hK _ _ ?_; clear hK K)
        (refine aw_ops (by kernel_rfl) (fun K hK => ?_); simp (disch := first | omega | (simp only [List.length_set, List.length_append, List.length_cons, List.length_nil, iv_length, zl_length]; try omega; done)) [-getElem?_pos, -getElem?_neg, h11]; refine hK _ _ ?_; clear hK K)
        exact ⟨q2 - 1, by omega, j + 1, v', by omega, by rw [show ((16 + (j + 1) : Nat) : Int) = (m : Int) + 1 by omega]; (first | (simp [put_at, put_none, fr0_at]; done) | rfl), by (first | (simp [put_at, put_none, fr0_at, h2]; done) | rfl), by (first | (simp [put_at, put_none, fr0_at, h6]; done) | rfl), by (first | (simp [put_at, put_none, fr0_at]; done) | rfl), ho', hlow2.trans hlow'⟩
      · obtain rfl : j = 16 := by omega
        rw [List.take_of_length_le (by omega)] at ho
        (refine aw_ops (by kernel_rfl) (fun K hK => ?_); simp (disch := first | omega | (simp only [List.length_set, List.length_append, List.length_cons, List.length_nil, iv_length, zl_length]; try omega; done)) [-getElem?_pos, -getElem?_neg, h11]; refine hK _ _ ?_; clear hK K)
        refine aw_f (by (first | (simp [eval_tmp, put_at]; done) | (simp [eval_tmp, put_at]; omega))) (by kernel_rfl) ?_
        refine aw_exit ?_
        exact ⟨v10, h6, h10, ho, hlow2⟩
    clear h2 h6
    rintro α G2 ⟨v10, h6, h10, ho, hlow2⟩
    have hG2l := hlow2.2
    have hvs := ho.slv
    have hvA2 : SlV G2 v6 (iv .u64 A) := hvA.low hlow2.1
    have hBb := plusL_by A s
    have hBl := plusL_len A s
    have hBn := plusN_le A s
    have hBv := plusL_dv hA hsb
    have hfin := o16_tag hBb
    rw [hBv] at hfin
    rw [← hfin]
    refine aw_seq ?_
    refine aw_ops (by kernel_rfl) (fun K hK => ?_)
    simp (disch := first | omega | (simp only [List.length_set, List.length_append, List.length_cons, List.length_nil, iv_length, zl_length]; try omega; done)) [-getElem?_pos, -getElem?_neg, h6, h10]
    refine ⟨by kernel_rfl, ac_of_fresh (dplus_rc hA hsb hvA2 hvs (by omega) (by omega) (by omega)) (digs_plain _) ?_⟩
    try simp (disch := first | omega | (simp only [List.length_set, List.length_append, List.length_cons, List.length_nil, iv_length, zl_length]; try omega; done)) [-getElem?_pos, -getElem?_neg]
    refine hK _ _ ?_; clear hK K
    have hvB : SlV (G2 ++ [some (dB (plusL A s))]) (.slice (some ⟨G2.length, 0, none⟩) (plusN A s) (plusN A s)) (iv .u64 (plusL A s)) := SlV.of (by rw [hget_app0]; rfl) (by rw [iv_length, hBl])
    rw [← hBl] at hvB hBn ⊢
    obtain ⟨G4, hG4⟩ : ∃ G4, G4 = G2 ++ [some (dB (plusL A s))] := ⟨_, rfl⟩
    have hG4l : G4.length = G2.length + 1 := by rw [hG4]; simp
    rw [← hG4] at hvB ⊢
    clear hG4 ho h6 h10 hfin hBv
    have hog := fun i hi => o16_get (plusL A s) (i := i) hi
    have hol := o16_len (plusL A s)
    generalize plusL A s = B at *
    have hxB := hvB.len (P := Try.prog) (t := 83) (e := 45) rfl
    rw [iv_length] at hxB
    obtain ⟨v12, hv12⟩ : ∃ v12, v12 = Value.slice (some ⟨G2.length, 0, none⟩) B.length B.length := ⟨_, rfl⟩
    rw [← hv12] at hvB hxB ⊢
    refine aw_seq ?_
    (refine aw_ops (by kernel_rfl) (fun K hK => ?_); simp (disch := first | omega | (simp only [List.length_set, List.length_append, List.length_cons, List.length_nil, iv_length, zl_length]; try omega; done)) [-getElem?_pos, -getElem?_neg]; refine hK _ _ ?_; clear hK K)
    refine aw_seq ?_
    refine aw_seq ?_
    (refine aw_ops (by kernel_rfl) (fun K hK => ?_); simp (disch := first | omega | (simp only [List.length_set, List.length_append, List.length_cons, List.length_nil, iv_length, zl_length]; try omega; done)) [-getElem?_pos, -getElem?_neg]; refine hK _ _ ?_; clear hK K)
    refine aw_block ?_
    refine aw_loop (fun q2 α G5 => ∃ (i : Nat) (v13 : Value), i + q2 = 16 ∧ α 14 = .int .i64 (i : Nat) ∧ α 12 = v12 ∧ α 13 = v13 ∧ OwnC G4.length G5 v13 5 1 (iv .u8 ((o16 B).take i)) ∧ Low G4.length G4 G5) 16 ?_ ?_
    · exact ⟨0, _, by omega, by (first | (simp [put_at, put_none, fr0_at]; done) | rfl), by (first | (simp [put_at, put_none, fr0_at]; done) | rfl), by (first | (simp [put_at, put_none, fr0_at]; done) | rfl), .inl ⟨rfl, rfl⟩, Low.refl (Nat.le_refl _)⟩
    rintro q2 α G5 ⟨i, v13, hiq, h14, h12, h13, ho, hlow5⟩
    refine aw_seq ?_
    refine aw_seq ?_
    by_cases hi : i < 16
    · have hd := hBb.get i
      have hts : (o16 B).take (i + 1) = (o16 B).take i ++ [B.getD i 0] := by rw [← hog i hi, List.take_add_one, List.getElem?_eq_getElem (by omega), List.getD_eq_getElem?_getD, List.getElem?_eq_getElem (by omega)]; rfl
      obtain ⟨v', H2, hap, ho', hlow'⟩ := own_appB (nro := H.length) (B.getD i 0) ho (by have := hlow5.2; omega) (by omega) (by simp; omega)
      rw [← hts] at ho'
      (refine aw_ops (by kernel_rfl) (fun K hK => ?_); simp (disch := first | omega | (simp only [List.length_set, List.length_append, List.length_cons, List.length_nil, iv_length, zl_length]; try omega; done)) [-getElem?_pos, -getElem?_neg, h14]; refine hK _ _ ?_; clear hK K)
      refine aw_t (by (first | (simp [eval_tmp, put_at]; done) | (simp [eval_tmp, put_at]; omega))) (by kernel_rfl) ?_
      refine aw_skip ?_
      refine aw_seq ?_
      refine aw_block ?_
      refine aw_seq ?_
      (refine aw_ops (by kernel_rfl) (fun K hK => ?_); simp (disch := first | omega | (simp only [List.length_set, List.length_append, List.length_cons, List.length_nil, iv_length, zl_length]; try omega; done)) [-getElem?_pos, -getElem?_neg]; refine hK _ _ ?_; clear hK K)
      refine aw_seq ?_
      refine aw_seq ?_
      (refine aw_ops (by kernel_rfl) (fun K hK => ?_); simp (disch := first | omega | (simp only [List.length_set, List.length_append, List.length_cons, List.length_nil, iv_length, zl_length]; try omega; done)) [-getElem?_pos, -getElem?_neg, -xlen, h14, h12, hxB]; refine hK _ _ ?_; clear hK K)
      refine aw_cut (fun α' G6 => α' 15 = .int .u64 (B.getD i 0) ∧ α' 14 = .int .i64 (i : Nat) ∧ α' 12 = v12 ∧ α' 13 = v13 ∧ G5 = G6) ?_ ?_
      · by_cases c1 : i < B.length
        · obtain ⟨p, e1, e2⟩ := hvB.at (P := Try.prog) (t := 83) (e := 45) rfl rfl rfl rfl c1
          have e2 := e2 _ hlow5.1
          clear hap hog
          generalize B.getD i 0 = x at *
          refine aw_t (by (first | (simp [eval_tmp, put_at, c1]; done) | (simp [eval_tmp, put_at, c1]; omega))) (by kernel_rfl) ?_
          (refine aw_ops (by kernel_rfl) (fun K hK => ?_); simp (disch := first | omega | (simp only [List.length_set, List.length_append, List.length_cons, List.length_nil, iv_length, zl_length]; try omega; done)) [-getElem?_pos, -getElem?_neg, -xindexAddr, -xload, h14, h12, e1, e2]; refine hK _ _ ?_; clear hK K)
          exact ⟨by (first | (simp [put_at, put_none, fr0_at]; done) | rfl), by (first | (simp [put_at, put_none, fr0_at, h14]; done) | rfl), by (first | (simp [put_at, put_none, fr0_at, h12]; done) | rfl), by (first | (simp [put_at, put_none, fr0_at, h13]; done) | rfl), rfl⟩
        · have : B.getD i 0 = 0 := by rw [List.getD_eq_getElem?_getD, List.getElem?_eq_none (by omega)]; rfl
          rw [this]
          refine aw_f (by (first | (simp [eval_tmp, put_at, c1]; done) | (simp [eval_tmp, put_at, c1]; omega))) (by kernel_rfl) ?_
          refine aw_skip ?_
          exact ⟨by (first | (simp [put_at, put_none, fr0_at]; done) | rfl), by (first | (simp [put_at, put_none, fr0_at, h14]; done) | rfl), by (first | (simp [put_at, put_none, fr0_at, h12]; done) | rfl), by (first | (simp [put_at, put_none, fr0_at, h13]; done) | rfl), rfl⟩
      clear h14 h12 h13
      rintro α G6 ⟨h15, h14, h12, h13, rfl⟩
      clear hog
      generalize B.getD i 0 = x at *
      (refine aw_ops (by kernel_rfl) (fun K hK => ?_); simp (disch := first | omega | (simp only [List.length_set, List.length_append, List.length_cons, List.length_nil, iv_length, zl_length]; try omega; done)) [-getElem?_pos, -getElem?_neg, -xappend, h13, h15, hap]; refine hK _ _ ?_; clear hK K)
      (refine aw_ops (by kernel_rfl) (fun K hK => ?_); simp (disch := first | omega | (simp only [List.length_set, List.length_append, List.length_cons, List.length_nil, iv_length, zl_length]; try omega; done)) [-getElem?_pos, -getElem?_neg, h14]; refine hK _ _ ?_; clear hK K)
      exact ⟨q2 - 1, by omega, i + 1, v', by omega, by (first | (simp [put_at, put_none, fr0_at]; done) | rfl), by (first | (simp [put_at, put_none, fr0_at, h12]; done) | rfl), by (first | (simp [put_at, put_none, fr0_at]; done) | rfl), ho', hlow5.trans hlow'⟩
    · obtain rfl : i = 16 := by omega
      rw [List.take_of_length_le (by omega)] at ho
      have hcv := own_conv (P := Try.prog) (s := 38) (d := 9) (by simp [tab]) (by simp [tab]) (by simp [tab]) ho
      (refine aw_ops (by kernel_rfl) (fun K hK => ?_); simp (disch := first | omega | (simp only [List.length_set, List.length_append, List.length_cons, List.length_nil, iv_length, zl_length]; try omega; done)) [-getElem?_pos, -getElem?_neg, h14]; refine hK _ _ ?_; clear hK K)
      refine aw_f (by (first | (simp [eval_tmp, put_at]; done) | (simp [eval_tmp, put_at]; omega))) (by kernel_rfl) ?_
      refine aw_exit ?_
      refine aw_seq ?_
      (refine aw_ops (by kernel_rfl) (fun K hK => ?_); simp (disch := first | omega | (simp only [List.length_set, List.length_append, List.length_cons, List.length_nil, iv_length, zl_length]; try omega; done)) [-getElem?_pos, -getElem?_neg, -xconv, h13, hcv]; refine hK _ _ ?_; clear hK K)
      (refine aw_ret ?_; simp (disch := first | omega | (simp only [List.length_set, List.length_append, List.length_cons, List.length_nil, iv_length, zl_length]; try omega; done)) [-getElem?_pos, -getElem?_neg, thenQ_ret, inBlockQ_ret, RQ, resL, resV])
end

section
open Go Go.RowKit
set_option linter.unusedVariables false
set_option linter.unusedSimpArgs false
set_option maxRecDepth 1000000
set_option maxHeartbeats 4000000

theorem nums_app (a b : ByteArray) : nums (a ++ b) = nums a ++ nums b := by
  unfold nums
  rw [ByteArray.data_append, Array.toList_append, List.map_append]
theorem set_midA {H A L : AH} {x y : Option Blk} {b : Nat} (hb : b = H.length + A.length) : (H ++ (A ++ x :: L)).set b y = H ++ (A ++ y :: L) := by
  subst hb
  rw [← List.append_assoc, List.set_append_right _ _ (by simp), List.length_append, Nat.sub_self, ← List.append_assoc]
  rfl
/-- Parts read from a slice, wherever it lies. -/
def SlR (H : AH) (v : Value) (ps : List ByteArray) : Prop :=
  (∃ a, v = .slice a 0 0 ∧ ps = []) ∨ ∃ j off k, v = .slice (some ⟨j, off, none⟩) ps.length ps.length ∧ hget H j = some k ∧ ∀ i p, ps[i]? = some p → k.cells[off + i]? = some (.string p)
theorem SlR.sb {H : AH} {v : Value} {ps : List ByteArray} (h : SlR H v ps) (L : AH) {b : Nat} (hb : H.length ≤ b) : SlS (H ++ L) b v ps := by
  rcases h with h | ⟨j, off, k, h1, h2, h3⟩
  · exact .inl h
  · exact .inr ⟨j, off, k, h1, by have := hget_lt h2; omega, hget_left' h2, h3⟩
theorem SlR.app {H : AH} {v : Value} {ps : List ByteArray} (h : SlR H v ps) (L : AH) : SlR (H ++ L) v ps := by
  rcases h with h | ⟨j, off, k, h1, h2, h3⟩
  · exact .inl h
  · exact .inr ⟨j, off, k, h1, hget_left' h2, h3⟩
theorem SlR.low {H H' : AH} {v : Value} {ps : List ByteArray} (h : SlR H v ps) (hl : ∀ j, j < H.length → hget H' j = hget H j) : SlR H' v ps := by
  rcases h with h | ⟨j, off, k, h1, h2, h3⟩
  · exact .inl h
  · exact .inr ⟨j, off, k, h1, by rw [hl j (hget_lt h2)]; exact h2, h3⟩
theorem SlR.len {H : AH} {v : Value} {ps : List ByteArray} (h : SlR H v ps) : xlen Try.prog 24 v = some (.int .i64 ps.length) := by
  rcases h with ⟨a, rfl, rfl⟩ | ⟨j, off, k, rfl, _⟩
  · simp [xlen, tab]
  · simp [xlen, tab]
theorem SlV.r {H : AH} {v : Value} {ps : List ByteArray} (h : SlV H v (ps.map .string)) : SlR H v ps := by
  rcases h with ⟨a, h1, h2⟩ | ⟨j, off, k, h1, h2, h3⟩
  · exact .inl ⟨a, h1, List.map_eq_nil_iff.1 h2⟩
  · exact .inr ⟨j, off, k, by simpa using h1, h2, fun i p hp => h3 i _ (by simp [hp])⟩
theorem SlR.mk1 {H : AH} {j : Nat} {k : Blk} {p : ByteArray} (hj : hget H j = some k) (h : k.cells[0]? = some (.string p)) : SlR H (.slice (some ⟨j, 0, none⟩) 1 1) [p] :=
  .inr ⟨j, 0, k, rfl, hj, fun i q hq => by
    match i, hq with
    | 0, hq => simp at hq; subst hq; exact h
    | i + 1, hq => simp at hq⟩
theorem SlR.mk2 {H : AH} {j : Nat} {k : Blk} {p q : ByteArray} (hj : hget H j = some k) (h : k.cells[0]? = some (.string p)) (h' : k.cells[1]? = some (.string q)) : SlR H (.slice (some ⟨j, 0, none⟩) 2 2) [p, q] :=
  .inr ⟨j, 0, k, rfl, hj, fun i x hq => by
    match i, hq with
    | 0, hq => simp at hq; subst hq; exact h
    | 1, hq => simp at hq; subst hq; exact h'
    | i + 2, hq => simp at hq⟩
theorem half_dv (k : List Int) (hl : k.length = 32) : dv (k.drop 16) = dv ((k.drop 16).take 8) + dv ((k.drop 24).take 8) * 18446744073709551616 := by
  have h := dv_split (l := k.drop 16) (i := 8) (by rw [List.length_drop]; omega)
  rw [List.drop_drop, show (256 : Int) ^ 8 = 18446744073709551616 by decide] at h
  rw [h, List.take_of_length_le (l := k.drop 24) (by rw [List.length_drop]; omega), Int.mul_comm]
theorem half_bd {k : List Int} (hk : By k) (i : Nat) : 0 ≤ dv ((k.drop i).take 8) ∧ dv ((k.drop i).take 8) < 18446744073709551616 := by
  have h := dv_bd ((hk.drop i).take 8)
  have h2 := pow_le' (show ((k.drop i).take 8).length ≤ 8 by rw [List.length_take]; omega)
  rw [show (256 : Int) ^ 8 = 18446744073709551616 by decide] at h2
  omega
/-- The tag of a text. -/
def tg (k : List Int) (T : List Int) : ByteArray := strOfNums (tagB (tagV (dv (clL k)) (dv (k.drop 16)) T))
theorem tg_size (k T : List Int) : (tg k T).size = 16 := by unfold tg; rw [strOfNums_size, tagB_len]
attribute [local irreducible] dv clL ac blk tagB tagV pcells
/-- A tag under way, told: of the key and the text. -/
def Poly (H : AH) (b : Nat) (k T : List Int) : Prop := ∃ r s rs o, Nm r ∧ v5 r = dv (clL k) ∧ PS r T s rs o ∧ hget H b = some ⟨pcells r s (dv ((k.drop 16).take 8)) (dv ((k.drop 24).take 8)) rs (o : Nat), 69, none⟩
theorem Poly.low {H H' : AH} {b : Nat} {k T : List Int} (h : Poly H b k T) (he : hget H' b = hget H b) : Poly H' b k T := by
  obtain ⟨r, s, rs, o, h1, h2, h3, h4⟩ := h
  exact ⟨r, s, rs, o, h1, h2, h3, by rw [he]; exact h4⟩
theorem Poly.lt {H : AH} {b : Nat} {k T : List Int} (h : Poly H b k T) : b < H.length := by
  obtain ⟨r, s, rs, o, h1, h2, h3, h4⟩ := h
  exact hget_lt h4
theorem Poly.app {H : AH} {b : Nat} {k T : List Int} (h : Poly H b k T) (L : AH) : Poly (H ++ L) b k T := h.low (hget_left h.lt)
theorem new_p {nro : Nat} {γ : Nat → Option Nat} {H : AH} {k : List Int} (hk : By k) (hlk : k.length = 32) (hn : nro ≤ H.length) : AC Try.prog nro γ 23 #[.agg (iv .u8 k).toArray] H (fun v' H' => v' = .pointer (some ⟨H.length + 2, 0, none⟩) ∧ Poly H' (H.length + 2) k [] ∧ Low H.length H H' ∧ H'.length = H.length + 3) := by
  obtain ⟨r, h1, h2, h3⟩ := new_ac hlk hk
  refine (h3 nro γ H hn).mono ?_
  rintro v' H' ⟨rfl, rfl⟩
  refine ⟨rfl, ⟨r, _, _, 0, h1, h2, PS.start r, by rw [hget_app]; rfl⟩, Low.push (Nat.le_refl _) _, by simp⟩
theorem write_p {nro : Nat} {γ : Nat → Option Nat} {H : AH} {b : Nat} {k T : List Int} (hp : Poly H b k T) (hn : nro ≤ b) (ps : List ByteArray) (v : Value) (hv : SlS H b v ps) (hlen : ps.length ≤ 4611686018427387904) :
    AC Try.prog nro γ 24 #[.pointer (some ⟨b, 0, none⟩), v] H (fun v' H' => Poly H' b k (T ++ cat ps) ∧ (∀ j, j < H.length → j ≠ b → hget H' j = hget H j) ∧ H.length ≤ H'.length) := by
  have hbl := hp.lt
  obtain ⟨r, s, rs, o, h1, h2, h3, h4⟩ := hp
  refine (write_ac h1 h3 (by omega) b hn _ h4 ps v hv hlen).mono ?_
  rintro v' H' ⟨s', rs', o', L, hP, rfl⟩
  refine ⟨⟨r, s', rs', o', h1, h2, hP, by rw [hget_left (by simp; omega), hget_set_eq hbl]⟩, fun j hj hjb => by rw [hget_left (by simp; omega), hget_set_ne (Ne.symm hjb)], by simp⟩
theorem tag_p {nro : Nat} {γ : Nat → Option Nat} {H : AH} {b : Nat} {k T : List Int} (hk : By k) (hlk : k.length = 32) (hp : Poly H b k T) (hn : nro ≤ H.length) :
    AC Try.prog nro γ 27 #[.pointer (some ⟨b, 0, none⟩)] H (fun v' H' => v' = .string (tg k T) ∧ Low H.length H H') := by
  obtain ⟨r, s, rs, o, h1, h2, h3, h4⟩ := hp
  refine (tagm_ac h1 h3 (half_bd hk 16) (half_bd hk 24) hn b _ h4).mono ?_
  rintro v' H' ⟨rfl, L, rfl⟩
  refine ⟨by unfold tg; rw [h2, half_dv k hlk], Low.push (Nat.le_refl _) _⟩
attribute [local simp] wb_bool wb_undef XL_nil XL_cons XLc_val XLc_call step1_eq stepW_t stepW_f stepC_n stepC_s stepX_s xop_eq xopR_s xopR_n wantedA_eq wantedG_n wantedG_s plain1_int plain1_bool plain1_string bits_i64 bits_u64 bits_u32 bits_u16 bits_u8 xeqA xarr allK_iv num_iv calleeOf xread xeff xbin xint xnil xun xstr xload xconv xpart xfield xfieldAddr xindexAddr xindex bnd asInt? xslice xlen xmin xmax xbuild xfill xappend xcopy xcells eval_tmp eval_const put_at put_none fr0_at cells_agg cells_int cells_bool cells_string cells_ptr cells_slice notTuple tab iv_all hget_app hget_app0 hget_cons0 hget_cons set_app set_app0 setR setR_one QL_nil QL_cons QLc_val stepQ_t stepQ_f stepQC_n stepQC_s stepQX_s SL_nil SL_cons SLc_val stepS_t stepS_f ltT ltF leT leF eqT eqF ltTn ltFn leTn leFn eqTn eqFn beqT beqF bneT bneF wi64 wu64 wu32 wu16 wu8 tmodP tdivP hgetL hgetNe hgetEq setL nums_def nums_len Nat.succ_le_of_lt List.getElem?_cons_zero List.getElem?_cons_succ Option.getD_some Int.toNat_add Int.toNat_mul agB agI agS agP agL agA okB okI okS okP okSl okA
theorem join_rc {H : AH} {γ : Nat → Option Nat} (ps : List ByteArray) (v : Value) (hv : SlR H v ps) (hs : (cat ps).length ≤ 1000000000000) (hl : ps.length ≤ 1000000000000) : AC Try.prog H.length γ 12 #[v] H (fun v' _ => v' = .string (strOfNums (cat ps))) := by
  refine ac_of_aw Try.func12 rfl Try.ntmps12 Try.results12 (by simp) ?_
  have hxl := hv.len
  refine aw_seq ?_
  (refine aw_ops (by kernel_rfl) (fun K hK => ?_); simp (disch := first | omega | (simp only [List.length_set, List.length_append, List.length_cons, List.length_nil, iv_length, zl_length]; try omega; done)) [-getElem?_pos, -getElem?_neg]; refine hK _ _ ?_; clear hK K)
  refine aw_seq ?_
  (refine aw_ops (by kernel_rfl) (fun K hK => ?_); simp (disch := first | omega | (simp only [List.length_set, List.length_append, List.length_cons, List.length_nil, iv_length, zl_length]; try omega; done)) [-getElem?_pos, -getElem?_neg]; refine hK _ _ ?_; clear hK K)
  refine aw_seq ?_
  refine aw_seq ?_
  (refine aw_ops (by kernel_rfl) (fun K hK => ?_); simp (disch := first | omega | (simp only [List.length_set, List.length_append, List.length_cons, List.length_nil, iv_length, zl_length]; try omega; done)) [-getElem?_pos, -getElem?_neg]; refine hK _ _ ?_; clear hK K)
  refine aw_block ?_
  refine aw_loop (fun q α H' => ∃ (i : Nat) (t : ByteArray), i + q = ps.length ∧ nums t ++ cat (ps.drop i) = cat ps ∧ α 4 = .int .i64 (i : Nat) ∧ α 3 = .string t ∧ α 0 = v ∧ H' = H) ps.length ?_ ?_
  · refine ⟨0, ByteArray.empty, by omega, rfl, by (first | (simp [put_at, put_none, fr0_at]; done) | rfl), by (first | (simp [put_at, put_none, fr0_at]; done) | rfl), by (first | (simp [put_at, put_none, fr0_at]; done) | rfl), rfl⟩
  rintro q α H' ⟨i, t, hi, ht, h4, h3, h0, rfl⟩
  refine aw_seq ?_
  refine aw_seq ?_
  (refine aw_ops (by kernel_rfl) (fun K hK => ?_); simp (disch := first | omega | (simp only [List.length_set, List.length_append, List.length_cons, List.length_nil, iv_length, zl_length]; try omega; done)) [-getElem?_pos, -getElem?_neg, -xlen, h4, h0, hxl]; refine hK _ _ ?_; clear hK K)
  by_cases hlt : (i : Int) < ps.length
  · refine aw_t (by (first | (simp [eval_tmp, put_at, hlt]; done) | (simp [eval_tmp, put_at, hlt]; omega))) (by kernel_rfl) ?_
    refine aw_skip ?_
    refine aw_seq ?_
    refine aw_block ?_
    have hi' : i < ps.length := by omega
    rcases hv with ⟨a, rfl, rfl⟩ | ⟨j, off, k, rfl, hj, hk⟩
    · simp at hi'
    have hki := hk i ps[i] (List.getElem?_eq_getElem hi')
    rw [List.drop_eq_getElem_cons hi'] at ht
    obtain ⟨pt, hpt⟩ : ∃ p, p = ps[i] := ⟨_, rfl⟩
    rw [← hpt] at ht hki
    have hsz : t.size + pt.size ≤ 1000000000000 := by
      have := congrArg List.length ht
      rw [show cat (pt :: ps.drop (i + 1)) = nums pt ++ cat (ps.drop (i + 1)) from rfl] at this
      simp only [List.length_append, nums_len] at this
      omega
    (refine aw_ops (by kernel_rfl) (fun K hK => ?_); simp (disch := first | omega | (simp only [List.length_set, List.length_append, List.length_cons, List.length_nil, iv_length, zl_length]; try omega; done)) [-getElem?_pos, -getElem?_neg, h3, h0, h4, hj, hki]; refine hK _ _ ?_; clear hK K)
    (refine aw_ops (by kernel_rfl) (fun K hK => ?_); simp (disch := first | omega | (simp only [List.length_set, List.length_append, List.length_cons, List.length_nil, iv_length, zl_length]; try omega; done)) [-getElem?_pos, -getElem?_neg, h4]; refine hK _ _ ?_; clear hK K)
    refine ⟨q - 1, by omega, i + 1, t ++ pt, by omega, ?_, by (first | (simp [put_at, put_none, fr0_at]; done) | rfl), by (first | (simp [put_at, put_none, fr0_at]; done) | rfl), by (first | (simp [put_at, put_none, fr0_at, h0]; done) | rfl), rfl⟩
    rw [nums_app, List.append_assoc]
    exact ht
  · refine aw_f (by (first | (simp [eval_tmp, put_at, hlt]; done) | (simp [eval_tmp, put_at, hlt]; omega))) (by kernel_rfl) ?_
    obtain rfl : i = ps.length := by omega
    refine aw_exit ?_
    refine aw_seq ?_
    have e : strOfNums (cat ps) = t := by
      rw [← ht, List.drop_of_length_le (Nat.le_refl _), show cat [] = [] from rfl, List.append_nil, of_nums']
    rw [e]
    (refine aw_ops (by kernel_rfl) (fun K hK => ?_); simp (disch := first | omega | (simp only [List.length_set, List.length_append, List.length_cons, List.length_nil, iv_length, zl_length]; try omega; done)) [-getElem?_pos, -getElem?_neg, h3]; refine hK _ _ ?_; clear hK K)
    (refine aw_ret ?_; simp [thenQ_ret, inBlockQ_ret, RQ, resL, resV, xload, tab, okD, isAggD, hget_app, hget_app0, hget_cons0, hget_cons, notTuple, put_at, put_none])
end
end Go.Proofs.Ytjfjakighnibpaa
