/-
  The law RelayKeeps, walked.
-/
import Derived.Test.YteldoimjachbbaaRm
import Derived.Test.YteldoimjachbbaaXpl
namespace Go.Proofs.Yteldoimjachbbaa
open Go Go.RowKit
set_option linter.unusedVariables false
set_option linter.unusedSimpArgs false
set_option maxRecDepth 100000
set_option maxHeartbeats 8000000
theorem any_next {l : List ByteArray} {n : Nat} {x y : ByteArray} (hy : l[n]? = some y) : ((l.take (n + 1)).any fun z => z.toList == x.toList) = ((l.take n).any (fun z => z.toList == x.toList) || y.toList == x.toList) := by
  rw [List.take_add_one, hy, List.any_append]
  simp
theorem any_all {l : List ByteArray} {x : ByteArray} (hx : x ∈ l) : ((l.take l.length).any fun z => z.toList == x.toList) = true := by
  rw [List.take_length, List.any_eq_true]
  exact ⟨x, hx, beq_self_eq_true x.toList⟩
attribute [local simp] wb_bool wb_undef XL_nil XL_cons XLc_val XLc_call step1_eq stepW_t stepW_f stepC_n stepC_s stepX_s xop_eq xopR_s xopR_n wantedA_eq wantedG_n wantedG_s plain1_int plain1_bool plain1_string bits_i64 bits_u64 bits_u32 bits_u16 bits_u8 xeqA xarr allK_iv num_iv calleeOf xread xeff xbin xint xnil xun xstr xload xconv xpart xfield xfieldAddr xindexAddr xindex bnd asInt? xslice xlen xmin xmax xbuild xfill xappend xappmk xcap xcopy xcells eval_tmp eval_const put_at put_none fr0_at cells_agg cells_int cells_bool cells_string cells_ptr cells_slice notTuple tab iv_all hget_app hget_app0 hget_cons0 hget_cons set_app set_app0 setR setR_one QL_nil QL_cons QLc_val stepQ_t stepQ_f stepQC_n stepQC_s stepQX_s SL_nil SL_cons SLc_val stepS_t stepS_f ltT ltF leT leF eqT eqF ltTn ltFn leTn leFn eqTn eqFn beqT beqF bneT bneF wi64 wu64 wu32 wu16 wu8 tmodP tdivP hgetL hgetNe hgetEq setL nums_def nums_len Nat.succ_le_of_lt List.getElem?_cons_zero List.getElem?_cons_succ Option.getD_some Int.toNat_add Int.toNat_mul agB agI agS agP agL agA okB okI okS okP okSl okA
theorem keeps_law {H : AH} {γ : Nat → Option Nat} {v : Value} {rows : List (List FD)} (hv : SlR 5 H v rows) (hok : RowsOk rows) (hlen : rows.length ≤ maxLen) :
    AC Try.prog H.length γ 5 #[v] H (fun v' _ => v' = .bool true) := by
  simp only [maxLen] at hlen
  have hno : notTuple v = true := by rcases hv with ⟨a, rfl, _⟩ | ⟨j, k, rfl, _⟩ <;> rfl
  refine ac_of_aw Try.func5 rfl Try.ntmps5 Try.results5 (by simp) ?_
  refine aw_seq ?_
  (refine aw_ops (by kernel_rfl) (fun K hK => ?_); simp (disch := first | omega | (simp only [List.length_set, List.length_append, List.length_cons, List.length_nil, iv_length, zl_length]; try omega; done)) [-getElem?_pos, -getElem?_neg]; refine hK _ _ ?_; clear hK K)
  refine aw_seq ?_
  refine aw_seq ?_
  refine aw_ops (by kernel_rfl) (fun K hK => ?_)
  simp (disch := first | omega | (simp only [List.length_set, List.length_append, List.length_cons, List.length_nil, iv_length, zl_length]; try omega; done)) [-getElem?_pos, -getElem?_neg]
  refine ⟨by kernel_rfl, ac_of_vc (by simp [pv_iv, pv_int, pv_bool, pv_string, pv_tup2, pv_tup3, iv_plain, p2_int, p2_bool, p2_string]) alive_vc ?_⟩
  simp (disch := first | omega | (simp only [List.length_set, List.length_append, List.length_cons, List.length_nil, iv_length, zl_length]; try omega; done)) [-getElem?_pos, -getElem?_neg]
  refine hK _ _ ?_; clear hK K
  refine aw_f (by (first | (simp [eval_tmp, put_at]; done) | (simp [eval_tmp, put_at]; omega))) (by kernel_rfl) ?_
  refine aw_skip ?_
  refine aw_seq ?_
  (refine aw_ops (by kernel_rfl) (fun K hK => ?_); simp (disch := first | omega | (simp only [List.length_set, List.length_append, List.length_cons, List.length_nil, iv_length, zl_length]; try omega; done)) [-getElem?_pos, -getElem?_neg]; refine hK _ _ ?_; clear hK K)
  refine aw_seq ?_
  (refine aw_ops (by kernel_rfl) (fun K hK => ?_); simp (disch := first | omega | (simp only [List.length_set, List.length_append, List.length_cons, List.length_nil, iv_length, zl_length]; try omega; done)) [-getElem?_pos, -getElem?_neg]; refine hK _ _ ?_; clear hK K)
  have hp0 := KpR.start (T := 28) (H := H) rfl rfl
  refine aw_seq ?_
  refine aw_seq ?_
  (refine aw_ops (by kernel_rfl) (fun K hK => ?_); simp (disch := first | omega | (simp only [List.length_set, List.length_append, List.length_cons, List.length_nil, iv_length, zl_length]; try omega; done)) [-getElem?_pos, -getElem?_neg]; refine hK _ _ ?_; clear hK K)
  have hxl := hv.len (P := Try.prog) (t := 22) (e := 33) (by simp)
  obtain ⟨p, hp⟩ : ∃ p, p = H.length := ⟨_, rfl⟩
  obtain ⟨mb, hmbe⟩ : ∃ mb, mb = H.length + 1 := ⟨_, rfl⟩
  refine aw_block ?_
  refine aw_loop (fun c α G' => ∃ i : Nat, i + c = rows.length ∧ i ≤ 150 ∧ α 5 = .int .i64 (i : Nat) ∧ α 0 = v ∧ α 3 = .pointer (some ⟨p, 0, none⟩) ∧ α 4 = .pointer (some ⟨mb, 0, none⟩) ∧
    ∃ L hd, LB L ∧ (∀ k, k < 8 → (hd k).length ≤ i) ∧ (∀ k, k < 8 → ∀ x ∈ L k, x ∈ hd k) ∧ Kp (fun j => j < H.length) H H.length p mb 28 G' L hd) rows.length ?_ ?_
  · refine ⟨0, by omega, by omega, by (first | (simp [put_at, put_none, fr0_at]; done) | rfl), by (first | (simp [put_at, put_none, fr0_at]; done) | rfl), by simp [put_at, hp], by simp [put_at, hmbe], eL, eL, eL_b, fun k _ => by simp [eL], fun k _ x hx => hx, ?_⟩
    rw [hp, hmbe]
    exact hp0
  clear hp0
  rintro c α G' ⟨i, hic, hi150, h5, h0, h3, h4, L, hd, hb, hdl, hin, X, Ms, Fs, hpr⟩
  refine aw_seq ?_
  refine aw_seq ?_
  by_cases hi : i < rows.length
  case neg =>
    (refine aw_ops (by kernel_rfl) (fun K hK => ?_); simp (disch := first | omega | (simp only [List.length_set, List.length_append, List.length_cons, List.length_nil, iv_length, zl_length]; try omega; done)) [-getElem?_pos, -getElem?_neg, h5, h0, -xlen, hxl, hi]; refine hK _ _ ?_; clear hK K)
    refine aw_f (by (first | (simp [eval_tmp, put_at, hi]; done) | (simp [eval_tmp, put_at, hi]; omega))) (by kernel_rfl) ?_
    refine aw_exit ?_
    refine aw_seq ?_
    refine aw_ops (by kernel_rfl) (fun K hK => ?_)
    simp (disch := first | omega | (simp only [List.length_set, List.length_append, List.length_cons, List.length_nil, iv_length, zl_length]; try omega; done)) [-getElem?_pos, -getElem?_neg]
    refine ⟨by kernel_rfl, ac_of_vc (by simp [pv_iv, pv_int, pv_bool, pv_string, pv_tup2, pv_tup3, iv_plain, p2_int, p2_bool, p2_string]) alive_vc ?_⟩
    try simp (disch := first | omega | (simp only [List.length_set, List.length_append, List.length_cons, List.length_nil, iv_length, zl_length]; try omega; done)) [-getElem?_pos, -getElem?_neg]
    refine hK _ _ ?_; clear hK K
    (refine aw_ret ?_; simp (disch := first | omega | (simp only [List.length_set, List.length_append, List.length_cons, List.length_nil, iv_length, zl_length]; try omega; done)) [-getElem?_pos, -getElem?_neg, thenQ_ret, inBlockQ_ret, RQ, resL, resV])
  by_cases hi8 : i < 150
  case neg =>
    (refine aw_ops (by kernel_rfl) (fun K hK => ?_); simp (disch := first | omega | (simp only [List.length_set, List.length_append, List.length_cons, List.length_nil, iv_length, zl_length]; try omega; done)) [-getElem?_pos, -getElem?_neg, h5, h0, -xlen, hxl, hi, hi8]; refine hK _ _ ?_; clear hK K)
    refine aw_f (by (first | (simp [eval_tmp, put_at, hi8]; done) | (simp [eval_tmp, put_at, hi8]; omega))) (by kernel_rfl) ?_
    refine aw_exit ?_
    refine aw_seq ?_
    refine aw_ops (by kernel_rfl) (fun K hK => ?_)
    simp (disch := first | omega | (simp only [List.length_set, List.length_append, List.length_cons, List.length_nil, iv_length, zl_length]; try omega; done)) [-getElem?_pos, -getElem?_neg]
    refine ⟨by kernel_rfl, ac_of_vc (by simp [pv_iv, pv_int, pv_bool, pv_string, pv_tup2, pv_tup3, iv_plain, p2_int, p2_bool, p2_string]) alive_vc ?_⟩
    try simp (disch := first | omega | (simp only [List.length_set, List.length_append, List.length_cons, List.length_nil, iv_length, zl_length]; try omega; done)) [-getElem?_pos, -getElem?_neg]
    refine hK _ _ ?_; clear hK K
    (refine aw_ret ?_; simp (disch := first | omega | (simp only [List.length_set, List.length_append, List.length_cons, List.length_nil, iv_length, zl_length]; try omega; done)) [-getElem?_pos, -getElem?_neg, thenQ_ret, inBlockQ_ret, RQ, resL, resV])
  (refine aw_ops (by kernel_rfl) (fun K hK => ?_); simp (disch := first | omega | (simp only [List.length_set, List.length_append, List.length_cons, List.length_nil, iv_length, zl_length]; try omega; done)) [-getElem?_pos, -getElem?_neg, h5, h0, -xlen, hxl, hi, hi8]; refine hK _ _ ?_; clear hK K)
  refine aw_t (by (first | (simp [eval_tmp, put_at, hi8]; done) | (simp [eval_tmp, put_at, hi8]; omega))) (by kernel_rfl) ?_
  refine aw_skip ?_
  refine aw_seq ?_
  refine aw_block ?_
  have hlow : ∀ j, j < H.length → hget G' j = hget H j := fun j hj => (hpr.st j hj).2.2
  obtain ⟨jv, kb, rfl, hjl, hkb, hkl, hrow, _, _⟩ := act_at hv hok hi
  have hgk : hget G' jv = some kb := (hlow jv hjl).trans hkb
  generalize aKind rows i = kd at *
  generalize aTo rows i = to at *
  generalize aI rows i = ai at *
  generalize aK rows i = ak at *
  generalize aTx rows i = s at *
  have hgl : H.length ≤ G'.length := hpr.len
  refine aw_seq ?_
  (refine aw_ops (by kernel_rfl) (fun K hK => ?_); simp (disch := first | omega | (simp only [List.length_set, List.length_append, List.length_cons, List.length_nil, iv_length, zl_length]; try omega; done)) [-getElem?_pos, -getElem?_neg, h5, h0, hgk, hrow, plain_nil, hgl]; refine hK _ _ ?_; clear hK K)
  have hm := hpr.more (some ⟨[.int .i64 kd, .int .i64 to, .int .i64 ai, .int .i64 ak, .string s], 33, none⟩)
  obtain ⟨a8, ha8⟩ : ∃ a8, a8 = G'.length := ⟨_, rfl⟩
  have hga8 : hget (G' ++ [some ⟨[.int .i64 kd, .int .i64 to, .int .i64 ai, .int .i64 ak, .string s], 33, none⟩]) a8 = some ⟨[.int .i64 kd, .int .i64 to, .int .i64 ai, .int .i64 ak, .string s], 33, none⟩ := by
    rw [ha8, hget_app0]; rfl
  rw [← ha8] at hm
  have hlowG : ∀ j, j < H.length → hget (G' ++ [some ⟨[.int .i64 kd, .int .i64 to, .int .i64 ai, .int .i64 ak, .string s], 33, none⟩]) j = hget H j := fun j hj => (hget_left (by omega)).trans (hlow j hj)
  generalize hG1 : G' ++ [some ⟨[.int .i64 kd, .int .i64 to, .int .i64 ai, .int .i64 ak, .string s], 33, none⟩] = G1 at *
  have back : ∀ {G2 : AH} {L' hd' : Nat → List ByteArray}, Kp (fun j => j < H.length ∨ j = a8) G1 H.length p mb 28 G2 L' hd' → Kp (fun j => j < H.length) H H.length p mb 28 G2 L' hd' := fun ⟨X, Ms, Fs, h⟩ => ⟨X, Ms, Fs, h.less (fun j hj => ⟨.inl hj, hlowG j hj⟩)⟩
  refine aw_seq ?_
  refine aw_seq ?_
  by_cases hlong : 1000 < s.size
  · (refine aw_ops (by kernel_rfl) (fun K hK => ?_); simp (disch := first | omega | (simp only [List.length_set, List.length_append, List.length_cons, List.length_nil, iv_length, zl_length]; try omega; done)) [-getElem?_pos, -getElem?_neg, ← ha8, hga8, hlong]; refine hK _ _ ?_; clear hK K)
    refine aw_t (by (first | (simp [eval_tmp, put_at, hlong]; done) | (simp [eval_tmp, put_at, hlong]; omega))) (by kernel_rfl) ?_
    refine aw_exit ?_
    (refine aw_ops (by kernel_rfl) (fun K hK => ?_); simp (disch := first | omega | (simp only [List.length_set, List.length_append, List.length_cons, List.length_nil, iv_length, zl_length]; try omega; done)) [-getElem?_pos, -getElem?_neg, h5]; refine hK _ _ ?_; clear hK K)
    exact ⟨c - 1, by omega, i + 1, by omega, by omega, by (first | (simp [put_at, put_none, fr0_at]; done) | rfl), by (first | (simp [put_at, put_none, fr0_at, h0]; done) | rfl), by (first | (simp [put_at, put_none, fr0_at, h3]; done) | rfl), by (first | (simp [put_at, put_none, fr0_at, h4]; done) | rfl), L, hd, hb, fun k hk => by have := hdl k hk; omega, hin, back ⟨_, _, _, hm⟩⟩
  (refine aw_ops (by kernel_rfl) (fun K hK => ?_); simp (disch := first | omega | (simp only [List.length_set, List.length_append, List.length_cons, List.length_nil, iv_length, zl_length]; try omega; done)) [-getElem?_pos, -getElem?_neg, ← ha8, hga8, hlong]; refine hK _ _ ?_; clear hK K)
  refine aw_f (by (first | (simp [eval_tmp, put_at, hlong]; done) | (simp [eval_tmp, put_at, hlong]; omega))) (by kernel_rfl) ?_
  refine aw_skip ?_
  refine aw_seq ?_
  have hlo1 : H.length ≤ p := (hm.hX p hm.px).2
  refine aw_ops (by kernel_rfl) (fun K hK => ?_)
  simp (disch := first | omega | (simp only [List.length_set, List.length_append, List.length_cons, List.length_nil, iv_length, zl_length]; try omega; done)) [-getElem?_pos, -getElem?_neg, h3, hga8]
  refine ⟨by kernel_rfl, (do_ac hm.r hb hlo1 hm.len (fun j hj => (hm.hX j hj).1)).mono ?_⟩
  rintro _ G2 ⟨rfl, h2r, hf2⟩
  try simp (disch := first | omega | (simp only [List.length_set, List.length_append, List.length_cons, List.length_nil, iv_length, zl_length]; try omega; done)) [-getElem?_pos, -getElem?_neg]
  refine hK _ _ ?_; clear hK K
  have hm2 := hm.step h2r hf2
  have hga2 : hget G2 a8 = _ := ((hm2.st a8 (.inr rfl)).2.2).trans hga8
  refine aw_seq ?_
  refine aw_cut (fun α G3 => ∃ hd', (∀ k, k < 8 → (hd' k).length ≤ i + 1) ∧ (∀ k, k < 8 → ∀ x ∈ doL L (kd.tmod 5) to ai ak s k, x ∈ hd' k) ∧ Kp (fun j => j < H.length ∨ j = a8) G1 H.length p mb 28 G3 (doL L (kd.tmod 5) to ai ak s) hd' ∧ α 5 = .int .i64 (i : Nat) ∧ α 0 = .slice (some ⟨jv, 0, none⟩) rows.length rows.length ∧ α 3 = .pointer (some ⟨p, 0, none⟩) ∧ α 4 = .pointer (some ⟨mb, 0, none⟩)) ?_ ?_
  · have hsame : ¬ (kd.tmod 5 = 0 ∧ memB to = true) → ∀ k, k < 8 → ∀ x ∈ doL L (kd.tmod 5) to ai ak s k, x ∈ hd k := fun hne k hk x hx => by
      rcases do_in hx with h | ⟨h1, h2, _⟩
      · exact hin k hk x h
      · exact absurd ⟨h1, h2⟩ hne
    refine aw_seq ?_
    generalize hkk : kd.tmod 5 = k5 at *
    by_cases k0 : k5 = 0
    case neg =>
      (refine aw_ops (by kernel_rfl) (fun K hK => ?_); simp (disch := first | omega | (simp only [List.length_set, List.length_append, List.length_cons, List.length_nil, iv_length, zl_length]; try omega; done)) [-getElem?_pos, -getElem?_neg, ← ha8, hga2, -tmodP, hkk, k0]; refine hK _ _ ?_; clear hK K)
      refine aw_f (by (first | (simp [eval_tmp, put_at]; done) | (simp [eval_tmp, put_at]; omega))) (by kernel_rfl) ?_
      refine aw_skip ?_
      exact ⟨hd, fun k hk => by have := hdl k hk; omega, hsame (fun h => k0 h.1), ⟨_, _, _, hm2⟩, by (first | (simp [put_at, put_none, fr0_at, h5]; done) | rfl), by (first | (simp [put_at, put_none, fr0_at, h0]; done) | rfl), by (first | (simp [put_at, put_none, fr0_at, h3]; done) | rfl), by (first | (simp [put_at, put_none, fr0_at, h4]; done) | rfl)⟩
    subst k0
    cases hmm : memB to with
    | false =>
      have he : doE L 0 to ai ak = 1 := by simp [doE, postE, hmm]
      (refine aw_ops (by kernel_rfl) (fun K hK => ?_); simp (disch := first | omega | (simp only [List.length_set, List.length_append, List.length_cons, List.length_nil, iv_length, zl_length]; try omega; done)) [-getElem?_pos, -getElem?_neg, ← ha8, hga2, -tmodP, hkk, he]; refine hK _ _ ?_; clear hK K)
      refine aw_f (by (first | (simp [eval_tmp, put_at]; done) | (simp [eval_tmp, put_at]; omega))) (by kernel_rfl) ?_
      refine aw_skip ?_
      exact ⟨hd, fun k hk => by have := hdl k hk; omega, hsame (fun h => by rw [hmm] at h; cases h.2), ⟨_, _, _, hm2⟩, by (first | (simp [put_at, put_none, fr0_at, h5]; done) | rfl), by (first | (simp [put_at, put_none, fr0_at, h0]; done) | rfl), by (first | (simp [put_at, put_none, fr0_at, h3]; done) | rfl), by (first | (simp [put_at, put_none, fr0_at, h4]; done) | rfl)⟩
    | true =>
      obtain ⟨k, hk, rfl⟩ := mem_nat hmm
      have he : doE L 0 (k : Nat) ai ak = 0 := by simp [doE, postE, hmm]
      have hpost : doL L 0 (k : Nat) ai ak s = postL L (k : Nat) s := by simp [doL]
      (refine aw_ops (by kernel_rfl) (fun K hK => ?_); simp (disch := first | omega | (simp only [List.length_set, List.length_append, List.length_cons, List.length_nil, iv_length, zl_length]; try omega; done)) [-getElem?_pos, -getElem?_neg, ← ha8, hga2, -tmodP, hkk, he]; refine hK _ _ ?_; clear hK K)
      refine aw_t (by (first | (simp [eval_tmp, put_at]; done) | (simp [eval_tmp, put_at]; omega))) (by kernel_rfl) ?_
      refine aw_seq ?_
      rw [hpost] at hm2 ⊢
      have hb2 : LB (postL L (k : Nat) s) := postL_b hb
      obtain ⟨hlast0, hlast⟩ := post_last (s := s) hk hb
      have hpin : ∀ k', k' < 8 → ∀ x ∈ postL L (k : Nat) s k', x ∈ upd hd k (hd k ++ [s]) k' := fun k' hk' x hx => by
        by_cases e : k' = k
        · subst e
          rw [upd_self, List.mem_append]
          rcases post_in hx with h | ⟨_, _, h⟩
          · exact .inl (hin k' hk' x h)
          · exact .inr (by simp [h])
        · rw [upd_ne _ _ e]
          rcases post_in hx with h | ⟨_, h, _⟩
          · exact hin k' hk' x h
          · exact absurd (by simpa using h) e
      generalize postL L (k : Nat) s = L2 at *
      have hcells := hm2.m.cells
      have hmbl := (hm2.hX mb hm2.xm).1
      have hlen0 := hm2.len
      have hdk := hdl k hk
      obtain ⟨cs, hcs⟩ : ∃ cs, cs = (List.range 8).map Ms := ⟨_, rfl⟩
      have hcl : cs.length = 8 := by rw [hcs]; simp
      have hck : cs[k]? = some (Ms k) := by rw [hcs, List.getElem?_map, List.getElem?_range hk]; rfl
      obtain ⟨B, hB⟩ : ∃ B, B = (some ⟨[.string s], 9, some 1⟩ : Option Blk) := ⟨_, rfl⟩
      obtain ⟨v2, G7, hap, hown, hlen2, hkeep2⟩ := ownF_append (P := Try.prog) (nro := H.length) (t := 25) (e := 9) (H := G2 ++ [B]) (v := Ms k) (x := .slice (some ⟨G2.length, 0, none⟩) 1 1) (sz := 1)
          (cells := ss (hd k)) (news := [.string s]) (F := Fs k) (by simp) (by simp) (by omega) (by simp) ((hm2.m.own k hk).low (fun j hj => by rw [hget_left ((hm2.m.own k hk).lt j hj)]))
          (fun j hj => (hm2.hX j (hm2.xf k hk j hj)).2) (fun s e => by cases e) (by simp [xcells, hB]) (by simp) (by simp) (by simp; omega) (by simp [maxLen]; omega)
      have hgl1 : (G2 ++ [B]).length = G2.length + 1 := by simp
      rw [hgl1] at hown hlen2
      have hkeep3 : ∀ j, j < G2.length → j ∉ Fs k → hget G7 j = hget G2 j := fun j hj hn => by
        rw [hkeep2 j (by omega) hn, hget_left hj]
      have hc7 : hget G7 mb = _ := (hkeep3 mb hmbl (hm2.m.mb k hk)).trans hcells
      obtain ⟨len2, rfl⟩ := hown.new
      have hset := range8_set Ms k (.slice (some ⟨G2.length + 1, 0, none⟩) len2 len2)
      rw [← hcs] at hset hcells hc7
      have hput := hm2.put (k := k) hk (b := G2.length + 1) (G' := G7) (by omega) hkeep3 (by omega) (by omega) (l := hd k ++ [s]) (by simpa [ss] using hown)
      have hnm : notTuple (Ms k) = true := by rcases hm2.m.own k hk with ⟨e, _⟩ | ⟨j, len, e, _⟩ <;> rw [e] <;> rfl
      subst hB
      have hmb7 := hget_lt hc7
      generalize Ms k = w0 at *
      have hga7 : hget G7 a8 = _ := (hkeep3 a8 (hm2.st a8 (.inr rfl)).1 (fun hm => (hm2.st a8 (.inr rfl)).2.1 (hm2.xf k hk a8 hm))).trans hga2
      have hga2b : hget (G2 ++ [some ⟨[.string s], 9, some 1⟩]) a8 = _ := (hget_left (hm2.st a8 (.inr rfl)).1).trans hga2
      refine aw_cut (fun α G8 => G8 = G7.set mb (some ⟨(List.range 8).map (upd Ms k (.slice (some ⟨G2.length + 1, 0, none⟩) len2 len2)), 26, none⟩) ∧ α 5 = .int .i64 (i : Nat) ∧ α 0 = .slice (some ⟨jv, 0, none⟩) rows.length rows.length ∧ α 3 = .pointer (some ⟨p, 0, none⟩) ∧ α 4 = .pointer (some ⟨mb, 0, none⟩) ∧ α 6 = .pointer (some ⟨a8, 0, none⟩)) ?_ ?_
      · (refine aw_planL [] [0, 1, 2, 3, 4, 5, 6, 7, 8] [0, 1] 3 [([], [], [[9, 10, 11]]), ([0], [51], [[0, 9, 10, 11], [9, 0, 10, 11]]), ([1], [52], [[1, 9, 10, 11], [9, 1, 10, 11]]), ([0, 1], [51, 52], [[0, 1, 9, 10, 11], [0, 9, 1, 10, 11], [9, 0, 1, 10, 11]])] (by kernel_rfl) (by kernel_rfl) (by kernel_rfl) (fun K hK => ?_)); simp only [sel, List.getElem?_cons_succ, List.getElem?_cons_zero]; simp (disch := first | omega | (simp only [List.length_set, List.length_append, List.length_cons, List.length_nil, iv_length, zl_length]; try omega; done)) [-getElem?_pos, -getElem?_neg, -xappend, hap, h4, ← ha8, hga2, hga2b, hga7, hcells, hc7, hcl, hck, hk, hset, hnm, PL_nil, PL_cons, PLc_val, PLc_new, stepP_t, stepP_f, stepPC_n, stepPC_s, stepPX_s, stepPX_n, stepPA_t, stepPA_c, stepPA_l, stepPN_s, allocOp, reloc_sl, reloc_ptr, List.map_cons, List.map_nil, List.nil_append, List.append_assoc, List.cons_append, Nat.add_assoc]
        simp only [List.mem_cons, List.not_mem_nil, or_false, forall_eq_or_imp, forall_eq, sel, List.getElem?_cons_succ, List.getElem?_cons_zero]; simp (disch := first | omega | (simp only [List.length_set, List.length_append, List.length_cons, List.length_nil, iv_length, zl_length]; try omega; done)) [-getElem?_pos, -getElem?_neg, -xappend, hap, h4, ← ha8, hga2, hga2b, hga7, hcells, hc7, hcl, hck, hk, hset, hnm, mixF_at, mixF_nil, List.contains_cons, List.contains_nil]
        repeat' (first | apply And.intro | refine hK _ _ ?_)
        all_goals clear hK K
        all_goals first | rfl | (simp [put_at, h5, h0, h3, h4, ← ha8, mixF_at, List.contains_cons]; done)
      clear h5 h0 h3 h4
      rintro α G8 ⟨hG8, h5, h0, h3, h4, h6⟩
      rw [← hG8] at hput
      have hga8' : hget G8 a8 = _ := ((hput.st a8 (.inr rfl)).2.2).trans hga8
      refine aw_seq ?_
      refine aw_ops (by kernel_rfl) (fun K hK => ?_)
      simp (disch := first | omega | (simp only [List.length_set, List.length_append, List.length_cons, List.length_nil, iv_length, zl_length]; try omega; done)) [-getElem?_pos, -getElem?_neg, h3, h6, hga8']
      refine ⟨by kernel_rfl, (mail_ac hput.r hb2 hput.len).mono ?_⟩
      rintro v9 G9 ⟨g1, g2, g3⟩
      have hnt := g1.nt
      try simp (disch := first | omega | (simp only [List.length_set, List.length_append, List.length_cons, List.length_nil, iv_length, zl_length]; try omega; done)) [-getElem?_pos, -getElem?_neg]
      refine hK _ _ ?_; clear hK K
      have hm9 := hput.ext g2 g3
      have hml : mailL L2 (k : Nat) = L2 k := by simp [mailL, hmm]
      rw [hml] at g1
      have hga9 : hget G9 a8 = _ := ((hm9.st a8 (.inr rfl)).2.2).trans hga8
      have hlk2 := hb2 k hk
      obtain ⟨jx, ox, cx, csx, tx, ex, rfl, hjx, hcx⟩ := part_at (j := 0) g1 hlast
      obtain ⟨n, hn⟩ : ∃ n, (L2 k).length = n + 1 := ⟨(L2 k).length - 1, by omega⟩
      rw [hn] at hcx hlk2 hnt ⊢
      rw [Nat.add_sub_cancel] at hcx
      have hne0 : ¬ n + 1 = 0 := by omega
      refine aw_seq ?_
      (refine aw_quiet (by kernel_rfl) (by kernel_rfl) (by kernel_rfl) (fun K hK => ?_); simp (disch := first | omega | (simp only [List.length_set, List.length_append, List.length_cons, List.length_nil, iv_length, zl_length]; try omega; done)) [-getElem?_pos, -getElem?_neg, h6, hga9, hjx, hcx, hne0, bne_self_eq_false]; refine hK _ ?_; clear hK K)
      refine aw_f (by (first | (simp [eval_tmp, put_at]; done) | (simp [eval_tmp, put_at]; omega))) (by kernel_rfl) ?_
      refine aw_skip ?_
      exact ⟨upd hd k (hd k ++ [s]), fun k' hk' => by
        by_cases e : k' = k
        · subst e; rw [upd_self, List.length_append]; simp; omega
        · rw [upd_ne _ _ e]; have := hdl k' hk'; omega, hpin, ⟨_, _, _, hm9⟩, by (first | (simp [put_at, put_none, fr0_at, h5]; done) | rfl), by (first | (simp [put_at, put_none, fr0_at, h0]; done) | rfl), by (first | (simp [put_at, put_none, fr0_at, h3]; done) | rfl), by (first | (simp [put_at, put_none, fr0_at, h4]; done) | rfl)⟩
  clear h0 h5 h3 h4
  have hb3 : LB (doL L (kd.tmod 5) to ai ak s) := doL_b hb
  generalize doL L (kd.tmod 5) to ai ak s = L3 at *
  rintro α G3 ⟨hd3, hdl3, hin3, ⟨X3, Ms3, Fs3, hm3⟩, h5, h0, h3, h4⟩
  refine aw_seq ?_
  (refine aw_ops (by kernel_rfl) (fun K hK => ?_); simp (disch := first | omega | (simp only [List.length_set, List.length_append, List.length_cons, List.length_nil, iv_length, zl_length]; try omega; done)) [-getElem?_pos, -getElem?_neg]; refine hK _ _ ?_; clear hK K)
  refine aw_block ?_
  refine aw_loop (fun c α G4 => ∃ k : Nat, k + c = 8 ∧ α 10 = .int .i64 (k : Nat) ∧ Kp (fun j => j < H.length ∨ j = a8) G1 H.length p mb 28 G4 L3 hd3 ∧ α 5 = .int .i64 (i : Nat) ∧ α 0 = .slice (some ⟨jv, 0, none⟩) rows.length rows.length ∧ α 3 = .pointer (some ⟨p, 0, none⟩) ∧ α 4 = .pointer (some ⟨mb, 0, none⟩)) 8 ?_ ?_
  · exact ⟨0, by omega, by (first | (simp [put_at, put_none, fr0_at]; done) | rfl), ⟨_, _, _, hm3⟩, by (first | (simp [put_at, put_none, fr0_at, h5]; done) | rfl), by (first | (simp [put_at, put_none, fr0_at, h0]; done) | rfl), by (first | (simp [put_at, put_none, fr0_at, h3]; done) | rfl), by (first | (simp [put_at, put_none, fr0_at, h4]; done) | rfl)⟩
  clear hm3 h5 h0 h3 h4
  rintro c2 α G4 ⟨k, hkc, h10, ⟨X4, Ms4, Fs4, hm4⟩, h5, h0, h3, h4⟩
  refine aw_seq ?_
  refine aw_seq ?_
  by_cases hk : k < 8
  case neg =>
    (refine aw_ops (by kernel_rfl) (fun K hK => ?_); simp (disch := first | omega | (simp only [List.length_set, List.length_append, List.length_cons, List.length_nil, iv_length, zl_length]; try omega; done)) [-getElem?_pos, -getElem?_neg, h10, hk]; refine hK _ _ ?_; clear hK K)
    refine aw_f (by (first | (simp [eval_tmp, put_at, hk]; done) | (simp [eval_tmp, put_at, hk]; omega))) (by kernel_rfl) ?_
    refine aw_exit ?_
    (refine aw_ops (by kernel_rfl) (fun K hK => ?_); simp (disch := first | omega | (simp only [List.length_set, List.length_append, List.length_cons, List.length_nil, iv_length, zl_length]; try omega; done)) [-getElem?_pos, -getElem?_neg, h5]; refine hK _ _ ?_; clear hK K)
    exact ⟨c - 1, by omega, i + 1, by omega, by omega, by (first | (simp [put_at, put_none, fr0_at]; done) | rfl), by (first | (simp [put_at, put_none, fr0_at, h0]; done) | rfl), by (first | (simp [put_at, put_none, fr0_at, h3]; done) | rfl), by (first | (simp [put_at, put_none, fr0_at, h4]; done) | rfl), L3, hd3, hb3, hdl3, hin3, back ⟨_, _, _, hm4⟩⟩
  (refine aw_ops (by kernel_rfl) (fun K hK => ?_); simp (disch := first | omega | (simp only [List.length_set, List.length_append, List.length_cons, List.length_nil, iv_length, zl_length]; try omega; done)) [-getElem?_pos, -getElem?_neg, h10, hk]; refine hK _ _ ?_; clear hK K)
  refine aw_t (by (first | (simp [eval_tmp, put_at, hk]; done) | (simp [eval_tmp, put_at, hk]; omega))) (by kernel_rfl) ?_
  refine aw_skip ?_
  refine aw_seq ?_
  refine aw_block ?_
  refine aw_seq ?_
  refine aw_ops (by kernel_rfl) (fun K hK => ?_)
  simp (disch := first | omega | (simp only [List.length_set, List.length_append, List.length_cons, List.length_nil, iv_length, zl_length]; try omega; done)) [-getElem?_pos, -getElem?_neg, h3, h10]
  refine ⟨by kernel_rfl, (mail_ac hm4.r hb3 hm4.len).mono ?_⟩
  rintro v11 G5 ⟨g1, g2, g3⟩
  have hnt := g1.nt
  try simp (disch := first | omega | (simp only [List.length_set, List.length_append, List.length_cons, List.length_nil, iv_length, zl_length]; try omega; done)) [-getElem?_pos, -getElem?_neg]
  refine hK _ _ ?_; clear hK K
  have hm5 := hm4.ext g2 g3
  have hml : mailL L3 (k : Nat) = L3 k := by simp [mailL, memB_nat hk]
  rw [hml] at g1
  have hlk := hb3 k hk
  have hl11 := g1.len (P := Try.prog) (t := 25) (e := 9) (by simp)
  rw [ss_len] at hl11
  have hink := hin3 k hk
  have hdk := hdl3 k hk
  have hcells := hm5.m.cells
  have hck : ((List.range 8).map Ms4)[k]? = some (Ms4 k) := by rw [List.getElem?_map, List.getElem?_range hk]; rfl
  obtain ⟨cs, hcs⟩ : ∃ cs, cs = (List.range 8).map Ms4 := ⟨_, rfl⟩
  rw [← hcs] at hck hcells
  have hcl : cs.length = 8 := by rw [hcs]; simp
  have hown := hm5.m.own k hk
  have hlnk := hown.len (P := Try.prog) (t := 25) (by simp) (n := (hd3 k).length) (by rw [ss_len]; omega) (by omega)
  have hnk : notTuple (Ms4 k) = true := by rcases hown with ⟨e, _⟩ | ⟨j, len, e, _⟩ <;> rw [e] <;> rfl
  have hkp : Kp (fun j => j < H.length ∨ j = a8) G1 H.length p mb 28 G5 L3 hd3 := ⟨_, _, _, hm5⟩
  clear hm5 hm4
  generalize L3 k = l at *
  generalize hd3 k = hl at *
  generalize Ms4 k = wk at *
  refine aw_seq ?_
  refine aw_seq ?_
  (refine aw_ops (by kernel_rfl) (fun K hK => ?_); simp (disch := first | omega | (simp only [List.length_set, List.length_append, List.length_cons, List.length_nil, iv_length, zl_length]; try omega; done)) [-getElem?_pos, -getElem?_neg, -xlen, hl11]; refine hK _ _ ?_; clear hK K)
  refine aw_f (by (first | (simp [eval_tmp, put_at]; done) | (simp [eval_tmp, put_at]; omega))) (by kernel_rfl) ?_
  refine aw_skip ?_
  refine aw_seq ?_
  (refine aw_ops (by kernel_rfl) (fun K hK => ?_); simp (disch := first | omega | (simp only [List.length_set, List.length_append, List.length_cons, List.length_nil, iv_length, zl_length]; try omega; done)) [-getElem?_pos, -getElem?_neg]; refine hK _ _ ?_; clear hK K)
  refine aw_block ?_
  refine aw_loop (fun c α G6 => ∃ t : Nat, t + c = l.length ∧ α 12 = .int .i64 (t : Nat) ∧ α 11 = v11 ∧ α 10 = .int .i64 (k : Nat) ∧ G6 = G5 ∧ α 5 = .int .i64 (i : Nat) ∧ α 0 = .slice (some ⟨jv, 0, none⟩) rows.length rows.length ∧ α 3 = .pointer (some ⟨p, 0, none⟩) ∧ α 4 = .pointer (some ⟨mb, 0, none⟩)) l.length ?_ ?_
  · exact ⟨0, by omega, by (first | (simp [put_at, put_none, fr0_at]; done) | rfl), by (first | (simp [put_at, put_none, fr0_at]; done) | rfl), by (first | (simp [put_at, put_none, fr0_at, h10]; done) | rfl), rfl, by (first | (simp [put_at, put_none, fr0_at, h5]; done) | rfl), by (first | (simp [put_at, put_none, fr0_at, h0]; done) | rfl), by (first | (simp [put_at, put_none, fr0_at, h3]; done) | rfl), by (first | (simp [put_at, put_none, fr0_at, h4]; done) | rfl)⟩
  clear h10 h5 h0 h3 h4
  rintro c3 α G6 ⟨t, htc, h12, h11, h10, rfl, h5, h0, h3, h4⟩
  refine aw_seq ?_
  refine aw_seq ?_
  by_cases ht : t < l.length
  case neg =>
    (refine aw_ops (by kernel_rfl) (fun K hK => ?_); simp (disch := first | omega | (simp only [List.length_set, List.length_append, List.length_cons, List.length_nil, iv_length, zl_length]; try omega; done)) [-getElem?_pos, -getElem?_neg, h12, h11, -xlen, hl11, ht]; refine hK _ _ ?_; clear hK K)
    refine aw_f (by (first | (simp [eval_tmp, put_at, ht]; done) | (simp [eval_tmp, put_at, ht]; omega))) (by kernel_rfl) ?_
    refine aw_exit ?_
    (refine aw_ops (by kernel_rfl) (fun K hK => ?_); simp (disch := first | omega | (simp only [List.length_set, List.length_append, List.length_cons, List.length_nil, iv_length, zl_length]; try omega; done)) [-getElem?_pos, -getElem?_neg, h10]; refine hK _ _ ?_; clear hK K)
    exact ⟨c2 - 1, by omega, k + 1, by omega, by (first | (simp [put_at, put_none, fr0_at]; done) | rfl), hkp, by (first | (simp [put_at, put_none, fr0_at, h5]; done) | rfl), by (first | (simp [put_at, put_none, fr0_at, h0]; done) | rfl), by (first | (simp [put_at, put_none, fr0_at, h3]; done) | rfl), by (first | (simp [put_at, put_none, fr0_at, h4]; done) | rfl)⟩
  (refine aw_ops (by kernel_rfl) (fun K hK => ?_); simp (disch := first | omega | (simp only [List.length_set, List.length_append, List.length_cons, List.length_nil, iv_length, zl_length]; try omega; done)) [-getElem?_pos, -getElem?_neg, h12, h11, -xlen, hl11, ht]; refine hK _ _ ?_; clear hK K)
  refine aw_t (by (first | (simp [eval_tmp, put_at, ht]; done) | (simp [eval_tmp, put_at, ht]; omega))) (by kernel_rfl) ?_
  refine aw_skip ?_
  refine aw_seq ?_
  refine aw_block ?_
  obtain ⟨x, hx⟩ : ∃ x, l[t]? = some x := ⟨_, List.getElem?_eq_getElem ht⟩
  have hxin : x ∈ hl := hink x (List.mem_of_getElem? hx)
  refine aw_seq ?_
  (refine aw_ops (by kernel_rfl) (fun K hK => ?_); simp (disch := first | omega | (simp only [List.length_set, List.length_append, List.length_cons, List.length_nil, iv_length, zl_length]; try omega; done)) [-getElem?_pos, -getElem?_neg]; refine hK _ _ ?_; clear hK K)
  refine aw_seq ?_
  refine aw_seq ?_
  (refine aw_ops (by kernel_rfl) (fun K hK => ?_); simp (disch := first | omega | (simp only [List.length_set, List.length_append, List.length_cons, List.length_nil, iv_length, zl_length]; try omega; done)) [-getElem?_pos, -getElem?_neg]; refine hK _ _ ?_; clear hK K)
  refine aw_cut (fun α G7 => G7 = G6 ∧ α 13 = .bool true ∧ α 12 = .int .i64 (t : Nat) ∧ α 11 = v11 ∧ α 10 = .int .i64 (k : Nat) ∧ α 5 = .int .i64 (i : Nat) ∧ α 0 = .slice (some ⟨jv, 0, none⟩) rows.length rows.length ∧ α 3 = .pointer (some ⟨p, 0, none⟩) ∧ α 4 = .pointer (some ⟨mb, 0, none⟩)) ?_ ?_
  · refine aw_block ?_
    refine aw_loop (fun c α G7 => ∃ n : Nat, n + c = hl.length ∧ α 14 = .int .i64 (n : Nat) ∧ α 13 = .bool ((hl.take n).any fun z => z.toList == x.toList) ∧ G7 = G6 ∧ α 12 = .int .i64 (t : Nat) ∧ α 11 = v11 ∧ α 10 = .int .i64 (k : Nat) ∧ α 5 = .int .i64 (i : Nat) ∧ α 0 = .slice (some ⟨jv, 0, none⟩) rows.length rows.length ∧ α 3 = .pointer (some ⟨p, 0, none⟩) ∧ α 4 = .pointer (some ⟨mb, 0, none⟩)) hl.length ?_ ?_
    · exact ⟨0, by omega, by (first | (simp [put_at, put_none, fr0_at]; done) | rfl), by simp [put_at], rfl, by (first | (simp [put_at, put_none, fr0_at, h12]; done) | rfl), by (first | (simp [put_at, put_none, fr0_at, h11]; done) | rfl), by (first | (simp [put_at, put_none, fr0_at, h10]; done) | rfl), by (first | (simp [put_at, put_none, fr0_at, h5]; done) | rfl), by (first | (simp [put_at, put_none, fr0_at, h0]; done) | rfl), by (first | (simp [put_at, put_none, fr0_at, h3]; done) | rfl), by (first | (simp [put_at, put_none, fr0_at, h4]; done) | rfl)⟩
    clear h12 h11 h10 h5 h0 h3 h4
    rintro c4 α G7 ⟨n, hnc, h14, h13, rfl, h12, h11, h10, h5, h0, h3, h4⟩
    refine aw_seq ?_
    refine aw_seq ?_
    by_cases hn : n < hl.length
    case neg =>
      obtain rfl : n = hl.length := by omega
      rw [any_all hxin] at h13
      (refine aw_ops (by kernel_rfl) (fun K hK => ?_); simp (disch := first | omega | (simp only [List.length_set, List.length_append, List.length_cons, List.length_nil, iv_length, zl_length]; try omega; done)) [-getElem?_pos, -getElem?_neg, h14, h10, h4, hcells, hck, hcl, hk, -xlen, hlnk, hnk]; refine hK _ _ ?_; clear hK K)
      refine aw_f (by (first | (simp [eval_tmp, put_at, hn]; done) | (simp [eval_tmp, put_at, hn]; omega))) (by kernel_rfl) ?_
      refine aw_exit ?_
      exact ⟨rfl, by (first | (simp [put_at, put_none, fr0_at, h13]; done) | rfl), by (first | (simp [put_at, put_none, fr0_at, h12]; done) | rfl), by (first | (simp [put_at, put_none, fr0_at, h11]; done) | rfl), by (first | (simp [put_at, put_none, fr0_at, h10]; done) | rfl), by (first | (simp [put_at, put_none, fr0_at, h5]; done) | rfl), by (first | (simp [put_at, put_none, fr0_at, h0]; done) | rfl), by (first | (simp [put_at, put_none, fr0_at, h3]; done) | rfl), by (first | (simp [put_at, put_none, fr0_at, h4]; done) | rfl)⟩
    obtain ⟨y, hy⟩ : ∃ y, hl[n]? = some y := ⟨_, List.getElem?_eq_getElem hn⟩
    have hyc : (ss hl)[n]? = some (.string y) := by simp [ss, hy]
    (refine aw_ops (by kernel_rfl) (fun K hK => ?_); simp (disch := first | omega | (simp only [List.length_set, List.length_append, List.length_cons, List.length_nil, iv_length, zl_length]; try omega; done)) [-getElem?_pos, -getElem?_neg, h14, h10, h4, hcells, hck, hcl, hk, -xlen, hlnk, hnk, hn]; refine hK _ _ ?_; clear hK K)
    refine aw_t (by (first | (simp [eval_tmp, put_at, hn]; done) | (simp [eval_tmp, put_at, hn]; omega))) (by kernel_rfl) ?_
    refine aw_skip ?_
    refine aw_seq ?_
    refine aw_block ?_
    have hnext := any_next (x := x) hy
    rcases hown with ⟨_, h, _⟩ | ⟨jo, len, rfl, hgo, hle, hF⟩
    · exfalso
      have := congrArg List.length h
      rw [ss_len, List.length_nil] at this
      omega
    obtain rfl : len = hl.length := by rw [ss_len] at hle; omega
    obtain ⟨jx, ox, cx, csx, tx, ex, rfl, hjx, hcx⟩ := part_at (j := 0) g1 hx
    cases hb2 : (hl.take n).any fun z => z.toList == x.toList with
    | true =>
      rw [hb2] at h13 hnext
      (refine aw_quiet (by kernel_rfl) (by kernel_rfl) (by kernel_rfl) (fun K hK => ?_); simp (disch := first | omega | (simp only [List.length_set, List.length_append, List.length_cons, List.length_nil, iv_length, zl_length]; try omega; done)) [-getElem?_pos, -getElem?_neg, h13, h14, h10, h4, h11, h12]; refine hK _ ?_; clear hK K)
      (refine aw_ops (by kernel_rfl) (fun K hK => ?_); simp (disch := first | omega | (simp only [List.length_set, List.length_append, List.length_cons, List.length_nil, iv_length, zl_length]; try omega; done)) [-getElem?_pos, -getElem?_neg, h14]; refine hK _ _ ?_; clear hK K)
      exact ⟨c4 - 1, by omega, n + 1, by omega, by (first | (simp [put_at, put_none, fr0_at]; done) | rfl), by simp [put_at, hnext], rfl, by (first | (simp [put_at, put_none, fr0_at, h12]; done) | rfl), by (first | (simp [put_at, put_none, fr0_at, h11]; done) | rfl), by (first | (simp [put_at, put_none, fr0_at, h10]; done) | rfl), by (first | (simp [put_at, put_none, fr0_at, h5]; done) | rfl), by (first | (simp [put_at, put_none, fr0_at, h0]; done) | rfl), by (first | (simp [put_at, put_none, fr0_at, h3]; done) | rfl), by (first | (simp [put_at, put_none, fr0_at, h4]; done) | rfl)⟩
    | false =>
      rw [hb2] at h13 hnext
      (refine aw_quiet (by kernel_rfl) (by kernel_rfl) (by kernel_rfl) (fun K hK => ?_); simp (disch := first | omega | (simp only [List.length_set, List.length_append, List.length_cons, List.length_nil, iv_length, zl_length]; try omega; done)) [-getElem?_pos, -getElem?_neg, h13, h14, h10, h4, h11, h12, hcells, hck, hcl, hk, hn, hgo, hyc, hjx, hcx, ht]; refine hK _ ?_; clear hK K)
      (refine aw_ops (by kernel_rfl) (fun K hK => ?_); simp (disch := first | omega | (simp only [List.length_set, List.length_append, List.length_cons, List.length_nil, iv_length, zl_length]; try omega; done)) [-getElem?_pos, -getElem?_neg, h14]; refine hK _ _ ?_; clear hK K)
      exact ⟨c4 - 1, by omega, n + 1, by omega, by (first | (simp [put_at, put_none, fr0_at]; done) | rfl), by simp [put_at, hnext], rfl, by (first | (simp [put_at, put_none, fr0_at, h12]; done) | rfl), by (first | (simp [put_at, put_none, fr0_at, h11]; done) | rfl), by (first | (simp [put_at, put_none, fr0_at, h10]; done) | rfl), by (first | (simp [put_at, put_none, fr0_at, h5]; done) | rfl), by (first | (simp [put_at, put_none, fr0_at, h0]; done) | rfl), by (first | (simp [put_at, put_none, fr0_at, h3]; done) | rfl), by (first | (simp [put_at, put_none, fr0_at, h4]; done) | rfl)⟩
  clear h12 h11 h10 h5 h0 h3 h4
  rintro α G7 ⟨rfl, h13, h12, h11, h10, h5, h0, h3, h4⟩
  refine aw_seq ?_
  (refine aw_ops (by kernel_rfl) (fun K hK => ?_); simp (disch := first | omega | (simp only [List.length_set, List.length_append, List.length_cons, List.length_nil, iv_length, zl_length]; try omega; done)) [-getElem?_pos, -getElem?_neg, h13]; refine hK _ _ ?_; clear hK K)
  refine aw_f (by (first | (simp [eval_tmp, put_at]; done) | (simp [eval_tmp, put_at]; omega))) (by kernel_rfl) ?_
  refine aw_skip ?_
  (refine aw_ops (by kernel_rfl) (fun K hK => ?_); simp (disch := first | omega | (simp only [List.length_set, List.length_append, List.length_cons, List.length_nil, iv_length, zl_length]; try omega; done)) [-getElem?_pos, -getElem?_neg, h12]; refine hK _ _ ?_; clear hK K)
  exact ⟨c3 - 1, by omega, t + 1, by omega, by (first | (simp [put_at, put_none, fr0_at]; done) | rfl), by (first | (simp [put_at, put_none, fr0_at, h11]; done) | rfl), by (first | (simp [put_at, put_none, fr0_at, h10]; done) | rfl), rfl, by (first | (simp [put_at, put_none, fr0_at, h5]; done) | rfl), by (first | (simp [put_at, put_none, fr0_at, h0]; done) | rfl), by (first | (simp [put_at, put_none, fr0_at, h3]; done) | rfl), by (first | (simp [put_at, put_none, fr0_at, h4]; done) | rfl)⟩
end Go.Proofs.Yteldoimjachbbaa
