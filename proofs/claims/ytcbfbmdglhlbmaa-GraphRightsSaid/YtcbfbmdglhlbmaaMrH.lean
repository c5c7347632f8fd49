/-
  cabalref15.Heads.
  GraphRights: the law, walked.
-/
import Derived.Test.YtcbfbmdglhlbmaaMrG
import Derived.Test.YtcbfbmdglhlbmaaMrE
import Derived.Test.YtcbfbmdglhlbmaaMrC
namespace Go.Proofs.Ytcbfbmdglhlbmaa
open Go Go.RowKit
set_option linter.unusedSimpArgs false
set_option linter.unusedVariables false
set_option maxRecDepth 100000
set_option maxHeartbeats 4000000
section
/-- An own slice with cells behind it, whatever they are. -/
theorem ownF_app {P : Program} {nro : Nat} {t e : TypeId} {H : AH} {v x : Value} {sz : Nat} {cells news : List Value} {F : List Nat} (hu : und P t = .slice e) (hs : szt P e = sz) (h0 : 0 < sz) (hz : (zer P e).map (·.cells.size) = some sz)
    (hv : OwnF H v e sz cells F) (hnro : ∀ j ∈ F, nro ≤ j) (hstr : ∀ s, x ≠ .string s) (hx : xcells sz x H = some news) (hd : news.length % sz = 0) (hb : (cells.length + news.length) * byt P e ≤ 140737488355328) (hm : cells.length + news.length ≤ maxLen) :
    ∃ v' H' F', xappend P nro t v x H = some (v', H') ∧ OwnF H' v' e sz (cells ++ news) F' ∧ H.length ≤ H'.length ∧ (∀ j, j < H.length → j ∉ F → hget H' j = hget H j) ∧ ∀ j ∈ F', H.length ≤ j := by
  by_cases hn : news = []
  · subst hn
    rcases hv with ⟨rfl, rfl, rfl⟩ | ⟨j, len, rfl, h3, h4, rfl⟩
    · refine ⟨.slice none 0 0, H, [], ?_, .inl ⟨rfl, rfl, rfl⟩, Nat.le_refl _, fun _ _ _ => rfl, fun j hj => (by cases hj)⟩
      subst hs
      unfold xappend
      cases x <;> first | (exact absurd rfl (hstr _)) | (simp only [hu, hx]; rw [if_pos ⟨h0, hz, by simp, by simp⟩]; first | rw [if_pos rfl] | rw [if_pos trivial])
    · subst hs
      have hj := hget_lt h3
      refine ⟨.slice (some ⟨H.length, 0, none⟩) len len, H.set j none ++ [some ⟨cells, e, some (szt P e)⟩], [H.length], ?_, .inr ⟨H.length, len, rfl, ?_, by simpa using h4, rfl⟩, by simp, fun i hi hni => ?_, fun j hj => by simp at hj; omega⟩
      · have hc : True ∧ 0 < szt P e ∧ (zer P e).map (·.cells.size) = some (szt P e) ∧ nro ≤ j ∧ True ∧ True ∧ len * szt P e ≤ cells.length ∧ (len * szt P e + 0) * byt P e ≤ 140737488355328 ∧ len * szt P e + 0 ≤ maxLen :=
          ⟨trivial, h0, hz, hnro j (by simp), trivial, trivial, by omega, by rw [← h4]; exact hb, by rw [← h4]; exact hm⟩
        have e2 : cells.take (len * szt P e) = cells := List.take_of_length_le (by omega)
        unfold xappend
        cases x <;> first | (exact absurd rfl (hstr _)) | (simp only [hu, hx, h3, List.length_nil]; rw [if_pos hc, e2]; simp)
      · have : (H.set j none).length = H.length := by simp
        rw [← this, hget_app0, hget_cons0, List.append_nil]
      · rw [hget_left (by simp; omega), hget_set_ne (fun e => hni (by simp [e]))]
  · obtain ⟨v', H', h1, h2, h3, h4⟩ := ownF_append (P := P) (nro := nro) (t := t) hu hs h0 hz hv hnro hstr hx hn hd hb hm
    exact ⟨v', H', _, h1, h2, by omega, h4, fun j hj => by simp at hj; omega⟩
theorem kr_take {S : List (List Int)} (h : K32 S) {k : Nat} (hk : k ≤ S.length) : (kr S).take (k * 32) = kr (S.take k) := by
  have h1 : kr S = kr (S.take k) ++ kr (S.drop k) := by rw [← kr_app, List.take_append_drop]
  have h2 : (kr (S.take k)).length = k * 32 := by rw [kr_len (fun x hx => h x (List.mem_of_mem_take hx)), List.length_take]; omega
  rw [h1, List.take_append_of_le_length (by omega), List.take_of_length_le (by omega)]
theorem kr_drop {S : List (List Int)} (h : K32 S) {k : Nat} (hk : k ≤ S.length) : (kr S).drop (k * 32) = kr (S.drop k) := by
  have h1 : kr S = kr (S.take k) ++ kr (S.drop k) := by rw [← kr_app, List.take_append_drop]
  have h2 : (kr (S.take k)).length = k * 32 := by rw [kr_len (fun x hx => h x (List.mem_of_mem_take hx)), List.length_take]; omega
  rw [h1, List.drop_append_of_le_length (by omega), List.drop_of_length_le (by omega), List.nil_append]
theorem own_front {H : AH} {v : Value} {S : List (List Int)} {F : List Nat} {k : Nat} (ho : OwnF H v 24 32 (kr S) F) (hS : K32 S) (hk : k ≤ S.length) : ∃ x, (∀ G : AH, xslice Try.prog 30 v none (some (.int .i64 (k : Nat))) G = some x) ∧ notTuple x = true ∧ x.cells = #[x] ∧ (∀ s, x ≠ .string s) ∧ ∀ G : AH, (∀ j ∈ F, hget G j = hget H j) → xcells 32 x G = some (kr (S.take k)) := by
  have h1 : und Try.prog 30 = .slice 24 := by kernel_rfl
  have h2 : szt Try.prog 24 = 32 := by kernel_rfl
  rcases ho with ⟨rfl, h0, rfl⟩ | ⟨j, len, rfl, h3, h4, rfl⟩
  · have : S.length = 0 := by
      have := kr_len hS
      rw [h0, List.length_nil] at this; omega
    have hk0 : k = 0 := by omega
    subst hk0
    refine ⟨.slice none 0 0, fun G => ?_, rfl, rfl, fun s e => (by cases e), fun G _ => rfl⟩
    unfold xslice
    simp only [h1, h2, bnd, asInt?]
    rfl
  · rw [kr_len hS] at h4
    have hl : len = S.length := by omega
    subst hl
    refine ⟨.slice (some ⟨j, 0, none⟩) k k, fun G => ?_, rfl, rfl, fun s e => (by cases e), fun G hG => ?_⟩
    · unfold xslice
      simp only [h1, h2, bnd, asInt?]
      rw [if_pos ⟨by omega, by omega, by omega, by omega⟩, if_neg (by omega)]
      simp
    · have hg := (hG j (by simp)).trans h3
      unfold xcells
      simp only [hg]
      rw [if_pos (by show 0 + k * 32 ≤ (kr S).length; rw [kr_len hS]; omega), List.drop_zero, kr_take hS hk]
theorem own_back {H : AH} {v : Value} {S : List (List Int)} {F : List Nat} {k : Nat} (ho : OwnF H v 24 32 (kr S) F) (hS : K32 S) (hk : k ≤ S.length) : ∃ x, (∀ G : AH, xslice Try.prog 30 v (some (.int .i64 (k : Nat))) none G = some x) ∧ notTuple x = true ∧ x.cells = #[x] ∧ (∀ s, x ≠ .string s) ∧ ∀ G : AH, (∀ j ∈ F, hget G j = hget H j) → xcells 32 x G = some (kr (S.drop k)) := by
  have h1 : und Try.prog 30 = .slice 24 := by kernel_rfl
  have h2 : szt Try.prog 24 = 32 := by kernel_rfl
  rcases ho with ⟨rfl, h0, rfl⟩ | ⟨j, len, rfl, h3, h4, rfl⟩
  · have : S.length = 0 := by
      have := kr_len hS
      rw [h0, List.length_nil] at this; omega
    have hk0 : k = 0 := by omega
    subst hk0
    refine ⟨.slice none 0 0, fun G => ?_, rfl, rfl, fun s e => (by cases e), fun G _ => ?_⟩
    · unfold xslice
      simp only [h1, h2, bnd, asInt?]
      rfl
    · rw [List.eq_nil_of_length_eq_zero this]; rfl
  · rw [kr_len hS] at h4
    have hl : len = S.length := by omega
    subst hl
    by_cases hkl : k ≠ 0 ∧ S.length = k
    · refine ⟨.slice (some ⟨j, 0, some 0⟩) 0 0, fun G => ?_, rfl, rfl, fun s e => (by cases e), fun G _ => ?_⟩
      · unfold xslice
        simp only [h1, h2, bnd, asInt?]
        rw [if_pos ⟨by omega, by omega, by omega, by omega⟩, if_pos (by omega)]
      · rw [List.drop_of_length_le (by omega)]; rfl
    · refine ⟨.slice (some ⟨j, k * 32, none⟩) (S.length - k) (S.length - k), fun G => ?_, rfl, rfl, fun s e => (by cases e), fun G hG => ?_⟩
      · unfold xslice
        simp only [h1, h2, bnd, asInt?]
        rw [if_pos ⟨by omega, by omega, by omega, by omega⟩, if_neg (by omega)]
        simp
      · have hg := (hG j (by simp)).trans h3
        have hlen : (kr (S.drop k)).length = (S.length - k) * 32 := by rw [kr_len (fun x hx => hS x (List.mem_of_mem_drop hx)), List.length_drop]
        unfold xcells
        simp only [hg]
        rw [if_pos (by show k * 32 + (S.length - k) * 32 ≤ (kr S).length; rw [kr_len hS]; omega), kr_drop hS hk, List.take_of_length_le (by omega)]
theorem behB_T (l : List NodeD) (k : Nat) : behT l l.length k = behB l k := rfl
attribute [local simp] wb_bool wb_undef with_lit XL_nil XL_cons XLc_val XLc_call step1_eq stepW_t stepW_f stepC_n stepC_s stepX_s stepX_n stepN_s calleeX oneV xop_eq xopR_s xopR_n wantedA_eq wantedG_n wantedG_s plain1_int plain1_bool plain1_string bits_i64 bits_u64 bits_u32 bits_u16 bits_u8 xeqA xagg xcmp xarr allK_iv num_iv calleeOf xread xeff xbin xint xnil xun xstr xload xconv xpart xfield xfieldAddr xindexAddr xindex bnd asInt? xslice xlen xmin xmax xbuild xfill xappend xapp2 xappstr xappmk xcap xcopy xcells eval_tmp eval_const put_at put_none fr0_at cells_agg cells_int cells_bool cells_string cells_ptr cells_slice notTuple tab iv_all hget_app hget_app0 hget_cons0 hget_cons set_app set_app0 setR setR_one QL_nil QL_cons QLc_val stepQ_t stepQ_f stepQC_n stepQC_s stepQX_s SL_nil SL_cons SLc_val stepS_t stepS_f ltT ltF leT leF eqT eqF ltTn ltFn leTn leFn eqTn eqFn beqT beqF bneT bneF wi64 wu64 wu32 wu16 wu8 tmodP tdivP hgetL hgetNe hgetEq setL nums_def nums_len Nat.succ_le_of_lt List.getElem?_cons_zero List.getElem?_cons_succ Option.getD_some Int.toNat_add Int.toNat_mul agM okM agB agI agS agP agL agA okB okI okS okP okSl okA
theorem rHeads_rc {γ : Nat → Option Nat} {H : AH} {nv : Value} {l : List NodeD} (hN : NdA H nv l) (hr : rightG l = true) : AC Try.prog H.length γ 22 #[nv] H (fun v' H' => Low H.length H H' ∧ ∃ F, OwnF H' v' 24 32 (kr (headsL l)) F) := by
  have hnt := hN.nt
  have hvc := hN.cs
  have hxl := hN.len
  have hl := rightG_len hr
  obtain ⟨n, hn⟩ : ∃ n, n = H.length := ⟨_, rfl⟩
  rw [← hn]
  refine ac_of_aw Try.func22 rfl Try.ntmps22 Try.results22 (by simp) ?_
  refine aw_seq ?_
  (refine aw_ops (by kernel_rfl) (fun K hK => ?_); simp (disch := first | omega | (simp only [lnS]; try omega; done)) [-getElem?_pos, -getElem?_neg]; refine hK _ _ ?_; clear hK K)
  refine aw_seq ?_
  (refine aw_ops (by kernel_rfl) (fun K hK => ?_); simp (disch := first | omega | (simp only [lnS]; try omega; done)) [-getElem?_pos, -getElem?_neg]; refine hK _ _ ?_; clear hK K)
  refine aw_seq ?_
  refine aw_seq ?_
  (refine aw_ops (by kernel_rfl) (fun K hK => ?_); simp (disch := first | omega | (simp only [lnS]; try omega; done)) [-getElem?_pos, -getElem?_neg]; refine hK _ _ ?_; clear hK K)
  refine aw_block ?_
  refine aw_loop (fun c α G => ∃ (i : Nat) (v : Value) (F : List Nat) (S : List (List Int)), i + c = l.length ∧ α 0 = nv ∧ α 3 = v ∧ α 4 = .int .i64 (i : Nat) ∧ Low n H G ∧ OwnF G v 24 32 (kr S) F ∧ (∀ j ∈ F, n ≤ j) ∧ S.Perm (headT l i) ∧ Rise S) l.length ?_ ?_
  · exact ⟨0, .slice none 0 0, [], [], by omega, by (first | (simp [put_at, put_none, fr0_at]; done) | rfl), by (first | (simp [put_at, put_none, fr0_at]; done) | rfl), by (first | (simp [put_at, put_none, fr0_at]; done) | rfl), by rw [hn]; exact Low.refl (Nat.le_refl _), .inl ⟨rfl, rfl, rfl⟩, fun j hj => (by cases hj), .refl _, List.Pairwise.nil⟩
  rintro c α G ⟨i, v, F, S, hic, q0, q3, q4, hlow, ho, hF, hperm, hrise⟩
  obtain ⟨v1, v2⟩ := own_nt ho
  have hSk : K32 S := fun k hk => by
    obtain ⟨a, ha, rfl⟩ := headT_mem (hperm.mem_iff.1 hk)
    exact (hN.wf _ (List.mem_of_getElem? (nd_get (show a < l.length by omega)))).id.1
  have hSl : S.length ≤ i := by rw [hperm.length_eq]; exact headT_len l i
  refine aw_seq ?_
  refine aw_seq ?_
  by_cases hi : i < l.length
  case neg =>
    (refine aw_ops (by kernel_rfl) (fun K hK => ?_); simp (disch := first | omega | (simp only [lnS]; try omega; done)) [-getElem?_pos, -getElem?_neg, q0, q4, -notTuple, hnt, hvc, nt_intG, -xlen, hxl, hi]; refine hK _ _ ?_; clear hK K)
    refine aw_f (by (first | (simp [eval_tmp, put_at, hi]; done) | (simp [eval_tmp, put_at, hi]; omega))) (by kernel_rfl) ?_
    refine aw_exit ?_
    obtain rfl : i = l.length := by omega
    refine aw_seq ?_
    (refine aw_ops (by kernel_rfl) (fun K hK => ?_); simp (disch := first | omega | (simp only [lnS]; try omega; done)) [-getElem?_pos, -getElem?_neg, q3, -notTuple, v1, v2]; refine hK _ _ ?_; clear hK K)
    (refine aw_ret ?_; simp (disch := first | omega | (simp only [lnS]; try omega; done)) [-getElem?_pos, -getElem?_neg, thenQ_ret, scopeQ_ret, inBlockQ_ret, RQ, resL, resV])
    have : S = headsL l := sortK_eq hperm hrise
    rw [← this]
    exact ⟨hlow, F, ho⟩
  (refine aw_ops (by kernel_rfl) (fun K hK => ?_); simp (disch := first | omega | (simp only [lnS]; try omega; done)) [-getElem?_pos, -getElem?_neg, q0, q4, -notTuple, hnt, hvc, nt_intG, -xlen, hxl, hi]; refine hK _ _ ?_; clear hK K)
  refine aw_t (by (first | (simp [eval_tmp, put_at, hi]; done) | (simp [eval_tmp, put_at, hi]; omega))) (by kernel_rfl) ?_
  refine aw_skip ?_
  refine aw_seq ?_
  refine aw_block ?_
  refine aw_seq ?_
  (refine aw_ops (by kernel_rfl) (fun K hK => ?_); simp (disch := first | omega | (simp only [lnS]; try omega; done)) [-getElem?_pos, -getElem?_neg]; refine hK _ _ ?_; clear hK K)
  refine aw_seq ?_
  refine aw_seq ?_
  (refine aw_ops (by kernel_rfl) (fun K hK => ?_); simp (disch := first | omega | (simp only [lnS]; try omega; done)) [-getElem?_pos, -getElem?_neg]; refine hK _ _ ?_; clear hK K)
  refine aw_block ?_
  refine aw_loop (fun c2 α G2 => ∃ t : Nat, t + c2 = l.length ∧ α 0 = nv ∧ α 3 = v ∧ α 4 = .int .i64 (i : Nat) ∧ α 5 = .bool (!behT l t i) ∧ α 6 = .int .i64 (t : Nat) ∧ G2 = G) l.length ?_ ?_
  · exact ⟨0, by omega, by (first | (simp [put_at, put_none, fr0_at, q0]; done) | rfl), by (first | (simp [put_at, put_none, fr0_at, q3]; done) | rfl), by (first | (simp [put_at, put_none, fr0_at, q4]; done) | rfl), by (first | (simp [put_at, put_none, fr0_at]; done) | rfl), by (first | (simp [put_at, put_none, fr0_at]; done) | rfl), rfl⟩
  clear q0 q3 q4
  rintro c2 α G2 ⟨t, htc, q0, q3, q4, q5, q6, rfl⟩
  refine aw_seq ?_
  refine aw_seq ?_
  by_cases ht : t < l.length
  case pos =>
    obtain ⟨j, q, bb, qv, hx, hbb, hc, hi2, hm2, n1, n2⟩ := hN.past_at (hn ▸ hlow) ht
    have hsu := behT_succ l t i
    have hin := rIn_rc (γ := γ) (hi2.lowG (hn ▸ hlow)) hm2 (i : Int)
    (refine aw_ops (by kernel_rfl) (fun K hK => ?_); simp (disch := first | omega | (simp only [lnS]; try omega; done)) [-getElem?_pos, -getElem?_neg, q0, q6, -notTuple, hnt, hvc, nt_intG, -xlen, hxl, ht]; refine hK _ _ ?_; clear hK K)
    refine aw_t (by (first | (simp [eval_tmp, put_at, ht]; done) | (simp [eval_tmp, put_at, ht]; omega))) (by kernel_rfl) ?_
    refine aw_skip ?_
    refine aw_seq ?_
    refine aw_block ?_
    cases hb : behT l t i with
    | true =>
      rw [hb] at q5 hsu
      (refine aw_ops (by kernel_rfl) (fun K hK => ?_); simp (disch := first | omega | (simp only [lnS]; try omega; done)) [-getElem?_pos, -getElem?_neg, q5]; refine hK _ _ ?_; clear hK K)
      (refine aw_ops (by kernel_rfl) (fun K hK => ?_); simp (disch := first | omega | (simp only [lnS]; try omega; done)) [-getElem?_pos, -getElem?_neg, q6]; refine hK _ _ ?_; clear hK K)
      exact ⟨c2 - 1, by omega, t + 1, by omega, by (first | (simp [put_at, put_none, fr0_at, q0]; done) | rfl), by (first | (simp [put_at, put_none, fr0_at, q3]; done) | rfl), by (first | (simp [put_at, put_none, fr0_at, q4]; done) | rfl), by rw [hsu]; (first | (simp [put_at, put_none, fr0_at]; done) | rfl), by (first | (simp [put_at, put_none, fr0_at]; done) | rfl), rfl⟩
    | false =>
      rw [hb] at q5 hsu
      refine aw_ops (by kernel_rfl) (fun K hK => ?_)
      simp (disch := first | omega | (simp only [lnS]; try omega; done)) [-getElem?_pos, -getElem?_neg, q0, q4, q5, q6, -notTuple, hnt, hvc, n1, n2, nt_intG, nt_ptrG, -xindexAddr, hx, hbb, hc]
      refine ⟨by kernel_rfl, ac_of_rc hin (by simp [pv_iv, pv_int, pv_bool, pv_string, pv_tup2, pv_tup3, iv_plain, p2_int, p2_bool, p2_string]) ?_⟩
      cases hd : decide ((i : Int) ∈ (nd l t).past) with
      | true =>
        rw [hd] at hsu
        try simp (disch := first | omega | (simp only [lnS]; try omega; done)) [-getElem?_pos, -getElem?_neg]
        refine hK _ _ ?_; clear hK K
        (refine aw_ops (by kernel_rfl) (fun K hK => ?_); simp (disch := first | omega | (simp only [lnS]; try omega; done)) [-getElem?_pos, -getElem?_neg, q6]; refine hK _ _ ?_; clear hK K)
        exact ⟨c2 - 1, by omega, t + 1, by omega, by (first | (simp [put_at, put_none, fr0_at, q0]; done) | rfl), by (first | (simp [put_at, put_none, fr0_at, q3]; done) | rfl), by (first | (simp [put_at, put_none, fr0_at, q4]; done) | rfl), by rw [hsu]; (first | (simp [put_at, put_none, fr0_at]; done) | rfl), by (first | (simp [put_at, put_none, fr0_at]; done) | rfl), rfl⟩
      | false =>
        rw [hd] at hsu
        try simp (disch := first | omega | (simp only [lnS]; try omega; done)) [-getElem?_pos, -getElem?_neg]
        refine hK _ _ ?_; clear hK K
        (refine aw_ops (by kernel_rfl) (fun K hK => ?_); simp (disch := first | omega | (simp only [lnS]; try omega; done)) [-getElem?_pos, -getElem?_neg, q6]; refine hK _ _ ?_; clear hK K)
        exact ⟨c2 - 1, by omega, t + 1, by omega, by (first | (simp [put_at, put_none, fr0_at, q0]; done) | rfl), by (first | (simp [put_at, put_none, fr0_at, q3]; done) | rfl), by (first | (simp [put_at, put_none, fr0_at, q4]; done) | rfl), by rw [hsu]; (first | (simp [put_at, put_none, fr0_at]; done) | rfl), by (first | (simp [put_at, put_none, fr0_at]; done) | rfl), rfl⟩
  (refine aw_ops (by kernel_rfl) (fun K hK => ?_); simp (disch := first | omega | (simp only [lnS]; try omega; done)) [-getElem?_pos, -getElem?_neg, q0, q6, -notTuple, hnt, hvc, nt_intG, -xlen, hxl, ht]; refine hK _ _ ?_; clear hK K)
  refine aw_f (by (first | (simp [eval_tmp, put_at, ht]; done) | (simp [eval_tmp, put_at, ht]; omega))) (by kernel_rfl) ?_
  refine aw_exit ?_
  obtain rfl : t = l.length := by omega
  rw [behB_T] at q5
  have hsu := headT_succ l i
  refine aw_seq ?_
  refine aw_seq ?_
  cases hbh : behB l i with
  | true =>
    rw [hbh] at q5
    rw [hbh, if_pos rfl, List.append_nil] at hsu
    (refine aw_ops (by kernel_rfl) (fun K hK => ?_); simp (disch := first | omega | (simp only [lnS]; try omega; done)) [-getElem?_pos, -getElem?_neg, q5]; refine hK _ _ ?_; clear hK K)
    refine aw_t (by (first | (simp [eval_tmp, put_at]; done) | (simp [eval_tmp, put_at]; omega))) (by kernel_rfl) ?_
    refine aw_exit ?_
    (refine aw_ops (by kernel_rfl) (fun K hK => ?_); simp (disch := first | omega | (simp only [lnS]; try omega; done)) [-getElem?_pos, -getElem?_neg, q4]; refine hK _ _ ?_; clear hK K)
    exact ⟨c - 1, by omega, i + 1, v, F, S, by omega, by (first | (simp [put_at, put_none, fr0_at, q0]; done) | rfl), by (first | (simp [put_at, put_none, fr0_at, q3]; done) | rfl), by (first | (simp [put_at, put_none, fr0_at]; done) | rfl), hlow, ho, hF, by rw [hsu]; exact hperm, hrise⟩
  | false =>
  rw [hbh] at q5
  rw [hbh, if_neg (by simp)] at hsu
  obtain ⟨x, hxe⟩ : ∃ x, x = (nd l i).id := ⟨_, rfl⟩
  have hx32 := (hN.wf _ (List.mem_of_getElem? (nd_get hi))).id
  rw [← hxe] at hsu hx32
  have hxS : x ∉ S := fun h => by
    obtain ⟨a, ha, e⟩ := headT_mem (hperm.mem_iff.1 h)
    exact ids_ne hr ha hi (by rw [← e, hxe])
  obtain ⟨j, q, bb, us, pv, wv', bv, qv, hx, hbb, hq, hcell, hus, hC⟩ := (hN.lowG (hn ▸ hlow)).at_ i _ (nd_get hi)
  have ci : (bb.cells.drop q).take 32 = iv .u8 x := by
    have := hC.id
    rw [hus, List.take_take, ← hxe] at this
    simpa using this
  have hxlo := ho.len (P := Try.prog) (t := 30) (by simp) (kr_len hSk) (by omega)
  have hivl : (iv .u8 x).length = 32 := by rw [iv_length, hx32.1]
  (refine aw_ops (by kernel_rfl) (fun K hK => ?_); simp (disch := first | omega | (simp only [lnS]; try omega; done)) [-getElem?_pos, -getElem?_neg, q5]; refine hK _ _ ?_; clear hK K)
  refine aw_f (by (first | (simp [eval_tmp, put_at]; done) | (simp [eval_tmp, put_at]; omega))) (by kernel_rfl) ?_
  refine aw_skip ?_
  refine aw_seq ?_
  (refine aw_ops (by kernel_rfl) (fun K hK => ?_); simp (disch := first | omega | (simp only [lnS]; try omega; done)) [-getElem?_pos, -getElem?_neg]; refine hK _ _ ?_; clear hK K)
  refine aw_seq ?_
  refine aw_block ?_
  refine aw_loop (fun c3 α G => ∃ k : Nat, k + c3 = S.length ∧ α 0 = nv ∧ α 3 = v ∧ α 4 = .int .i64 (i : Nat) ∧ α 7 = .int .i64 (k : Nat) ∧ G = G2 ∧ ∀ s ∈ S.take k, s < x) S.length ?_ ?_
  · exact ⟨0, by omega, by (first | (simp [put_at, put_none, fr0_at, q0]; done) | rfl), by (first | (simp [put_at, put_none, fr0_at, q3]; done) | rfl), by (first | (simp [put_at, put_none, fr0_at, q4]; done) | rfl), by (first | (simp [put_at, put_none, fr0_at]; done) | rfl), rfl, fun s hs => by simp at hs⟩
  clear q0 q3 q4 q5 q6
  rintro c3 α G3 ⟨k, hkc, q0, q3, q4, q7, rfl, hpre⟩
  have hby : ∀ s ∈ S, By s := fun s hs => by
    obtain ⟨a, ha, rfl⟩ := headT_mem (hperm.mem_iff.1 hs)
    exact (hN.wf _ (List.mem_of_getElem? (nd_get (show a < l.length by omega)))).id.2
  refine aw_seq ?_
  refine aw_seq ?_
  refine aw_cut (fun α G => (α 0 = nv ∧ α 3 = v ∧ α 4 = .int .i64 (i : Nat) ∧ α 7 = .int .i64 (k : Nat) ∧ G = G3) ∧ ∃ b, α 49 = .bool b ∧ (b = true → k < S.length ∧ ∀ s ∈ S.take (k + 1), s < x) ∧ (b = false → ∀ s, S[k]? = some s → ¬ s < x)) ?_ ?_
  · by_cases hk : k < S.length
    case neg =>
      (refine aw_plan [] [] [0, 1, 2, 3, 4, 5, 6, 7, 8, 9, 10, 11, 12, 13, 14, 15] 16 0 (by kernel_rfl) (by kernel_rfl) (by kernel_rfl) (fun K hK => ?_)); simp only [sel, List.getElem?_cons_succ, List.getElem?_cons_zero, List.drop_succ_cons, List.drop_zero]; simp (disch := first | omega | (simp only [lnS]; try omega; done)) [-getElem?_pos, -getElem?_neg, q0, q3, q4, q7, -notTuple, v1, v2, nt_intG, -xlen, hxlo, hk, PL_nil, plainB_lit, PL_cons, PLc_val, PLc_new, stepP_t, stepP_f, stepPC_n, stepPC_s, stepPX_s, stepPX_n, stepPV_n, stepPV_s, stepPA_t, stepPA_c, stepPA_l, stepPN_s, allocOp, reloc_sl, reloc_ptr, List.map_cons, List.map_nil, List.nil_append, List.append_assoc, List.cons_append, Nat.add_assoc]
      refine hK _ _ ?_; clear hK K
      exact ⟨⟨by (first | (simp [put_at, put_none, fr0_at, q0]; done) | rfl), by (first | (simp [put_at, put_none, fr0_at, q3]; done) | rfl), by (first | (simp [put_at, put_none, fr0_at, q4]; done) | rfl), by (first | (simp [put_at, put_none, fr0_at, q7]; done) | rfl), rfl⟩, false, by (first | (simp [put_at, put_none, fr0_at]; done) | rfl), fun h => (by cases h), fun _ s hs => absurd (List.getElem?_eq_some_iff.1 hs).1 hk⟩
    obtain ⟨s, hs⟩ : ∃ s, S[k]? = some s := ⟨_, List.getElem?_eq_getElem hk⟩
    have hsm := List.mem_of_getElem? hs
    have htk : S.take (k + 1) = S.take k ++ [s] := by rw [List.take_add_one, hs]; rfl
    obtain ⟨b, rfl, hbk⟩ : ∃ b, v = .slice (some ⟨b, 0, none⟩) S.length S.length ∧ hget G3 b = some ⟨kr S, 24, some 32⟩ := by
      rcases ho with ⟨_, hc, _⟩ | ⟨b, len, rfl, hb, hl, _⟩
      · have := kr_len hSk
        rw [hc, List.length_nil] at this
        omega
      · rw [kr_len hSk] at hl
        have : len = S.length := by omega
        subst this
        exact ⟨b, rfl, hb⟩
    have hka := kr_addr (b := b) hk
    have hkl := kr_load hSk hs hbk
    have hls := less_vc s x (hSk s hsm) hx32.1 (hby s hsm) hx32.2
    have hgt := cmpL_gt hx32.2 (hby s hsm) (by rw [hx32.1, hSk s hsm])
    have hsl : (iv .u8 s).length = 32 := by rw [iv_length, hSk s hsm]
    have hlx : xload Try.prog 24 (.pointer (some ⟨j, q, none⟩)) G3 = some (.agg (iv .u8 x).toArray) := by
      have h1 : isAggD (und Try.prog 24) = true := by kernel_rfl
      have h2 : szt Try.prog 24 = 32 := by kernel_rfl
      unfold xload
      simp only [hbb, h1, h2, if_true]
      rw [if_pos ⟨by omega, by omega⟩, ci]
    (refine aw_plan [] [] [0, 1, 2, 3, 4, 5, 6, 7, 8, 9, 10, 11, 12, 13, 14, 15] 16 0 (by kernel_rfl) (by kernel_rfl) (by kernel_rfl) (fun K hK => ?_)); simp only [sel, List.getElem?_cons_succ, List.getElem?_cons_zero, List.drop_succ_cons, List.drop_zero]; simp (disch := first | omega | (simp only [lnS]; try omega; done)) [-getElem?_pos, -getElem?_neg, q0, q3, q4, q7, -notTuple, hnt, hvc, nt_intG, nt_slG, nt_ptrG, nt_aggG, -xlen, hxlo, hk, -xindexAddr, hka, hx, -xload, hkl, hlx, PL_nil, plainB_lit, PL_cons, PLc_val, PLc_new, stepP_t, stepP_f, stepPC_n, stepPC_s, stepPX_s, stepPX_n, stepPV_n, stepPV_s, stepPA_t, stepPA_c, stepPA_l, stepPN_s, allocOp, reloc_sl, reloc_ptr, List.map_cons, List.map_nil, List.nil_append, List.append_assoc, List.cons_append, Nat.add_assoc]
    refine PLc_call (v := .bool (decide (0 < cmpL x s))) (by kernel_rfl) (fun L hL => ac_of_vc (by simp [pv_iv, pv_int, pv_bool, pv_string, pv_tup2, pv_tup3, iv_plain, p2_int, p2_bool, p2_string]) hls rfl) (by simp [pv_iv, pv_int, pv_bool, pv_string, pv_tup2, pv_tup3, iv_plain, p2_int, p2_bool, p2_string]) ?_
    by_cases hc : 0 < cmpL x s
    · simp (disch := first | omega | (simp only [lnS]; try omega; done)) [-getElem?_pos, -getElem?_neg, hc, PL_nil, plainB_lit, PL_cons, PLc_val, PLc_new, stepP_t, stepP_f, stepPC_n, stepPC_s, stepPX_s, stepPX_n, stepPV_n, stepPV_s, stepPA_t, stepPA_c, stepPA_l, stepPN_s, allocOp, reloc_sl, reloc_ptr, List.map_cons, List.map_nil, List.nil_append, List.append_assoc, List.cons_append, Nat.add_assoc]
      refine hK _ _ ?_; clear hK K
      refine ⟨⟨by (first | (simp [put_at, put_none, fr0_at, q0]; done) | rfl), by (first | (simp [put_at, put_none, fr0_at, q3]; done) | rfl), by (first | (simp [put_at, put_none, fr0_at, q4]; done) | rfl), by (first | (simp [put_at, put_none, fr0_at, q7]; done) | rfl), rfl⟩, true, by (first | (simp [put_at, put_none, fr0_at]; done) | rfl), fun _ => ⟨hk, fun s' hs' => ?_⟩, fun h => by cases h⟩
      rw [htk] at hs'
      rcases List.mem_append.1 hs' with hs' | hs'
      · exact hpre s' hs'
      · rw [List.mem_singleton] at hs'; subst hs'; exact hgt.1 hc
    · simp (disch := first | omega | (simp only [lnS]; try omega; done)) [-getElem?_pos, -getElem?_neg, hc, PL_nil, plainB_lit, PL_cons, PLc_val, PLc_new, stepP_t, stepP_f, stepPC_n, stepPC_s, stepPX_s, stepPX_n, stepPV_n, stepPV_s, stepPA_t, stepPA_c, stepPA_l, stepPN_s, allocOp, reloc_sl, reloc_ptr, List.map_cons, List.map_nil, List.nil_append, List.append_assoc, List.cons_append, Nat.add_assoc]
      refine hK _ _ ?_; clear hK K
      exact ⟨⟨by (first | (simp [put_at, put_none, fr0_at, q0]; done) | rfl), by (first | (simp [put_at, put_none, fr0_at, q3]; done) | rfl), by (first | (simp [put_at, put_none, fr0_at, q4]; done) | rfl), by (first | (simp [put_at, put_none, fr0_at, q7]; done) | rfl), rfl⟩, false, by (first | (simp [put_at, put_none, fr0_at]; done) | rfl), fun h => (by cases h), fun _ s' hs' => by rw [hs] at hs'; cases hs'; exact fun h => hc (hgt.2 h)⟩
  clear q0 q3 q4 q7
  rintro α G4 ⟨⟨q0, q3, q4, q7, rfl⟩, b, q49, hb1, hb2⟩
  cases b with
  | true =>
    obtain ⟨hk, hpre2⟩ := hb1 rfl
    refine aw_t (by (first | (simp [eval_tmp, put_at, q49]; done) | (simp [eval_tmp, put_at, q49]; omega))) (by kernel_rfl) ?_
    refine aw_skip ?_
    refine aw_block ?_
    (refine aw_ops (by kernel_rfl) (fun K hK => ?_); simp (disch := first | omega | (simp only [lnS]; try omega; done)) [-getElem?_pos, -getElem?_neg, q7]; refine hK _ _ ?_; clear hK K)
    exact ⟨c3 - 1, by omega, k + 1, by omega, by (first | (simp [put_at, put_none, fr0_at, q0]; done) | rfl), by (first | (simp [put_at, put_none, fr0_at, q3]; done) | rfl), by (first | (simp [put_at, put_none, fr0_at, q4]; done) | rfl), by (first | (simp [put_at, put_none, fr0_at]; done) | rfl), rfl, hpre2⟩
  | false =>
  have hstop := hb2 rfl
  refine aw_f (by (first | (simp [eval_tmp, put_at, q49]; done) | (simp [eval_tmp, put_at, q49]; omega))) (by kernel_rfl) ?_
  refine aw_exit ?_
  have hkS : k ≤ S.length := by omega
  have hgtd : ∀ s ∈ S.drop k, x < s := by
    rcases Nat.lt_or_ge k S.length with hk | hk
    · obtain ⟨s0, hs0⟩ : ∃ s, S[k]? = some s := ⟨_, List.getElem?_eq_getElem hk⟩
      have h0 : x < s0 := lt_tri (hstop s0 hs0) (fun e => hxS (by rw [← e]; exact List.mem_of_getElem? hs0))
      have hd : S.drop k = s0 :: S.drop (k + 1) := by
        obtain ⟨hl', e⟩ := List.getElem?_eq_some_iff.1 hs0
        rw [List.drop_eq_getElem_cons hl', e]
      intro s hs
      have hrd := hrise.sublist (List.drop_sublist k S)
      rw [hd] at hs hrd
      rcases List.mem_cons.1 hs with rfl | hs
      · exact h0
      · exact List.lt_trans h0 ((List.pairwise_cons.1 hrd).1 s hs)
    · rw [List.drop_of_length_le hk]
      intro s hs; cases hs
  have hle' : ∀ s, k ≠ 0 → S[k - 1]? = some s → ¬ x < s := fun s hk0 hs => by
    have : s ∈ S.take k := by
      refine List.mem_of_getElem? (i := k - 1) ?_
      rw [List.getElem?_take_of_lt (by omega), hs]
    exact List.lt_asymm (hpre s this)
  have hr2 := rise_put hrise hkS hgtd hle' hxS
  have hp2 : (S.take k ++ x :: S.drop k).Perm (headT l (i + 1)) := by
    rw [hsu]
    exact (put_perm x k).trans (hperm.append_right _)
  obtain ⟨xa, xa1, xa2, xa3, xa4, xa5⟩ := own_front ho hSk hkS
  obtain ⟨xb, xb1, xb2, xb3, xb4, xb5⟩ := own_back ho hSk hkS
  have hSt : K32 (S.take k) := fun s hs => hSk s (List.mem_of_mem_take hs)
  have hSd : K32 (S.drop k) := fun s hs => hSk s (List.mem_of_mem_drop hs)
  have lt1 : (kr (S.take k)).length = k * 32 := by rw [kr_len hSt, List.length_take]; omega
  have ld1 : (kr (S.drop k)).length = (S.length - k) * 32 := by rw [kr_len hSd, List.length_drop]
  -- the front
  obtain ⟨w1, A1, F1, ap1, o1, le1, kp1, nf1⟩ := ownF_app (P := Try.prog) (nro := n) (t := 30) (e := 24) (H := G4) (v := .slice none 0 0) (x := xa) (sz := 32) (cells := []) (news := kr (S.take k)) (F := []) (by simp) (by simp) (by omega) (by simp) (.inl ⟨rfl, rfl, rfl⟩) (fun j hj => by cases hj) xa4 (xa5 G4 (fun _ _ => rfl)) (by rw [lt1]; omega) (by rw [lt1]; simp; omega) (by rw [lt1]; simp only [List.length_nil, maxLen]; omega)
  rw [List.nil_append] at o1
  have hlo := ho.lt
  have ho1 := ho.low (H' := A1) (fun j hj => kp1 j (hlo j hj) (by simp))
  obtain ⟨w11, w12⟩ := own_nt o1
  have hbA : hget A1 j = some bb := (kp1 j (hget_lt hbb) (by simp)).trans hbb
  refine aw_seq ?_
  (refine aw_ops (by kernel_rfl) (fun K hK => ?_); simp (disch := first | omega | (simp only [lnS]; try omega; done)) [-getElem?_pos, -getElem?_neg]; refine hK _ _ ?_; clear hK K)
  refine aw_seq ?_
  (refine aw_ops (by kernel_rfl) (fun K hK => ?_); simp (disch := first | omega | (simp only [lnS]; try omega; done)) [-getElem?_pos, -getElem?_neg, q3, q7, -notTuple, v1, v2, xa2, xa3, nt_intG, nt_slG, -xslice, xa1, -xappend, ap1]; refine hK _ _ ?_; clear hK K)
  -- the new one
  have hxc : xcells 32 (.slice (some ⟨A1.length, 0, none⟩) 1 1) (A1 ++ [some ⟨iv .u8 x, 24, some 32⟩]) = some (iv .u8 x) := by
    have htk : List.take 32 (iv .u8 x) = iv .u8 x := List.take_of_length_le (by omega)
    simp [xcells, hget_app0, hivl, htk]
  obtain ⟨w2, A2, F2, ap2, o2, le2, kp2, nf2⟩ := ownF_app (P := Try.prog) (nro := n) (t := 30) (e := 24) (H := A1 ++ ([some ⟨iv .u8 x, 24, some 32⟩] : AH)) (v := w1) (x := .slice (some ⟨A1.length, 0, none⟩) 1 1) (sz := 32) (cells := kr (S.take k)) (news := iv .u8 x) (F := F1) (by simp) (by simp) (by omega) (by simp) (o1.low (fun j hj => hget_left (o1.lt j hj))) (fun j hj => by have := nf1 j hj; have := hlow.2; omega) (fun s e => by cases e) hxc (by rw [hivl]) (by rw [lt1, hivl]; simp; omega) (by rw [lt1, hivl]; simp only [maxLen]; omega)
  have hfil := fill_keyG (k := .u8) (x := x) (n := 32) (zl 32) hivl
  have le2' : A1.length + 1 ≤ A2.length := by simpa using le2
  have kp2' : ∀ j, j < A1.length → j ∉ F1 → hget A2 j = hget A1 j := fun j hj hn => (kp2 j (by simp; omega) hn).trans (hget_left hj)
  have nf2' : ∀ j ∈ F2, A1.length ≤ j := fun j hj => by have := nf2 j hj; simp at this; omega
  have ho2 := ho1.low (H' := A2) (fun j hj => kp2' j (by have := hlo j hj; omega) (fun h => by have := nf1 j h; have := hlo j hj; omega))
  obtain ⟨w21, w22⟩ := own_nt o2
  have hlx : xload Try.prog 24 (.pointer (some ⟨j, q, none⟩)) A1 = some (.agg (iv .u8 x).toArray) := by
    have h1 : isAggD (und Try.prog 24) = true := by kernel_rfl
    have h2 : szt Try.prog 24 = 32 := by kernel_rfl
    unfold xload
    simp only [hbA, h1, h2, if_true]
    rw [if_pos ⟨by omega, by omega⟩, ci]
  refine aw_seq ?_
  (refine aw_ops (by kernel_rfl) (fun K hK => ?_); simp (disch := first | omega | (simp only [lnS]; try omega; done)) [-getElem?_pos, -getElem?_neg, q0, q4, -notTuple, hnt, hvc, w11, w12, nt_intG, nt_slG, nt_ptrG, nt_aggG, hivl, -xindexAddr, hx, -xload, hlx, -xfill, hfil, all_zl, -xappend, ap2]; refine hK _ _ ?_; clear hK K)
  -- the back
  obtain ⟨w3, A3, F3, ap3, o3, le3, kp3, nf3⟩ := ownF_app (P := Try.prog) (nro := n) (t := 30) (e := 24) (H := A2) (v := w2) (x := xb) (sz := 32) (cells := kr (S.take k) ++ iv .u8 x) (news := kr (S.drop k)) (F := F2) (by simp) (by simp) (by omega) (by simp) o2 (fun j hj => by have := nf2' j hj; have := hlow.2; omega) xb4 (xb5 A2 (fun j hj => (kp2' j (by have := hlo j hj; omega) (fun h => by have := nf1 j h; have := hlo j hj; omega)).trans (kp1 j (hlo j hj) (by simp)))) (by rw [ld1]; omega) (by rw [List.length_append, lt1, ld1, hivl]; simp; omega) (by rw [List.length_append, lt1, ld1, hivl]; simp only [maxLen]; omega)
  obtain ⟨w31, w32⟩ := own_nt o3
  refine aw_seq ?_
  (refine aw_ops (by kernel_rfl) (fun K hK => ?_); simp (disch := first | omega | (simp only [lnS]; try omega; done)) [-getElem?_pos, -getElem?_neg, q3, q7, -notTuple, v1, v2, w21, w22, xb2, xb3, nt_intG, nt_slG, -xslice, xb1, -xappend, ap3]; refine hK _ _ ?_; clear hK K)
  (refine aw_ops (by kernel_rfl) (fun K hK => ?_); simp (disch := first | omega | (simp only [lnS]; try omega; done)) [-getElem?_pos, -getElem?_neg, -notTuple, w31, w32]; refine hK _ _ ?_; clear hK K)
  (refine aw_ops (by kernel_rfl) (fun K hK => ?_); simp (disch := first | omega | (simp only [lnS]; try omega; done)) [-getElem?_pos, -getElem?_neg, q4]; refine hK _ _ ?_; clear hK K)
  have hfin : kr (S.take k) ++ iv .u8 x ++ kr (S.drop k) = kr (S.take k ++ x :: S.drop k) := by
    rw [← kr_one, ← kr_app, ← kr_app]; simp
  rw [hfin] at o3
  refine ⟨c - 1, by omega, i + 1, w3, F3, _, by omega, by (first | (simp [put_at, put_none, fr0_at, q0]; done) | rfl), by (first | (simp [put_at, put_none, fr0_at]; done) | rfl), by (first | (simp [put_at, put_none, fr0_at]; done) | rfl), ⟨fun j hj => ?_, by have := hlow.2; omega⟩, o3, fun j hj => by have := nf3 j hj; have := hlow.2; omega, hp2, hr2⟩
  have hln := hlow.2
  rw [kp3 j (by omega) (fun h => by have := nf2' j h; omega), kp2' j (by omega) (fun h => by have := nf1 j h; omega), kp1 j (by omega) (by simp)]
  exact hlow.1 j hj
end
section
theorem notGreat_sm {l : List NodeD} (h : greatG l = false) : Sm6 l := fun x hx => by
  obtain ⟨k, hk, rfl⟩ := List.mem_iff_getElem.1 hx
  unfold greatG at h
  rw [Bool.or_eq_false_iff, List.any_eq_false] at h
  have h2 := h.2 k (List.mem_range.2 hk)
  have e : nd l k = l[k] := by
    have := nd_get hk
    rw [List.getElem?_eq_getElem hk] at this
    exact (Option.some.inj this).symm
  rw [e] at h2
  have h3 : greatO (l[k]).op = false := by
    cases hh : greatO (l[k]).op with
    | false => rfl
    | true => rw [hh] at h2; simp at h2
  unfold greatO at h3
  simp only [Bool.or_eq_false_iff, decide_eq_false_iff_not] at h3
  omega
attribute [local simp] wb_bool wb_undef with_lit XL_nil XL_cons XLc_val XLc_call step1_eq stepW_t stepW_f stepC_n stepC_s stepX_s stepX_n stepN_s calleeX oneV xop_eq xopR_s xopR_n wantedA_eq wantedG_n wantedG_s plain1_int plain1_bool plain1_string bits_i64 bits_u64 bits_u32 bits_u16 bits_u8 xeqA xagg xcmp xarr allK_iv num_iv calleeOf xread xeff xbin xint xnil xun xstr xload xconv xpart xfield xfieldAddr xindexAddr xindex bnd asInt? xslice xlen xmin xmax xbuild xfill xappend xapp2 xappstr xappmk xcap xcopy xcells eval_tmp eval_const put_at put_none fr0_at cells_agg cells_int cells_bool cells_string cells_ptr cells_slice notTuple tab iv_all hget_app hget_app0 hget_cons0 hget_cons set_app set_app0 setR setR_one QL_nil QL_cons QLc_val stepQ_t stepQ_f stepQC_n stepQC_s stepQX_s SL_nil SL_cons SLc_val stepS_t stepS_f ltT ltF leT leF eqT eqF ltTn ltFn leTn leFn eqTn eqFn beqT beqF bneT bneF wi64 wu64 wu32 wu16 wu8 tmodP tdivP hgetL hgetNe hgetEq setL nums_def nums_len Nat.succ_le_of_lt List.getElem?_cons_zero List.getElem?_cons_succ Option.getD_some Int.toNat_add Int.toNat_mul agM okM agB agI agS agP agL agA okB okI okS okP okSl okA
theorem rights_law {γ : Nat → Option Nat} {H : AH} {ds dm : List CD} {u w : Value} {id : List Int} (ho : OkL [.sl nodeK] ds) (hv : ValL H ds [u]) (hom : OkL [.sl nodeK] dm) (hvm : ValL H dm [w]) (hid : Key32 id) (a b : Int) : AC Try.prog H.length γ 3 #[u, w, .agg (iv .u8 id).toArray, .int .i64 a, .int .i64 b] H (fun v' _ => v' = .bool true) := by
  obtain ⟨l, hV, hw, hm⟩ := nodes_in ho hv
  obtain ⟨m, hVm, hwm, hmm⟩ := nodes_in hom hvm
  have hN := hV.nda hw
  have hM := hVm.nda hwm
  have al := alive_rc (γ := γ) (H := H)
  obtain ⟨v1, v2⟩ := val_nt hV
  obtain ⟨w1, w2⟩ := val_nt hVm
  have hivl : (iv .u8 id).length = 32 := by rw [iv_length, hid.1]
  have hta : (iv .u8 id).take 32 = iv .u8 id := List.take_of_length_le (by omega)
  refine ac_of_aw Try.func3 rfl Try.ntmps3 Try.results3 (by simp) ?_
  refine aw_seq ?_
  (refine aw_ops (by kernel_rfl) (fun K hK => ?_); simp (disch := first | omega | (simp only [lnS]; try omega; done)) [-getElem?_pos, -getElem?_neg, hivl, nt_aggG]; refine hK _ _ ?_; clear hK K)
  obtain ⟨G, hG⟩ : ∃ G : AH, G = H ++ [some ⟨iv .u8 id, 24, none⟩] := ⟨_, rfl⟩
  have b7 : hget G H.length = some ⟨iv .u8 id, 24, none⟩ := by rw [hG, hget_app0]; rfl
  have lw : Low H.length H G := hG ▸ Low.push (Nat.le_refl _) _
  have gl : G.length = H.length + 1 := by simp [hG]
  rw [← hG]
  clear hG
  have hNG := hN.lowG lw
  have hMG := hM.lowG lw
  have hVG : NdV G u l := CD.Val.low (fun j hj => lw.1 j hj) hV
  have al := alive_rc (γ := γ) (H := G)
  have gr := greatG_rc (γ := γ) hNG
  have gm := greatG_rc (γ := γ) hMG
  obtain ⟨n, hn⟩ : ∃ n, n = H.length := ⟨_, rfl⟩
  rw [← hn] at b7 gl lw ⊢
  refine aw_seq ?_
  refine aw_seq ?_
  refine aw_ops (by kernel_rfl) (fun K hK => ?_)
  simp (disch := first | omega | (simp only [lnS]; try omega; done)) [-getElem?_pos, -getElem?_neg]
  refine ⟨by kernel_rfl, ac_of_rc al (by simp [pv_iv, pv_int, pv_bool, pv_string, pv_tup2, pv_tup3, iv_plain, p2_int, p2_bool, p2_string]) ?_⟩
  try simp (disch := first | omega | (simp only [lnS]; try omega; done)) [-getElem?_pos, -getElem?_neg]
  refine hK _ _ ?_; clear hK K
  refine aw_f (by (first | (simp [eval_tmp, put_at]; done) | (simp [eval_tmp, put_at]; omega))) (by kernel_rfl) ?_
  refine aw_skip ?_
  refine aw_seq ?_
  refine aw_seq ?_
  refine aw_cut (fun α G2 => α 21 = .bool (greatG l || greatG m) ∧ α 0 = u ∧ α 1 = w ∧ α 3 = .int .i64 a ∧ α 4 = .int .i64 b ∧ α 7 = .pointer (some ⟨n, 0, none⟩) ∧ G2 = G) ?_ ?_
  · refine aw_ops (by kernel_rfl) (fun K hK => ?_)
    simp (disch := first | omega | (simp only [lnS]; try omega; done)) [-getElem?_pos, -getElem?_neg, -notTuple, v1, v2, nt_intG]
    refine ⟨by kernel_rfl, ac_of_rc gr (by simp [pv_iv, pv_int, pv_bool, pv_string, pv_tup2, pv_tup3, iv_plain, p2_int, p2_bool, p2_string]) ?_⟩
    cases hg : greatG l with
    | true =>
      try simp (disch := first | omega | (simp only [lnS]; try omega; done)) [-getElem?_pos, -getElem?_neg]
      refine hK _ _ ?_; clear hK K
      exact ⟨by rw [hg]; (first | (simp [put_at, put_none, fr0_at]; done) | rfl), by (first | (simp [put_at, put_none, fr0_at]; done) | rfl), by (first | (simp [put_at, put_none, fr0_at]; done) | rfl), by (first | (simp [put_at, put_none, fr0_at]; done) | rfl), by (first | (simp [put_at, put_none, fr0_at]; done) | rfl), by (first | (simp [put_at, put_none, fr0_at]; done) | rfl), rfl⟩
    | false =>
      simp (disch := first | omega | (simp only [lnS]; try omega; done)) [-getElem?_pos, -getElem?_neg, -notTuple, w1, w2, nt_intG]
      refine ⟨by kernel_rfl, ac_of_rc gm (by simp [pv_iv, pv_int, pv_bool, pv_string, pv_tup2, pv_tup3, iv_plain, p2_int, p2_bool, p2_string]) ?_⟩
      cases hg2 : greatG m with
      | true =>
        try simp (disch := first | omega | (simp only [lnS]; try omega; done)) [-getElem?_pos, -getElem?_neg]
        refine hK _ _ ?_; clear hK K
        exact ⟨by rw [hg, hg2]; (first | (simp [put_at, put_none, fr0_at]; done) | rfl), by (first | (simp [put_at, put_none, fr0_at]; done) | rfl), by (first | (simp [put_at, put_none, fr0_at]; done) | rfl), by (first | (simp [put_at, put_none, fr0_at]; done) | rfl), by (first | (simp [put_at, put_none, fr0_at]; done) | rfl), by (first | (simp [put_at, put_none, fr0_at]; done) | rfl), rfl⟩
      | false =>
        try simp (disch := first | omega | (simp only [lnS]; try omega; done)) [-getElem?_pos, -getElem?_neg]
        refine hK _ _ ?_; clear hK K
        exact ⟨by rw [hg, hg2]; (first | (simp [put_at, put_none, fr0_at]; done) | rfl), by (first | (simp [put_at, put_none, fr0_at]; done) | rfl), by (first | (simp [put_at, put_none, fr0_at]; done) | rfl), by (first | (simp [put_at, put_none, fr0_at]; done) | rfl), by (first | (simp [put_at, put_none, fr0_at]; done) | rfl), by (first | (simp [put_at, put_none, fr0_at]; done) | rfl), rfl⟩
  rintro α G2 ⟨q21, q0, q1, q3, q4, q7, rfl⟩
  cases hb : (greatG l || greatG m) with
  | true =>
    rw [hb] at q21
    refine aw_t (by (first | (simp [eval_tmp, put_at, q21]; done) | (simp [eval_tmp, put_at, q21]; omega))) (by kernel_rfl) ?_
    refine aw_seq ?_
    refine aw_ops (by kernel_rfl) (fun K hK => ?_)
    simp (disch := first | omega | (simp only [lnS]; try omega; done)) [-getElem?_pos, -getElem?_neg]
    refine ⟨by kernel_rfl, ac_of_rc al (by simp [pv_iv, pv_int, pv_bool, pv_string, pv_tup2, pv_tup3, iv_plain, p2_int, p2_bool, p2_string]) ?_⟩
    try simp (disch := first | omega | (simp only [lnS]; try omega; done)) [-getElem?_pos, -getElem?_neg]
    refine hK _ _ ?_; clear hK K
    (refine aw_ret ?_; simp (disch := first | omega | (simp only [lnS]; try omega; done)) [-getElem?_pos, -getElem?_neg, thenQ_ret, scopeQ_ret, inBlockQ_ret, RQ, resL, resV])
  | false =>
  rw [hb] at q21
  refine aw_f (by (first | (simp [eval_tmp, put_at, q21]; done) | (simp [eval_tmp, put_at, q21]; omega))) (by kernel_rfl) ?_
  refine aw_skip ?_
  rw [Bool.or_eq_false_iff] at hb
  obtain ⟨hg, hg2⟩ := hb
  have hl110 : l.length ≤ 110 := by
    unfold greatG at hg
    rw [Bool.or_eq_false_iff, decide_eq_false_iff_not] at hg
    omega
  have hlm : l.length ≤ maxLen := by simp only [maxLen]; omega
  have sl := notGreat_sm hg
  have sm := notGreat_sm hg2
  have rr := rRightG_rc (γ := γ) hVG hw hlm
  have rg := graph_right_rc (γ := γ) hNG
  have rf := find_rc (γ := γ) hNG hlm hid.1
  have rf2 := rFind_rc (γ := γ) hNG hlm hid.1
  have rs := gSame_rc (γ := γ) hNG hMG hlm
  have rs2 := rSame_rc (γ := γ) hNG hMG sl sm hlm
  have rs3 := gSame_rc (γ := γ) hNG hNG hlm
  rw [decide_eq_true rfl] at rs3
  have hxl := hNG.len
  have ra := ahead_rc (γ := γ) hNG a b
  have rp := apart_rc (γ := γ) hNG a b
  have rh := heads_rc (γ := γ) hNG
  refine aw_seq ?_
  refine aw_ops (by kernel_rfl) (fun K hK => ?_)
  simp (disch := first | omega | (simp only [lnS]; try omega; done)) [-getElem?_pos, -getElem?_neg, q0, -notTuple, v1, v2, nt_intG]
  refine ⟨by kernel_rfl, ac_of_rc rr (by simp [pv_iv, pv_int, pv_bool, pv_string, pv_tup2, pv_tup3, iv_plain, p2_int, p2_bool, p2_string]) ?_⟩
  try simp (disch := first | omega | (simp only [lnS]; try omega; done)) [-getElem?_pos, -getElem?_neg]
  refine hK _ _ ?_; clear hK K
  refine aw_seq ?_
  refine aw_seq ?_
  refine aw_cut (fun α G => α 56 = .bool false ∧ α 0 = u ∧ α 3 = .int .i64 a ∧ α 4 = .int .i64 b ∧ α 11 = .bool (rightG l) ∧ G = G2) ?_ ?_
  · (refine aw_plan [] [] [0, 1, 2, 3, 4, 5, 6, 7, 8, 9, 10, 11, 12, 13, 14, 15, 16, 17, 18, 19, 20, 21, 22, 23, 24, 25, 26, 27, 28, 29, 30, 31] 32 0 (by kernel_rfl) (by kernel_rfl) (by kernel_rfl) (fun K hK => ?_)); simp only [sel, List.getElem?_cons_succ, List.getElem?_cons_zero, List.drop_succ_cons, List.drop_zero]; simp (disch := first | omega | (simp only [lnS]; try omega; done)) [-getElem?_pos, -getElem?_neg, q0, q1, q7, b7, hivl, hta, -notTuple, v1, v2, w1, w2, nt_intG, nt_ptrG, nt_aggG, PL_nil, plainB_lit, PL_cons, PLc_val, PLc_new, stepP_t, stepP_f, stepPC_n, stepPC_s, stepPX_s, stepPX_n, stepPV_n, stepPV_s, stepPA_t, stepPA_c, stepPA_l, stepPN_s, allocOp, reloc_sl, reloc_ptr, List.map_cons, List.map_nil, List.nil_append, List.append_assoc, List.cons_append, Nat.add_assoc]
    refine PLc_call (v := .bool true) (by kernel_rfl) (fun L hL => alive_rc) (by simp [pv_iv, pv_int, pv_bool, pv_string, pv_tup2, pv_tup3, iv_plain, p2_int, p2_bool, p2_string]) ?_
    simp (disch := first | omega | (simp only [lnS]; try omega; done)) [-getElem?_pos, -getElem?_neg, q0, q1, q7, b7, hivl, hta, -notTuple, v1, v2, w1, w2, nt_intG, nt_ptrG, nt_aggG, PL_nil, plainB_lit, PL_cons, PLc_val, PLc_new, stepP_t, stepP_f, stepPC_n, stepPC_s, stepPX_s, stepPX_n, stepPV_n, stepPV_s, stepPA_t, stepPA_c, stepPA_l, stepPN_s, allocOp, reloc_sl, reloc_ptr, List.map_cons, List.map_nil, List.nil_append, List.append_assoc, List.cons_append, Nat.add_assoc]
    refine PLc_call (v := .bool (rightG l)) (by kernel_rfl) (fun L hL => graph_right_rc (hNG.lowG (Low.push (Nat.le_refl _) L))) (by simp [pv_iv, pv_int, pv_bool, pv_string, pv_tup2, pv_tup3, iv_plain, p2_int, p2_bool, p2_string]) ?_
    simp (disch := first | omega | (simp only [lnS]; try omega; done)) [-getElem?_pos, -getElem?_neg, q0, q1, q7, b7, hivl, hta, -notTuple, v1, v2, w1, w2, nt_intG, nt_ptrG, nt_aggG, PL_nil, plainB_lit, PL_cons, PLc_val, PLc_new, stepP_t, stepP_f, stepPC_n, stepPC_s, stepPX_s, stepPX_n, stepPV_n, stepPV_s, stepPA_t, stepPA_c, stepPA_l, stepPN_s, allocOp, reloc_sl, reloc_ptr, List.map_cons, List.map_nil, List.nil_append, List.append_assoc, List.cons_append, Nat.add_assoc]
    refine PLc_call (v := .int .i64 (findI l l.length id)) (by kernel_rfl) (fun L hL => find_rc (hNG.lowG (Low.push (Nat.le_refl _) L)) hlm hid.1) (by simp [pv_iv, pv_int, pv_bool, pv_string, pv_tup2, pv_tup3, iv_plain, p2_int, p2_bool, p2_string]) ?_
    simp (disch := first | omega | (simp only [lnS]; try omega; done)) [-getElem?_pos, -getElem?_neg, q0, q1, q7, b7, hivl, hta, -notTuple, v1, v2, w1, w2, nt_intG, nt_ptrG, nt_aggG, PL_nil, plainB_lit, PL_cons, PLc_val, PLc_new, stepP_t, stepP_f, stepPC_n, stepPC_s, stepPX_s, stepPX_n, stepPV_n, stepPV_s, stepPA_t, stepPA_c, stepPA_l, stepPN_s, allocOp, reloc_sl, reloc_ptr, List.map_cons, List.map_nil, List.nil_append, List.append_assoc, List.cons_append, Nat.add_assoc]
    refine PLc_call (v := .int .i64 (findI l l.length id)) (by kernel_rfl) (fun L hL => rFind_rc (hNG.lowG (Low.push (Nat.le_refl _) L)) hlm hid.1) (by simp [pv_iv, pv_int, pv_bool, pv_string, pv_tup2, pv_tup3, iv_plain, p2_int, p2_bool, p2_string]) ?_
    simp (disch := first | omega | (simp only [lnS]; try omega; done)) [-getElem?_pos, -getElem?_neg, q0, q1, q7, b7, hivl, hta, -notTuple, v1, v2, w1, w2, nt_intG, nt_ptrG, nt_aggG, PL_nil, plainB_lit, PL_cons, PLc_val, PLc_new, stepP_t, stepP_f, stepPC_n, stepPC_s, stepPX_s, stepPX_n, stepPV_n, stepPV_s, stepPA_t, stepPA_c, stepPA_l, stepPN_s, allocOp, reloc_sl, reloc_ptr, List.map_cons, List.map_nil, List.nil_append, List.append_assoc, List.cons_append, Nat.add_assoc]
    refine PLc_call (v := .bool (decide (l = m))) (by kernel_rfl) (fun L hL => gSame_rc (hNG.lowG (Low.push (Nat.le_refl _) L)) (hMG.lowG (Low.push (Nat.le_refl _) L)) hlm) (by simp [pv_iv, pv_int, pv_bool, pv_string, pv_tup2, pv_tup3, iv_plain, p2_int, p2_bool, p2_string]) ?_
    simp (disch := first | omega | (simp only [lnS]; try omega; done)) [-getElem?_pos, -getElem?_neg, q0, q1, q7, b7, hivl, hta, -notTuple, v1, v2, w1, w2, nt_intG, nt_ptrG, nt_aggG, PL_nil, plainB_lit, PL_cons, PLc_val, PLc_new, stepP_t, stepP_f, stepPC_n, stepPC_s, stepPX_s, stepPX_n, stepPV_n, stepPV_s, stepPA_t, stepPA_c, stepPA_l, stepPN_s, allocOp, reloc_sl, reloc_ptr, List.map_cons, List.map_nil, List.nil_append, List.append_assoc, List.cons_append, Nat.add_assoc]
    refine PLc_call (v := .bool (decide (l = m))) (by kernel_rfl) (fun L hL => rSame_rc (hNG.lowG (Low.push (Nat.le_refl _) L)) (hMG.lowG (Low.push (Nat.le_refl _) L)) sl sm hlm) (by simp [pv_iv, pv_int, pv_bool, pv_string, pv_tup2, pv_tup3, iv_plain, p2_int, p2_bool, p2_string]) ?_
    simp (disch := first | omega | (simp only [lnS]; try omega; done)) [-getElem?_pos, -getElem?_neg, q0, q1, q7, b7, hivl, hta, -notTuple, v1, v2, w1, w2, nt_intG, nt_ptrG, nt_aggG, PL_nil, plainB_lit, PL_cons, PLc_val, PLc_new, stepP_t, stepP_f, stepPC_n, stepPC_s, stepPX_s, stepPX_n, stepPV_n, stepPV_s, stepPA_t, stepPA_c, stepPA_l, stepPN_s, allocOp, reloc_sl, reloc_ptr, List.map_cons, List.map_nil, List.nil_append, List.append_assoc, List.cons_append, Nat.add_assoc]
    refine PLc_call (v := .bool true) (by kernel_rfl) (fun L hL => by have h := gSame_rc (γ := γ) (hNG.lowG (Low.push (Nat.le_refl _) L)) (hNG.lowG (Low.push (Nat.le_refl _) L)) hlm; rwa [decide_eq_true rfl] at h) (by simp [pv_iv, pv_int, pv_bool, pv_string, pv_tup2, pv_tup3, iv_plain, p2_int, p2_bool, p2_string]) ?_
    try simp (disch := first | omega | (simp only [lnS]; try omega; done)) [-getElem?_pos, -getElem?_neg, q0, q1, q7, b7, hivl, hta, -notTuple, v1, v2, w1, w2, nt_intG, nt_ptrG, nt_aggG, PL_nil, plainB_lit, PL_cons, PLc_val, PLc_new, stepP_t, stepP_f, stepPC_n, stepPC_s, stepPX_s, stepPX_n, stepPV_n, stepPV_s, stepPA_t, stepPA_c, stepPA_l, stepPN_s, allocOp, reloc_sl, reloc_ptr, List.map_cons, List.map_nil, List.nil_append, List.append_assoc, List.cons_append, Nat.add_assoc]
    refine hK _ _ ?_; clear hK K
    exact ⟨by (first | (simp [put_at, put_none, fr0_at]; done) | rfl), by (first | (simp [put_at, put_none, fr0_at, q0]; done) | rfl), by (first | (simp [put_at, put_none, fr0_at, q3]; done) | rfl), by (first | (simp [put_at, put_none, fr0_at, q4]; done) | rfl), by (first | (simp [put_at, put_none, fr0_at]; done) | rfl), rfl⟩
  clear q0 q1 q3 q4 q7 q21
  rintro α G ⟨q56, q0, q3, q4, q11, rfl⟩
  refine aw_f (by (first | (simp [eval_tmp, put_at, q56]; done) | (simp [eval_tmp, put_at, q56]; omega))) (by kernel_rfl) ?_
  refine aw_skip ?_
  refine aw_seq ?_
  refine aw_seq ?_
  refine aw_cut (fun α G2 => α 78 = .bool (!(rightG l && (isP l a && isP l b))) ∧ α 0 = u ∧ α 3 = .int .i64 a ∧ α 4 = .int .i64 b ∧ α 11 = .bool (rightG l) ∧ G2 = G) ?_ ?_
  · cases hr : rightG l with
    | false =>
      rw [hr] at q11
      (refine aw_ops (by kernel_rfl) (fun K hK => ?_); simp (disch := first | omega | (simp only [lnS]; try omega; done)) [-getElem?_pos, -getElem?_neg, q0, q3, q4, q11, -notTuple, v1, v2, nt_intG, -xlen, hxl]; refine hK _ _ ?_; clear hK K)
      exact ⟨by (first | (simp [put_at, put_none, fr0_at]; done) | rfl), by (first | (simp [put_at, put_none, fr0_at, q0]; done) | rfl), by (first | (simp [put_at, put_none, fr0_at, q3]; done) | rfl), by (first | (simp [put_at, put_none, fr0_at, q4]; done) | rfl), by (first | (simp [put_at, put_none, fr0_at, q11]; done) | rfl), rfl⟩
    | true =>
      rw [hr] at q11
      by_cases a0 : a < 0
      · have ep : isP l a = false := by unfold isP; simp; omega
        (refine aw_ops (by kernel_rfl) (fun K hK => ?_); simp (disch := first | omega | (simp only [lnS]; try omega; done)) [-getElem?_pos, -getElem?_neg, q0, q3, q4, q11, -notTuple, v1, v2, nt_intG, -xlen, hxl, a0]; refine hK _ _ ?_; clear hK K)
        exact ⟨by rw [ep]; (first | (simp [put_at, put_none, fr0_at]; done) | rfl), by (first | (simp [put_at, put_none, fr0_at, q0]; done) | rfl), by (first | (simp [put_at, put_none, fr0_at, q3]; done) | rfl), by (first | (simp [put_at, put_none, fr0_at, q4]; done) | rfl), by (first | (simp [put_at, put_none, fr0_at, q11]; done) | rfl), rfl⟩
      by_cases b0 : b < 0
      · have ep : isP l b = false := by unfold isP; simp; omega
        (refine aw_ops (by kernel_rfl) (fun K hK => ?_); simp (disch := first | omega | (simp only [lnS]; try omega; done)) [-getElem?_pos, -getElem?_neg, q0, q3, q4, q11, -notTuple, v1, v2, nt_intG, -xlen, hxl, a0, b0]; refine hK _ _ ?_; clear hK K)
        exact ⟨by rw [ep, Bool.and_false]; (first | (simp [put_at, put_none, fr0_at]; done) | rfl), by (first | (simp [put_at, put_none, fr0_at, q0]; done) | rfl), by (first | (simp [put_at, put_none, fr0_at, q3]; done) | rfl), by (first | (simp [put_at, put_none, fr0_at, q4]; done) | rfl), by (first | (simp [put_at, put_none, fr0_at, q11]; done) | rfl), rfl⟩
      by_cases a1 : (l.length : Int) ≤ a
      · have ep : isP l a = false := by unfold isP; simp; omega
        (refine aw_ops (by kernel_rfl) (fun K hK => ?_); simp (disch := first | omega | (simp only [lnS]; try omega; done)) [-getElem?_pos, -getElem?_neg, q0, q3, q4, q11, -notTuple, v1, v2, nt_intG, -xlen, hxl, a0, b0, a1]; refine hK _ _ ?_; clear hK K)
        exact ⟨by rw [ep]; (first | (simp [put_at, put_none, fr0_at]; done) | rfl), by (first | (simp [put_at, put_none, fr0_at, q0]; done) | rfl), by (first | (simp [put_at, put_none, fr0_at, q3]; done) | rfl), by (first | (simp [put_at, put_none, fr0_at, q4]; done) | rfl), by (first | (simp [put_at, put_none, fr0_at, q11]; done) | rfl), rfl⟩
      by_cases b1 : (l.length : Int) ≤ b
      · have ep : isP l b = false := by unfold isP; simp; omega
        (refine aw_ops (by kernel_rfl) (fun K hK => ?_); simp (disch := first | omega | (simp only [lnS]; try omega; done)) [-getElem?_pos, -getElem?_neg, q0, q3, q4, q11, -notTuple, v1, v2, nt_intG, -xlen, hxl, a0, b0, a1, b1]; refine hK _ _ ?_; clear hK K)
        exact ⟨by rw [ep, Bool.and_false]; (first | (simp [put_at, put_none, fr0_at]; done) | rfl), by (first | (simp [put_at, put_none, fr0_at, q0]; done) | rfl), by (first | (simp [put_at, put_none, fr0_at, q3]; done) | rfl), by (first | (simp [put_at, put_none, fr0_at, q4]; done) | rfl), by (first | (simp [put_at, put_none, fr0_at, q11]; done) | rfl), rfl⟩
      have ep : isP l a = true := by unfold isP; simp; omega
      have ep2 : isP l b = true := by unfold isP; simp; omega
      (refine aw_ops (by kernel_rfl) (fun K hK => ?_); simp (disch := first | omega | (simp only [lnS]; try omega; done)) [-getElem?_pos, -getElem?_neg, q0, q3, q4, q11, -notTuple, v1, v2, nt_intG, -xlen, hxl, a0, b0, a1, b1]; refine hK _ _ ?_; clear hK K)
      exact ⟨by rw [ep, ep2]; (first | (simp [put_at, put_none, fr0_at]; done) | rfl), by (first | (simp [put_at, put_none, fr0_at, q0]; done) | rfl), by (first | (simp [put_at, put_none, fr0_at, q3]; done) | rfl), by (first | (simp [put_at, put_none, fr0_at, q4]; done) | rfl), by (first | (simp [put_at, put_none, fr0_at, q11]; done) | rfl), rfl⟩
  clear q0 q3 q4 q11 q56
  rintro α G2 ⟨q78, q0, q3, q4, q11, rfl⟩
  cases hok : (rightG l && (isP l a && isP l b)) with
  | false =>
    rw [hok] at q78
    have ha0 : aheadB l a b = false := by
      unfold aheadB
      revert hok
      cases rightG l <;> cases isP l a <;> cases isP l b <;> simp
    have hp0 : apartB l a b = false := by
      unfold apartB
      revert hok
      cases rightG l <;> cases isP l a <;> cases isP l b <;> simp
    rw [ha0] at ra
    rw [hp0] at rp
    refine aw_t (by (first | (simp [eval_tmp, put_at, q78]; done) | (simp [eval_tmp, put_at, q78]; omega))) (by kernel_rfl) ?_
    refine aw_seq ?_
    refine aw_cut (fun α G => α 10 = .bool true ∧ True) ?_ ?_
    · refine aw_ops (by kernel_rfl) (fun K hK => ?_)
      simp (disch := first | omega | (simp only [lnS]; try omega; done)) [-getElem?_pos, -getElem?_neg, q0, q3, q4, q11, -notTuple, v1, v2, nt_intG]
      refine ⟨by kernel_rfl, ac_of_rc ra (by simp [pv_iv, pv_int, pv_bool, pv_string, pv_tup2, pv_tup3, iv_plain, p2_int, p2_bool, p2_string]) ?_⟩
      simp (disch := first | omega | (simp only [lnS]; try omega; done)) [-getElem?_pos, -getElem?_neg, q0, q3, q4, q11, -notTuple, v1, v2, nt_intG]
      refine ⟨by kernel_rfl, ac_of_rc rp (by simp [pv_iv, pv_int, pv_bool, pv_string, pv_tup2, pv_tup3, iv_plain, p2_int, p2_bool, p2_string]) ?_⟩
      cases hr : rightG l with
      | true =>
        rw [hr] at q11
        simp (disch := first | omega | (simp only [lnS]; try omega; done)) [-getElem?_pos, -getElem?_neg, q0, q3, q4, q11, -notTuple, v1, v2, nt_intG]
        refine hK _ _ ?_; clear hK K
        exact ⟨by (first | (simp [put_at, put_none, fr0_at]; done) | rfl), trivial⟩
      | false =>
        rw [hr] at q11
        simp (disch := first | omega | (simp only [lnS]; try omega; done)) [-getElem?_pos, -getElem?_neg, q0, q3, q4, q11, -notTuple, v1, v2, nt_intG]
        refine ⟨by kernel_rfl, (rh.thaw (nro := n) (fun v G' h => ⟨h.1.2, h.1.1⟩)).mono ?_⟩
        rintro hvv G3 ⟨low, ⟨hbad, _⟩ | ⟨_, rfl⟩⟩
        · rw [hr] at hbad; cases hbad
        simp (disch := first | omega | (simp only [lnS]; try omega; done)) [-getElem?_pos, -getElem?_neg]
        refine hK _ _ ?_; clear hK K
        exact ⟨by (first | (simp [put_at, put_none, fr0_at]; done) | rfl), trivial⟩
    rintro α G3 ⟨q10, _⟩
    (refine aw_ret ?_; simp (disch := first | omega | (simp only [lnS]; try omega; done)) [-getElem?_pos, -getElem?_neg, thenQ_ret, scopeQ_ret, inBlockQ_ret, RQ, resL, resV, q10])
  | true =>
  rw [hok] at q78
  refine aw_f (by (first | (simp [eval_tmp, put_at, q78]; done) | (simp [eval_tmp, put_at, q78]; omega))) (by kernel_rfl) ?_
  refine aw_skip ?_
  simp only [Bool.and_eq_true] at hok
  obtain ⟨hr, hpa, hpb⟩ := hok
  obtain ⟨i, rfl, hi⟩ := isP_nat hpa
  obtain ⟨j, rfl, hj⟩ := isP_nat hpb
  have ea : aheadB l i j = decide ((i : Int) ∈ (nd l j).past) := by
    unfold aheadB pastAt
    rw [hr, hpa, hpb]
    simp
  have eb : apartB l i j = (!decide ((i : Int) ∈ (nd l j).past) && (!decide ((j : Int) ∈ (nd l i).past) && !decide ((i : Int) = (j : Int)))) := by
    unfold apartB pastAt
    rw [hr, hpa, hpb, Int.toNat_natCast, Int.toNat_natCast]
    cases decide ((i : Int) = (j : Int)) <;> cases decide ((i : Int) ∈ (nd l j).past) <;> cases decide ((j : Int) ∈ (nd l i).past) <;> rfl
  rw [ea] at ra
  rw [eb] at rp
  obtain ⟨j1, c1, bb1, k1, x1, x2, x3, x4, x5, x6, x7⟩ := hNG.past_at (Low.refl (Nat.le_refl _)) hj
  obtain ⟨j2, c2, bb2, k2, y1, y2, y3, y4, y5, y6, y7⟩ := hNG.past_at (Low.refl (Nat.le_refl _)) hi
  have in1 := rIn_rc (γ := γ) x4 x5 (i : Int)
  have in2 := rIn_rc (γ := γ) y4 y5 (j : Int)
  obtain ⟨p, hp⟩ : ∃ p, p = decide ((i : Int) ∈ (nd l j).past) := ⟨_, rfl⟩
  obtain ⟨q, hq⟩ : ∃ q, q = decide ((j : Int) ∈ (nd l i).past) := ⟨_, rfl⟩
  rw [← hp] at in1 ra rp
  rw [← hq] at in2 rp
  refine aw_seq ?_
  refine aw_ops (by kernel_rfl) (fun K hK => ?_)
  simp (disch := first | omega | (simp only [lnS]; try omega; done)) [-getElem?_pos, -getElem?_neg, q0, q3, q4, -notTuple, v1, v2, nt_intG, nt_ptrG, -xindexAddr, x1, x2, x3, x6, x7]
  refine ⟨by kernel_rfl, ac_of_rc in1 (by simp [pv_iv, pv_int, pv_bool, pv_string, pv_tup2, pv_tup3, iv_plain, p2_int, p2_bool, p2_string]) ?_⟩
  try simp (disch := first | omega | (simp only [lnS]; try omega; done)) [-getElem?_pos, -getElem?_neg]
  refine hK _ _ ?_; clear hK K
  refine aw_seq ?_
  refine aw_ops (by kernel_rfl) (fun K hK => ?_)
  simp (disch := first | omega | (simp only [lnS]; try omega; done)) [-getElem?_pos, -getElem?_neg, q0, q3, q4, -notTuple, v1, v2, nt_intG, nt_ptrG, -xindexAddr, y1, y2, y3, y6, y7]
  refine ⟨by kernel_rfl, ac_of_rc in2 (by simp [pv_iv, pv_int, pv_bool, pv_string, pv_tup2, pv_tup3, iv_plain, p2_int, p2_bool, p2_string]) ?_⟩
  try simp (disch := first | omega | (simp only [lnS]; try omega; done)) [-getElem?_pos, -getElem?_neg]
  refine hK _ _ ?_; clear hK K
  refine aw_seq ?_
  refine aw_cut (fun α G => α 10 = .bool true ∧ True) ?_ ?_
  · have hkl : K32 (headsL l) := fun k hk => by
      obtain ⟨a, ha, rfl⟩ := mem_headsL.1 hk
      exact (hw _ (List.mem_of_getElem? (nd_get (mem_headP.1 ha).1))).id.1
    have hll := headP_len hr
    rw [← headsL_len] at hll
    have hhm : (headsL l).length ≤ maxLen := by simp only [maxLen]; omega
    clear hp hq in1 in2 ea eb
    cases p <;> cases q <;> by_cases hij : (i : Int) = (j : Int)
    all_goals
      (first | rw [decide_eq_true hij] at rp | rw [decide_eq_false hij] at rp)
      have hij2 := hij
      try rw [Int.natCast_inj] at hij2
      refine aw_ops (by kernel_rfl) (fun K hK => ?_)
      simp (disch := first | omega | (simp only [lnS]; try omega; done)) [-getElem?_pos, -getElem?_neg, q0, q3, q4, -notTuple, v1, v2, nt_intG]
      refine ⟨by kernel_rfl, ac_of_rc ra (by simp [pv_iv, pv_int, pv_bool, pv_string, pv_tup2, pv_tup3, iv_plain, p2_int, p2_bool, p2_string]) ?_⟩
      simp (disch := first | omega | (simp only [lnS]; try omega; done)) [-getElem?_pos, -getElem?_neg, q0, q3, q4, -notTuple, v1, v2, nt_intG]
      refine ⟨by kernel_rfl, ac_of_rc rp (by simp [pv_iv, pv_int, pv_bool, pv_string, pv_tup2, pv_tup3, iv_plain, p2_int, p2_bool, p2_string]) ?_⟩
      simp (disch := first | omega | (simp only [lnS]; try omega; done)) [-getElem?_pos, -getElem?_neg, q0, q3, q4, -notTuple, v1, v2, nt_intG, hij, hij2]
      refine ⟨by kernel_rfl, (rh.thaw (nro := n) (fun v G' h => ⟨h.1.2, h.1.1⟩)).mono ?_⟩
      rintro hv1 G4 ⟨low1, ⟨_, F1, ho1, hF1⟩ | ⟨hbad, _⟩⟩
      case inr => rw [hr] at hbad; cases hbad
      obtain ⟨h11, h12⟩ := own_nt ho1
      try simp (disch := first | omega | (simp only [lnS]; try omega; done)) [-getElem?_pos, -getElem?_neg, q0, -notTuple, v1, v2, h11, h12]
      refine ⟨by kernel_rfl, ((rHeads_rc (γ := γ) (hNG.lowG low1) hr).thaw (nro := n) (fun v G' h => ⟨h.1.2, h.1.1⟩)).mono ?_⟩
      rintro hv2 G5 ⟨low2, F2, ho2⟩
      obtain ⟨h21, h22⟩ := own_nt ho2
      have ho1' := ho1.low (H' := G5) (fun j hj => low2.1 j (ho1.lt j hj))
      have hsk := sameKeys_rc (γ := γ) (kr_ksv ho1' hkl) (kr_ksv ho2 hkl) hkl hkl hhm
      rw [decide_eq_true rfl] at hsk
      try simp (disch := first | omega | (simp only [lnS]; try omega; done)) [-getElem?_pos, -getElem?_neg, -notTuple, h11, h12, h21, h22]
      refine ⟨by kernel_rfl, ac_of_rc hsk (by simp [pv_iv, pv_int, pv_bool, pv_string, pv_tup2, pv_tup3, iv_plain, p2_int, p2_bool, p2_string]) ?_⟩
      try simp (disch := first | omega | (simp only [lnS]; try omega; done)) [-getElem?_pos, -getElem?_neg]
      refine hK _ _ ?_; clear hK K
      exact ⟨by (first | (simp [put_at, put_none, fr0_at]; done) | rfl), trivial⟩
  rintro α G3 ⟨q10, _⟩
  (refine aw_ret ?_; simp (disch := first | omega | (simp only [lnS]; try omega; done)) [-getElem?_pos, -getElem?_neg, thenQ_ret, scopeQ_ret, inBlockQ_ret, RQ, resL, resV, q10])
end
end Go.Proofs.Ytcbfbmdglhlbmaa
