/-
  What lives: alive; items that come in; great.
  Items that come in; great; WireWrites.
  WireWrites, walked.
-/
import Derived.Test.YtpdijcaikjobiaaWrC
import Derived.Test.YtpdijcaikjobiaaRdA
import Derived.Test.YtpdijcaikjobiaaLibD
namespace Go.Proofs.Ytpdijcaikjobiaa
section
open Go Go.RowKit
set_option linter.unusedVariables false
set_option linter.unusedSimpArgs false
set_option maxRecDepth 100000
set_option maxHeartbeats 4000000
/-- Nothing turned that was there. -/
def Same0 (H H' : AH) : Prop := H.length ≤ H'.length ∧ ∀ j, j < H.length → hget H' j = hget H j
theorem Same0.refl (H : AH) : Same0 H H := ⟨Nat.le_refl _, fun _ _ => rfl⟩
theorem Same0.trans {H G K : AH} (h : Same0 H G) (k : Same0 G K) : Same0 H K := ⟨Nat.le_trans h.1 k.1, fun j hj => (k.2 j (Nat.lt_of_lt_of_le hj h.1)).trans (h.2 j hj)⟩
theorem Same0.app (H L : AH) : Same0 H (H ++ L) := ⟨by simp, fun j hj => hget_left hj⟩
theorem Same0.set {H G : AH} (h : Same0 H G) {p : Nat} (hp : H.length ≤ p) (x : Option Blk) : Same0 H (G.set p x) := ⟨by simpa using h.1, fun j hj => (hget_set_ne (by omega)).trans (h.2 j hj)⟩
theorem Same0.fr {H G K : AH} {F F' : List Nat} (h : Same0 H G) (hf : Fr G K F F') (hF : ∀ j ∈ F, H.length ≤ j) : Same0 H K :=
  ⟨Nat.le_trans h.1 hf.len, fun j hj => (hf.out j (Nat.lt_of_lt_of_le hj h.1) (fun hm => by have := hF j hm; omega)).trans (h.2 j hj)⟩
theorem wr_new {H : AH} {G : AH} (hG : G = H ++ [some ⟨[.slice none 0 0], 27, none⟩]) : Wr G H.length [H.length] [] := by
  subst hG
  exact ⟨.slice none 0 0, [], rfl, by rw [hget_app0]; rfl, .inl ⟨rfl, rfl, rfl⟩, by simp⟩
def ab : ByteArray := { data := #[97, 98] }
def liveB : List Int := [0, 127, 129, 0, 143, 255, 255, 255, 127, 2, 97, 98]
theorem live1 : numsB [0, 127, 128, 4294967295] ++ textsB [ab] = liveB := by decide +kernel
theorem live_r1 : rdNum liveB = (0, liveB.drop 1, 0) := by decide +kernel
theorem live_r2 : rdNum (liveB.drop 1) = (127, liveB.drop 2, 0) := by decide +kernel
theorem live_r3 : rdNum (liveB.drop 2) = (128, liveB.drop 4, 0) := by decide +kernel
theorem live_r4 : rdNum (liveB.drop 4) = (4294967295, liveB.drop 9, 0) := by decide +kernel
theorem live_r5 : rdText 2 (liveB.drop 9) = ([97, 98], [], 0) := by decide +kernel
theorem live_by : By liveB := by unfold liveB By; decide
theorem By.drop {l : List Int} (h : By l) (n : Nat) : By (l.drop n) := fun x hx => h x (List.mem_of_mem_drop hx)
attribute [local irreducible] liveB
attribute [local simp] wb_bool wb_undef XL_nil XL_cons XLc_val XLc_call step1_eq stepW_t stepW_f stepC_n stepC_s stepX_s stepX_n stepN_s calleeX oneV xop_eq xopR_s xopR_n wantedA_eq wantedG_n wantedG_s plain1_int plain1_bool plain1_string bits_i64 bits_u64 bits_u32 bits_u16 bits_u8 xeqA xarr allK_iv num_iv calleeOf xread xeff xbin xint xnil xun xstr xload xconv xpart xfield xfieldAddr xindexAddr xindex bnd asInt? xslice xlen xmin xmax xbuild xfill xappend xapp2 xappstr xappmk xcap xcopy xcells eval_tmp eval_const put_at put_none fr0_at cells_agg cells_int cells_bool cells_string cells_ptr cells_slice notTuple tab iv_all hget_app hget_app0 hget_cons0 hget_cons set_app set_app0 setR setR_one QL_nil QL_cons QLc_val stepQ_t stepQ_f stepQC_n stepQC_s stepQX_s SL_nil SL_cons SLc_val stepS_t stepS_f ltT ltF leT leF eqT eqF ltTn ltFn leTn leFn eqTn eqFn beqT beqF bneT bneF wi64 wu64 wu32 wu16 wu8 tmodP tdivP hgetL hgetNe hgetEq setL nums_def nums_len Nat.succ_le_of_lt List.getElem?_cons_zero List.getElem?_cons_succ Option.getD_some Int.toNat_add Int.toNat_mul agB agI agS agP agL agA okB okI okS okP okSl okA
theorem alive_ac {H : AH} {γ : Nat → Option Nat} {nro : Nat} (hnl : nro ≤ H.length) :
    AC Try.prog nro γ 7 #[] H (fun v' H' => v' = .bool true ∧ Same0 H H') := by
  have hlb : liveB.length = 12 := by unfold liveB; rfl
  have hsl : strOfNums liveB = { data := #[0, 127, 129, 0, 143, 255, 255, 255, 127, 2, 97, 98] } := by unfold liveB; rfl
  have hsa : strOfNums [97, 98] = { data := #[97, 98] } := rfl
  refine ac_of_aw Try.func7 rfl Try.ntmps7 Try.results7 (by simp) ?_
  refine aw_seq ?_
  (refine aw_ops (by kernel_rfl) (fun K hK => ?_); simp (disch := first | omega | (simp only [List.length_set, List.length_append, List.length_cons, List.length_nil, iv_length, zl_length]; try omega; done)) [-getElem?_pos, -getElem?_neg]; refine hK _ _ ?_; clear hK K)
  refine aw_seq ?_
  (refine aw_ops (by kernel_rfl) (fun K hK => ?_); simp (disch := first | omega | (simp only [List.length_set, List.length_append, List.length_cons, List.length_nil, iv_length, zl_length]; try omega; done)) [-getElem?_pos, -getElem?_neg]; refine hK _ _ ?_; clear hK K)
  have hw0 := wr_new (H := H) rfl
  obtain ⟨G0, hG0⟩ : ∃ G0, G0 = H ++ [some ⟨[.slice none 0 0], 27, none⟩] := ⟨_, rfl⟩
  rw [← hG0] at hw0 ⊢
  obtain ⟨w, hw⟩ : ∃ w, w = H.length := ⟨_, rfl⟩
  rw [← hw] at hw0 ⊢
  have s0 : Same0 H G0 := by rw [hG0]; exact .app _ _
  have hl0 := s0.1
  have hlt0 := hw0.lt
  refine aw_seq ?_
  refine aw_ops (by kernel_rfl) (fun K hK => ?_)
  simp (disch := first | omega | (simp only [List.length_set, List.length_append, List.length_cons, List.length_nil, iv_length, zl_length]; try omega; done)) [-getElem?_pos, -getElem?_neg]
  refine ⟨by kernel_rfl, (numbers_ac (l := [0, 127, 128, 4294967295]) (hw0.low (fun j hj => hget_left (hlt0 j hj))) (by simp; omega) (by simp; omega) (fresh_sls (cells := iv .u32 [0, 127, 128, 4294967295]) hlt0) (by simp) (by simp)).mono ?_⟩
  rintro v1 G1 ⟨F1, hw1, hf1⟩
  try simp (disch := first | omega | (simp only [List.length_set, List.length_append, List.length_cons, List.length_nil, iv_length, zl_length]; try omega; done)) [-getElem?_pos, -getElem?_neg]
  refine hK _ _ ?_; clear hK K
  have hf1' := (Fr.app1 (H := G0) (F := [w]) _).trans hf1
  have hF1 : ∀ j ∈ F1, H.length ≤ j := fun j hj => by
    rcases hf1'.new j hj with h | h
    · rw [List.mem_singleton] at h; omega
    · omega
  have s1 := s0.fr hf1' (by simp; omega)
  have hl1 := s1.1
  have hlt1 := hw1.lt
  refine aw_seq ?_
  refine aw_ops (by kernel_rfl) (fun K hK => ?_)
  simp (disch := first | omega | (simp only [List.length_set, List.length_append, List.length_cons, List.length_nil, iv_length, zl_length]; try omega; done)) [-getElem?_pos, -getElem?_neg]
  refine ⟨by kernel_rfl, (texts_ac (ps := [ab]) (hw1.low (fun j hj => hget_left (hlt1 j hj))) (fun j hj => Nat.le_trans hnl (hF1 j hj)) (by simp; omega) (fresh_sls (cells := [.string ab]) hlt1) (by decide) (by decide)).mono ?_⟩
  rintro v2 G2 ⟨F2, hw2, hf2⟩
  try simp (disch := first | omega | (simp only [List.length_set, List.length_append, List.length_cons, List.length_nil, iv_length, zl_length]; try omega; done)) [-getElem?_pos, -getElem?_neg]
  refine hK _ _ ?_; clear hK K
  have hf2' := (Fr.app1 (H := G1) (F := F1) _).trans hf2
  have hF2 : ∀ j ∈ F2, H.length ≤ j := fun j hj => by
    rcases hf2'.new j hj with h | h
    · exact hF1 j h
    · omega
  have s2 := s1.fr hf2' hF1
  have hl2 := s2.1
  have hlt2 := hw2.lt
  rw [List.nil_append, live1] at hw2
  refine aw_seq ?_
  refine aw_ops (by kernel_rfl) (fun K hK => ?_)
  simp (disch := first | omega | (simp only [List.length_set, List.length_append, List.length_cons, List.length_nil, iv_length, zl_length]; try omega; done)) [-getElem?_pos, -getElem?_neg]
  refine ⟨by kernel_rfl, (wstring_ac hw2).mono ?_⟩
  rintro v3 G3 ⟨rfl, rfl⟩
  try simp (disch := first | omega | (simp only [List.length_set, List.length_append, List.length_cons, List.length_nil, iv_length, zl_length]; try omega; done)) [-getElem?_pos, -getElem?_neg]
  refine ⟨by kernel_rfl, newreader_ac.mono ?_⟩
  rintro v4 G4 ⟨rfl, rfl⟩
  try simp (disch := first | omega | (simp only [List.length_set, List.length_append, List.length_cons, List.length_nil, iv_length, zl_length]; try omega; done)) [-getElem?_pos, -getElem?_neg]
  refine hK _ _ ?_; clear hK K
  obtain ⟨p, hp⟩ : ∃ p, p = G3.length := ⟨_, rfl⟩
  rw [← hp]
  have s4 := s2.trans (.app G3 [some (rdC liveB 0)])
  have hw4 := hw2.low (H' := G3 ++ [some (rdC liveB 0)]) (fun j hj => hget_left (hlt2 j hj))
  have hr4 : hget (G3 ++ [some (rdC liveB 0)]) p = some (rdC liveB 0) := by rw [hp, hget_app0]; rfl
  have hpF : p ∉ F2 := fun hm => by have := hlt2 p hm; omega
  have hpl : p < (G3 ++ [some (rdC liveB 0)]).length := hget_lt hr4
  generalize G3 ++ [some (rdC liveB 0)] = G4 at *
  have hnp : nro ≤ p := by omega
  have rd : ∀ {G : AH} {l l' : List Int} {n : Nat} {e : Int}, Same0 H G → Wr G w F2 liveB → hget G p = some (rdC l 0) → Same0 H (G.set p (some (rdC l' e))) ∧ Wr (G.set p (some (rdC l' e))) w F2 liveB ∧ hget (G.set p (some (rdC l' e))) p = some (rdC l' e) := fun hs hw hr =>
    ⟨hs.set (by omega) _, hw.low (fun j hj => hget_set_ne (fun e => hpF (by rw [e]; exact hj))), hget_set_eq (hget_lt hr)⟩
  have num : ∀ {G : AH} {l l' : List Int} {n : Nat} (k : Nat), Same0 H G → Wr G w F2 liveB → hget G p = some (rdC (liveB.drop k) 0) → rdNum (liveB.drop k) = (n, l', 0) →
      AC Try.prog nro γ 12 #[.pointer (some ⟨p, 0, none⟩)] G (fun v' H' => v' = .int .u32 (n : Nat) ∧ Same0 H H' ∧ Wr H' w F2 liveB ∧ hget H' p = some (rdC l' 0)) := fun {G l l' n} k hs hw hr e => by
    refine (number_ac hnp hr (live_by.drop k) (by rw [List.length_drop]; omega)).mono ?_
    rintro v H' ⟨rfl, rfl⟩
    rw [e]
    obtain ⟨a, b, c⟩ := rd (l' := l') (e := 0) (n := 0) hs hw hr
    exact ⟨rfl, a, b, c⟩
  refine aw_seq ?_
  refine aw_ops (by kernel_rfl) (fun K hK => ?_)
  simp (disch := first | omega | (simp only [List.length_set, List.length_append, List.length_cons, List.length_nil, iv_length, zl_length]; try omega; done)) [-getElem?_pos, -getElem?_neg]
  refine ⟨by kernel_rfl, (num (l := []) 0 s4 hw4 hr4 live_r1).mono ?_⟩
  rintro v5 G5 ⟨rfl, s5, hw5, hr5⟩
  try simp (disch := first | omega | (simp only [List.length_set, List.length_append, List.length_cons, List.length_nil, iv_length, zl_length]; try omega; done)) [-getElem?_pos, -getElem?_neg]
  refine ⟨by kernel_rfl, (num (l := []) 1 s5 hw5 hr5 live_r2).mono ?_⟩
  rintro v6 G6 ⟨rfl, s6, hw6, hr6⟩
  try simp (disch := first | omega | (simp only [List.length_set, List.length_append, List.length_cons, List.length_nil, iv_length, zl_length]; try omega; done)) [-getElem?_pos, -getElem?_neg]
  refine ⟨by kernel_rfl, (num (l := []) 2 s6 hw6 hr6 live_r3).mono ?_⟩
  rintro v7 G7 ⟨rfl, s7, hw7, hr7⟩
  try simp (disch := first | omega | (simp only [List.length_set, List.length_append, List.length_cons, List.length_nil, iv_length, zl_length]; try omega; done)) [-getElem?_pos, -getElem?_neg]
  refine ⟨by kernel_rfl, (num (l := []) 4 s7 hw7 hr7 live_r4).mono ?_⟩
  rintro v8 G8 ⟨rfl, s8, hw8, hr8⟩
  try simp (disch := first | omega | (simp only [List.length_set, List.length_append, List.length_cons, List.length_nil, iv_length, zl_length]; try omega; done)) [-getElem?_pos, -getElem?_neg]
  refine hK _ _ ?_; clear hK K
  refine aw_seq ?_
  refine aw_ops (by kernel_rfl) (fun K hK => ?_)
  simp (disch := first | omega | (simp only [List.length_set, List.length_append, List.length_cons, List.length_nil, iv_length, zl_length]; try omega; done)) [-getElem?_pos, -getElem?_neg]
  refine ⟨by kernel_rfl, (wstring_ac hw8).mono ?_⟩
  rintro v9 G9 ⟨rfl, rfl⟩
  try simp (disch := first | omega | (simp only [List.length_set, List.length_append, List.length_cons, List.length_nil, iv_length, zl_length]; try omega; done)) [-getElem?_pos, -getElem?_neg, hsl]
  refine ⟨by kernel_rfl, (text_ac hnp hr8 (live_by.drop 9) (by rw [List.length_drop]; omega) (by omega)).mono ?_⟩
  rw [live_r5]
  rintro v10 G10 ⟨rfl, rfl⟩
  try simp (disch := first | omega | (simp only [List.length_set, List.length_append, List.length_cons, List.length_nil, iv_length, zl_length]; try omega; done)) [-getElem?_pos, -getElem?_neg, hsl, hsa]
  obtain ⟨s10, hw10, hr10⟩ := rd (l' := []) (e := 0) (n := 0) s8 hw8 hr8
  refine ⟨by kernel_rfl, (end_ac hr10).mono ?_⟩
  rintro v11 G11 ⟨rfl, rfl⟩
  try simp (disch := first | omega | (simp only [List.length_set, List.length_append, List.length_cons, List.length_nil, iv_length, zl_length]; try omega; done)) [-getElem?_pos, -getElem?_neg]
  refine hK _ _ ?_; clear hK K
  (refine aw_ret ?_; simp (disch := first | omega | (simp only [List.length_set, List.length_append, List.length_cons, List.length_nil, iv_length, zl_length]; try omega; done)) [-getElem?_pos, -getElem?_neg, thenQ_ret, scopeQ_ret, inBlockQ_ret, RQ, resL, resV])
  exact s10
end

section
open Go Go.RowKit
set_option linter.unusedVariables false
set_option linter.unusedSimpArgs false
set_option maxRecDepth 100000
set_option maxHeartbeats 4000000
structure ItD where
  kind : Int
  most : Int
  ns : List Int
  tx : ByteArray
  ks : List (List Int)
def itK : List CK := [.int .i64, .int .i64, .sl [.int .u32], .str, .sl (List.replicate 32 (.int .u8))]
def ItD.row (x : ItD) : List CD := [.int .i64 x.kind, .int .i64 x.most, .sl (x.ns.map fun z => [.int .u32 z]), .str x.tx, .sl (x.ks.map fun key => key.map (.int .u8))]
structure ItD.Wf (x : ItD) : Prop where
  kind : -9223372036854775808 ≤ x.kind ∧ x.kind ≤ 9223372036854775807
  most : -9223372036854775808 ≤ x.most ∧ x.most ≤ 9223372036854775807
  ns : ∀ n ∈ x.ns, 0 ≤ n ∧ n ≤ 4294967295
  ks : ∀ k ∈ x.ks, k.length = 32
  kb : ∀ k ∈ x.ks, By k
  nl : x.ns.length ≤ maxLen
  tl : x.tx.size ≤ maxLen
  kl : x.ks.length ≤ maxLen
theorem wf_i64 {z : Int} (h : (Lit.int .i64 z).wf = true) : -9223372036854775808 ≤ z ∧ z ≤ 9223372036854775807 := by
  simpa [Lit.wf, IntKind.min, IntKind.max, IntKind.bits, IntKind.signed] using h
theorem wf_u32 {z : Int} (h : (Lit.int .u32 z).wf = true) : 0 ≤ z ∧ z ≤ 4294967295 := by
  simpa [Lit.wf, IntKind.min, IntKind.max, IntKind.bits, IntKind.signed] using h
theorem wf_u8 {z : Int} (h : (Lit.int .u8 z).wf = true) : 0 ≤ z ∧ z ≤ 255 := by
  simpa [Lit.wf, IntKind.min, IntKind.max, IntKind.bits, IntKind.signed] using h
theorem item_of {row : List CD} (h : OkL itK row) : ∃ x : ItD, row = x.row ∧ x.Wf := by
  obtain ⟨d0, r0, rfl, o0, h0⟩ := OkL.cons h
  obtain ⟨d1, r1, rfl, o1, h1⟩ := OkL.cons h0
  obtain ⟨d2, r2, rfl, o2, h2⟩ := OkL.cons h1
  obtain ⟨d3, r3, rfl, o3, h3⟩ := OkL.cons h2
  obtain ⟨d4, r4, rfl, o4, h4⟩ := OkL.cons h3
  obtain rfl := h4.nil
  obtain ⟨k, rfl, wk⟩ := ok_int o0
  obtain ⟨m, rfl, wm⟩ := ok_int o1
  obtain ⟨ns, rfl, wn, ln⟩ := ok_ints o2
  obtain ⟨tx, rfl, wt⟩ := ok_str o3
  obtain ⟨ks, rfl, wks, lk⟩ := ok_keys o4
  exact ⟨⟨k, m, ns, tx, ks⟩, rfl, wf_i64 wk, wf_i64 wm, fun n hn => wf_u32 (wn n hn), fun k hk => (wks k hk).1, fun k hk z hz => wf_u8 ((wks k hk).2 z hz), ln, wt, lk⟩
theorem items_of {ds : List CD} (h : OkL [CK.sl itK] ds) : ∃ xs : List ItD, ds = [.sl (xs.map ItD.row)] ∧ (∀ x ∈ xs, x.Wf) ∧ xs.length ≤ maxLen := by
  obtain ⟨d, r, rfl, o, h1⟩ := OkL.cons h
  obtain rfl := h1.nil
  obtain ⟨rows, rfl, hm, hr⟩ := ok_sl o
  obtain ⟨xs, rfl, hx⟩ := rows_of (f := ItD.row) (R := ItD.Wf) rows (fun row hrow => item_of (hr row hrow))
  exact ⟨xs, rfl, hx, by simpa using hm⟩
/-- An item's cells, told. -/
theorem item_val {H : AH} {x : ItD} {us : List Value} (h : ValL H x.row us) : ∃ nv kv, us = It.cells ⟨x.kind, x.most, nv, x.ns, x.tx, kv, x.ks⟩ ∧ SlV H nv (iv .u32 x.ns) ∧ CD.Val H (.sl (x.ks.map fun key => key.map (.int .u8))) kv := by
  obtain ⟨u0, r0, rfl, v0, h0⟩ := ValL.cons h
  obtain ⟨u1, r1, rfl, v1, h1⟩ := ValL.cons h0
  obtain ⟨u2, r2, rfl, v2, h2⟩ := ValL.cons h1
  obtain ⟨u3, r3, rfl, v3, h3⟩ := ValL.cons h2
  obtain ⟨u4, r4, rfl, v4, h4⟩ := ValL.cons h3
  obtain rfl := h4.nil
  rw [val_int v0, val_int v1, val_str v3]
  exact ⟨u2, u4, rfl, val_ints v2, v4⟩
def ItD.great (x : ItD) : Bool := decide (300 < x.tx.size) || decide (60 < x.ns.length) || decide (20 < x.ks.length)
def greatB (xs : List ItD) : Bool := decide (20 < xs.length) || xs.any ItD.great
theorem not_great {xs : List ItD} (h : greatB xs = false) : xs.length ≤ 20 ∧ ∀ x ∈ xs, x.tx.size ≤ 300 ∧ x.ns.length ≤ 60 ∧ x.ks.length ≤ 20 := by
  simp only [greatB, Bool.or_eq_false_iff, decide_eq_false_iff_not, List.any_eq_false, ItD.great, Bool.or_eq_true, decide_eq_true_eq, not_or] at h
  exact ⟨by omega, fun x hx => by have := h.2 x hx; omega⟩
attribute [local simp] wb_bool wb_undef XL_nil XL_cons XLc_val XLc_call step1_eq stepW_t stepW_f stepC_n stepC_s stepX_s stepX_n stepN_s calleeX oneV xop_eq xopR_s xopR_n wantedA_eq wantedG_n wantedG_s plain1_int plain1_bool plain1_string bits_i64 bits_u64 bits_u32 bits_u16 bits_u8 xeqA xarr allK_iv num_iv calleeOf xread xeff xbin xint xnil xun xstr xload xconv xpart xfield xfieldAddr xindexAddr xindex bnd asInt? xslice xlen xmin xmax xbuild xfill xappend xapp2 xappstr xappmk xcap xcopy xcells eval_tmp eval_const put_at put_none fr0_at cells_agg cells_int cells_bool cells_string cells_ptr cells_slice notTuple tab iv_all hget_app hget_app0 hget_cons0 hget_cons set_app set_app0 setR setR_one QL_nil QL_cons QLc_val stepQ_t stepQ_f stepQC_n stepQC_s stepQX_s SL_nil SL_cons SLc_val stepS_t stepS_f ltT ltF leT leF eqT eqF ltTn ltFn leTn leFn eqTn eqFn beqT beqF bneT bneF wi64 wu64 wu32 wu16 wu8 tmodP tdivP hgetL hgetNe hgetEq setL nums_def nums_len Nat.succ_le_of_lt List.getElem?_cons_zero List.getElem?_cons_succ Option.getD_some Int.toNat_add Int.toNat_mul agB agI agS agP agL agA okB okI okS okP okSl okA
theorem great_ac {H : AH} {γ : Nat → Option Nat} {nro : Nat} {xs : List ItD} {v : Value} (hv : CD.Val H (.sl (xs.map ItD.row)) v) (hm : xs.length ≤ maxLen) (hw : ∀ x ∈ xs, x.Wf) :
    AC Try.prog nro γ 8 #[v] H (fun v' H' => v' = .bool (greatB xs) ∧ H' = H) := by
  obtain ⟨hnt, hvc⟩ := val_nt hv
  have hxl := val_len (P := Try.prog) (t := 22) (e := 33) hv (by simp)
  rw [List.length_map] at hxl
  simp only [maxLen] at hm
  refine ac_of_aw Try.func8 rfl Try.ntmps8 Try.results8 (by simp) ?_
  refine aw_seq ?_
  (refine aw_ops (by kernel_rfl) (fun K hK => ?_); simp (disch := first | omega | (simp only [List.length_set, List.length_append, List.length_cons, List.length_nil, iv_length, zl_length]; try omega; done)) [-getElem?_pos, -getElem?_neg]; refine hK _ _ ?_; clear hK K)
  refine aw_seq ?_
  refine aw_seq ?_
  (refine aw_ops (by kernel_rfl) (fun K hK => ?_); simp (disch := first | omega | (simp only [List.length_set, List.length_append, List.length_cons, List.length_nil, iv_length, zl_length]; try omega; done)) [-getElem?_pos, -getElem?_neg, -xlen, hxl]; refine hK _ _ ?_; clear hK K)
  by_cases hc : 20 < xs.length
  · refine aw_t (by (first | (simp [eval_tmp, put_at, hc]; done) | (simp [eval_tmp, put_at, hc]; omega))) (by kernel_rfl) ?_
    refine aw_seq ?_
    (refine aw_ops (by kernel_rfl) (fun K hK => ?_); simp (disch := first | omega | (simp only [List.length_set, List.length_append, List.length_cons, List.length_nil, iv_length, zl_length]; try omega; done)) [-getElem?_pos, -getElem?_neg]; refine hK _ _ ?_; clear hK K)
    (refine aw_ret ?_; simp (disch := first | omega | (simp only [List.length_set, List.length_append, List.length_cons, List.length_nil, iv_length, zl_length]; try omega; done)) [-getElem?_pos, -getElem?_neg, thenQ_ret, scopeQ_ret, inBlockQ_ret, RQ, resL, resV, greatB, hc])
  refine aw_f (by (first | (simp [eval_tmp, put_at, hc]; done) | (simp [eval_tmp, put_at, hc]; omega))) (by kernel_rfl) ?_
  refine aw_skip ?_
  refine aw_seq ?_
  refine aw_seq ?_
  (refine aw_ops (by kernel_rfl) (fun K hK => ?_); simp (disch := first | omega | (simp only [List.length_set, List.length_append, List.length_cons, List.length_nil, iv_length, zl_length]; try omega; done)) [-getElem?_pos, -getElem?_neg]; refine hK _ _ ?_; clear hK K)
  refine aw_cut (fun α G => G = H ∧ xs.any ItD.great = false) ?_ ?_
  case refine_2 =>
    rintro α G ⟨rfl, hg⟩
    refine aw_seq ?_
    (refine aw_ops (by kernel_rfl) (fun K hK => ?_); simp (disch := first | omega | (simp only [List.length_set, List.length_append, List.length_cons, List.length_nil, iv_length, zl_length]; try omega; done)) [-getElem?_pos, -getElem?_neg]; refine hK _ _ ?_; clear hK K)
    (refine aw_ret ?_; simp (disch := first | omega | (simp only [List.length_set, List.length_append, List.length_cons, List.length_nil, iv_length, zl_length]; try omega; done)) [-getElem?_pos, -getElem?_neg, thenQ_ret, scopeQ_ret, inBlockQ_ret, RQ, resL, resV, greatB, hc, hg])
  refine aw_block ?_
  refine aw_loop (fun c α G => G = H ∧ ∃ i : Nat, i + c = xs.length ∧ α 3 = .int .i64 (i : Nat) ∧ α 0 = v ∧ (xs.take i).any ItD.great = false) xs.length ?_ ?_
  · exact ⟨rfl, 0, by omega, by (first | (simp [put_at, put_none, fr0_at]; done) | rfl), by (first | (simp [put_at, put_none, fr0_at]; done) | rfl), by simp⟩
  rintro c α G ⟨rfl, i, hic, h3, h0, hg⟩
  refine aw_seq ?_
  refine aw_seq ?_
  (refine aw_ops (by kernel_rfl) (fun K hK => ?_); simp (disch := first | omega | (simp only [List.length_set, List.length_append, List.length_cons, List.length_nil, iv_length, zl_length]; try omega; done)) [-getElem?_pos, -getElem?_neg, h3, h0, -xlen, hxl]; refine hK _ _ ?_; clear hK K)
  by_cases hi : i < xs.length
  case neg =>
    refine aw_f (by (first | (simp [eval_tmp, put_at, hi]; done) | (simp [eval_tmp, put_at, hi]; omega))) (by kernel_rfl) ?_
    refine aw_exit ?_
    obtain rfl : i = xs.length := by omega
    rw [List.take_length] at hg
    exact ⟨rfl, hg⟩
  refine aw_t (by (first | (simp [eval_tmp, put_at, hi]; done) | (simp [eval_tmp, put_at, hi]; omega))) (by kernel_rfl) ?_
  refine aw_skip ?_
  refine aw_seq ?_
  refine aw_block ?_
  obtain ⟨x, hx⟩ : ∃ x, xs[i]? = some x := ⟨_, List.getElem?_eq_getElem hi⟩
  have hmx := List.mem_of_getElem? hx
  have hwx := hw x hmx
  obtain ⟨h5, h6, h7⟩ : x.tx.size ≤ 9223372036854775807 ∧ x.ns.length ≤ 9223372036854775807 ∧ x.ks.length ≤ 9223372036854775807 := by
    have h1 := hwx.tl; have h2 := hwx.nl; have h3 := hwx.kl; simp only [maxLen] at h1 h2 h3; omega
  have hany : (xs.take (i + 1)).any ItD.great = x.great := by
    rw [List.take_add_one, hx, List.any_append, hg]; simp
  obtain ⟨j, b, us, hvj, hb, hbl, hxa, hus, hul, hle, hcell, hval⟩ := val_at (P := Try.prog) (t := 22) (e := 33) (sz := 5) hv (by simp) (by simp) (by omega) (fun row hr => by
    obtain ⟨y, _, rfl⟩ := List.mem_map.1 hr; rfl) (i := i) (row := x.row) (by rw [List.getElem?_map, hx]; rfl)
  obtain ⟨nv, kv, rfl, hsn, hsk⟩ := item_val hval
  have hnl := hsn.len (P := Try.prog) (t := 30) (e := 37) (by simp)
  rw [iv_length] at hnl
  have hkl := val_len (P := Try.prog) (t := 31) (e := 41) hsk (by simp)
  rw [List.length_map] at hkl
  have hsl : xlen Try.prog 9 (.string x.tx) = some (.int .i64 x.tx.size) := by simp [xlen]
  have k2 : xload Try.prog 30 (.pointer (some ⟨j, i * 5 + 2, none⟩)) G = some nv := by
    have := hcell 2 (by omega); simp [xload, hb, this, It.cells]
  have k3 : xload Try.prog 9 (.pointer (some ⟨j, i * 5 + 3, none⟩)) G = some (.string x.tx) := by
    have := hcell 3 (by omega); simp [xload, hb, this, It.cells]
  have k4 : xload Try.prog 31 (.pointer (some ⟨j, i * 5 + 4, none⟩)) G = some kv := by
    have := hcell 4 (by omega); simp [xload, hb, this, It.cells]
  refine aw_seq ?_
  refine aw_cut (fun α2 G2 => G2 = G ∧ α2 37 = .bool x.great ∧ α2 3 = .int .i64 (i : Nat) ∧ α2 0 = v) ?_ ?_
  · by_cases g1 : 300 < x.tx.size
    · (refine aw_ops (by kernel_rfl) (fun K hK => ?_); simp (disch := first | omega | (simp only [List.length_set, List.length_append, List.length_cons, List.length_nil, iv_length, zl_length]; try omega; done)) [-getElem?_pos, -getElem?_neg, h0, h3, -xindexAddr, hxa, -xload, k2, k3, k4, -xlen, hsl, hnl, hkl, g1]; refine hK _ _ ?_; clear hK K)
      exact ⟨rfl, by simp [put_at, ItD.great, g1], by (first | (simp [put_at, put_none, fr0_at, h3]; done) | rfl), by (first | (simp [put_at, put_none, fr0_at, h0]; done) | rfl)⟩
    by_cases g2 : 60 < x.ns.length
    · (refine aw_ops (by kernel_rfl) (fun K hK => ?_); simp (disch := first | omega | (simp only [List.length_set, List.length_append, List.length_cons, List.length_nil, iv_length, zl_length]; try omega; done)) [-getElem?_pos, -getElem?_neg, h0, h3, -xindexAddr, hxa, -xload, k2, k3, k4, -xlen, hsl, hnl, hkl, g1, g2]; refine hK _ _ ?_; clear hK K)
      exact ⟨rfl, by simp [put_at, ItD.great, g1, g2], by (first | (simp [put_at, put_none, fr0_at, h3]; done) | rfl), by (first | (simp [put_at, put_none, fr0_at, h0]; done) | rfl)⟩
    by_cases g3 : 20 < x.ks.length
    · (refine aw_ops (by kernel_rfl) (fun K hK => ?_); simp (disch := first | omega | (simp only [List.length_set, List.length_append, List.length_cons, List.length_nil, iv_length, zl_length]; try omega; done)) [-getElem?_pos, -getElem?_neg, h0, h3, -xindexAddr, hxa, -xload, k2, k3, k4, -xlen, hsl, hnl, hkl, g1, g2, g3]; refine hK _ _ ?_; clear hK K)
      exact ⟨rfl, by simp [put_at, ItD.great, g1, g2, g3], by (first | (simp [put_at, put_none, fr0_at, h3]; done) | rfl), by (first | (simp [put_at, put_none, fr0_at, h0]; done) | rfl)⟩
    · (refine aw_ops (by kernel_rfl) (fun K hK => ?_); simp (disch := first | omega | (simp only [List.length_set, List.length_append, List.length_cons, List.length_nil, iv_length, zl_length]; try omega; done)) [-getElem?_pos, -getElem?_neg, h0, h3, -xindexAddr, hxa, -xload, k2, k3, k4, -xlen, hsl, hnl, hkl, g1, g2, g3]; refine hK _ _ ?_; clear hK K)
      exact ⟨rfl, by simp [put_at, ItD.great, g1, g2, g3], by (first | (simp [put_at, put_none, fr0_at, h3]; done) | rfl), by (first | (simp [put_at, put_none, fr0_at, h0]; done) | rfl)⟩
  clear h3 h0
  rintro α2 G2 ⟨rfl, h37, h3, h0⟩
  cases hgx : x.great with
  | true =>
    rw [hgx] at h37
    have : xs.any ItD.great = true := List.any_eq_true.2 ⟨x, hmx, hgx⟩
    refine aw_t (by (first | (simp [eval_tmp, put_at, h37]; done) | (simp [eval_tmp, put_at, h37]; omega))) (by kernel_rfl) ?_
    refine aw_seq ?_
    (refine aw_ops (by kernel_rfl) (fun K hK => ?_); simp (disch := first | omega | (simp only [List.length_set, List.length_append, List.length_cons, List.length_nil, iv_length, zl_length]; try omega; done)) [-getElem?_pos, -getElem?_neg]; refine hK _ _ ?_; clear hK K)
    (refine aw_ret ?_; simp (disch := first | omega | (simp only [List.length_set, List.length_append, List.length_cons, List.length_nil, iv_length, zl_length]; try omega; done)) [-getElem?_pos, -getElem?_neg, thenQ_ret, scopeQ_ret, inBlockQ_ret, RQ, resL, resV, greatB, hc, this])
  | false =>
    rw [hgx] at h37
    refine aw_f (by (first | (simp [eval_tmp, put_at, h37]; done) | (simp [eval_tmp, put_at, h37]; omega))) (by kernel_rfl) ?_
    refine aw_skip ?_
    (refine aw_ops (by kernel_rfl) (fun K hK => ?_); simp (disch := first | omega | (simp only [List.length_set, List.length_append, List.length_cons, List.length_nil, iv_length, zl_length]; try omega; done)) [-getElem?_pos, -getElem?_neg, h3]; refine hK _ _ ?_; clear hK K)
    exact ⟨c - 1, by omega, rfl, i + 1, by omega, by (first | (simp [put_at, put_none, fr0_at]; done) | rfl), by (first | (simp [put_at, put_none, fr0_at, h0]; done) | rfl), by rw [hany, hgx]⟩
end

section
open Go Go.RowKit
set_option linter.unusedVariables false
set_option linter.unusedSimpArgs false
set_option maxRecDepth 100000
set_option maxHeartbeats 4000000
def ItD.it (x : ItD) (nv kv : Value) : It := ⟨x.kind, x.most, nv, x.ns, x.tx, kv, x.ks⟩
def ItD.bytes (x : ItD) : List Int := wrB (x.it .nilFunc .nilFunc)
theorem ItD.bytes_eq (x : ItD) (nv kv : Value) : wrB (x.it nv kv) = x.bytes := rfl
def allB (xs : List ItD) : List Int := xs.flatMap ItD.bytes
theorem allB_next {xs : List ItD} {i : Nat} {x : ItD} (h : xs[i]? = some x) : allB (xs.take (i + 1)) = allB (xs.take i) ++ x.bytes := by
  unfold allB
  rw [List.take_add_one, h, List.flatMap_append]
  simp
theorem ok_it {x : ItD} (h : x.Wf) (hg : x.tx.size ≤ 300 ∧ x.ns.length ≤ 60 ∧ x.ks.length ≤ 20) (nv kv : Value) : (x.it nv kv).Ok := ⟨h.ns, h.ks, hg.2.1, hg.1, hg.2.2⟩
theorem allB_len {xs : List ItD} (h : ∀ x ∈ xs, (x.it .nilFunc .nilFunc).Ok) : (allB xs).length ≤ 1300 * xs.length := by
  induction xs with
  | nil => simp [allB]
  | cons x l ih =>
    have h1 := wrB_len (h x (by simp))
    have h2 := ih (fun y hy => h y (by simp [hy]))
    simp only [allB, List.flatMap_cons, List.length_append, List.length_cons, ItD.bytes] at h1 h2 ⊢
    omega
theorem SlK.kys {H G : AH} {F : List Nat} {v : Value} {ks : List (List Int)} (h : SlK 32 .u8 H v ks) (hg : ∀ j, j < H.length → hget G j = hget H j) (hl : H.length ≤ G.length) (hF : ∀ j ∈ F, H.length ≤ j) : KyS G F v ks := fun G' hg' =>
  h.low fun j hj => (hg' j (by omega) (fun hm => by have := hF j hm; omega)).trans (hg j hj)
attribute [local simp] wb_bool wb_undef XL_nil XL_cons XLc_val XLc_call step1_eq stepW_t stepW_f stepC_n stepC_s stepX_s stepX_n stepN_s calleeX oneV xop_eq xopR_s xopR_n wantedA_eq wantedG_n wantedG_s plain1_int plain1_bool plain1_string bits_i64 bits_u64 bits_u32 bits_u16 bits_u8 xeqA xarr allK_iv num_iv calleeOf xread xeff xbin xint xnil xun xstr xload xconv xpart xfield xfieldAddr xindexAddr xindex bnd asInt? xslice xlen xmin xmax xbuild xfill xappend xapp2 xappstr xappmk xcap xcopy xcells eval_tmp eval_const put_at put_none fr0_at cells_agg cells_int cells_bool cells_string cells_ptr cells_slice notTuple tab iv_all hget_app hget_app0 hget_cons0 hget_cons set_app set_app0 setR setR_one QL_nil QL_cons QLc_val stepQ_t stepQ_f stepQC_n stepQC_s stepQX_s SL_nil SL_cons SLc_val stepS_t stepS_f ltT ltF leT leF eqT eqF ltTn ltFn leTn leFn eqTn eqFn beqT beqF bneT bneF wi64 wu64 wu32 wu16 wu8 tmodP tdivP hgetL hgetNe hgetEq setL nums_def nums_len Nat.succ_le_of_lt List.getElem?_cons_zero List.getElem?_cons_succ Option.getD_some Int.toNat_add Int.toNat_mul agB agI agS agP agL agA okB okI okS okP okSl okA
/-- One item of those that came in: its place, its value, and that it stays. -/
theorem item_at {H : AH} {xs : List ItD} {v : Value} (hv : CD.Val H (.sl (xs.map ItD.row)) v) {i : Nat} {x : ItD} (hx : xs[i]? = some x) (hwx : x.Wf) :
    ∃ nv kv pp, xindexAddr Try.prog 22 v (.int .i64 (i : Nat)) = some pp ∧ notTuple pp = true ∧ ∀ {G : AH} {F : List Nat}, Same0 H G → (∀ j ∈ F, H.length ≤ j) → xload Try.prog 33 pp G = some (x.it nv kv).val ∧ ItS G F (x.it nv kv) := by
  obtain ⟨j, b, us, hvj, hb, hbl, hxa, hus, hul, hle, hcell, hval⟩ := val_at (P := Try.prog) (t := 22) (e := 33) (sz := 5) hv (by simp) (by simp) (by omega) (fun row hr => by
    obtain ⟨y, _, rfl⟩ := List.mem_map.1 hr; rfl) (i := i) (row := x.row) (by rw [List.getElem?_map, hx]; rfl)
  obtain ⟨nv, kv, e, hsn, hsk⟩ := item_val hval
  refine ⟨nv, kv, _, hxa, rfl, fun {G F} hs hF => ⟨?_, hsn.sls hs.2 hs.1 hF, (val_keys hwx.ks hsk).kys hs.2 hs.1 hF⟩⟩
  have := load_at (P := Try.prog) (e := 33) (i := i) ((hs.2 j (hget_lt hb)).trans hb) (by simp) (by omega) (by simp) hus hle
  rw [this, e]
  rfl
theorem writes_law {H : AH} {γ : Nat → Option Nat} {ds : List CD} {v : Value} (hok : OkL [CK.sl itK] ds) (hvl : ValL H ds [v]) :
    AC Try.prog H.length γ 3 #[v] H (fun v' H' => v' = .bool true) := by
  obtain ⟨xs, rfl, hw, hm⟩ := items_of hok
  have hv : CD.Val H (.sl (xs.map ItD.row)) v := hvl.2 0 _ _ rfl rfl
  obtain ⟨hnt, hvc⟩ := val_nt hv
  have hxl := val_len (P := Try.prog) (t := 22) (e := 33) hv (by simp)
  rw [List.length_map] at hxl
  simp only [maxLen] at hm
  refine ac_of_aw Try.func3 rfl Try.ntmps3 Try.results3 (by simp) ?_
  refine aw_seq ?_
  (refine aw_ops (by kernel_rfl) (fun K hK => ?_); simp (disch := first | omega | (simp only [List.length_set, List.length_append, List.length_cons, List.length_nil, iv_length, zl_length]; try omega; done)) [-getElem?_pos, -getElem?_neg]; refine hK _ _ ?_; clear hK K)
  refine aw_seq ?_
  refine aw_seq ?_
  refine aw_ops (by kernel_rfl) (fun K hK => ?_)
  simp (disch := first | omega | (simp only [List.length_set, List.length_append, List.length_cons, List.length_nil, iv_length, zl_length]; try omega; done)) [-getElem?_pos, -getElem?_neg]
  refine ⟨by kernel_rfl, (alive_ac (Nat.le_refl _)).mono ?_⟩
  rintro v1 G1 ⟨rfl, s1⟩
  try simp (disch := first | omega | (simp only [List.length_set, List.length_append, List.length_cons, List.length_nil, iv_length, zl_length]; try omega; done)) [-getElem?_pos, -getElem?_neg]
  refine hK _ _ ?_; clear hK K
  refine aw_f (by (first | (simp [eval_tmp, put_at]; done) | (simp [eval_tmp, put_at]; omega))) (by kernel_rfl) ?_
  refine aw_skip ?_
  refine aw_seq ?_
  refine aw_seq ?_
  refine aw_ops (by kernel_rfl) (fun K hK => ?_)
  simp (disch := first | omega | (simp only [List.length_set, List.length_append, List.length_cons, List.length_nil, iv_length, zl_length]; try omega; done)) [-getElem?_pos, -getElem?_neg]
  refine ⟨by kernel_rfl, (great_ac (hv.low s1.2) hm hw).mono ?_⟩
  rintro v2 G2 ⟨rfl, rfl⟩
  try simp (disch := first | omega | (simp only [List.length_set, List.length_append, List.length_cons, List.length_nil, iv_length, zl_length]; try omega; done)) [-getElem?_pos, -getElem?_neg]
  refine hK _ _ ?_; clear hK K
  cases hg : greatB xs with
  | true =>
    refine aw_t (by (first | (simp [eval_tmp, put_at]; done) | (simp [eval_tmp, put_at]; omega))) (by kernel_rfl) ?_
    refine aw_seq ?_
    refine aw_ops (by kernel_rfl) (fun K hK => ?_)
    simp (disch := first | omega | (simp only [List.length_set, List.length_append, List.length_cons, List.length_nil, iv_length, zl_length]; try omega; done)) [-getElem?_pos, -getElem?_neg]
    refine ⟨by kernel_rfl, (alive_ac s1.1).mono ?_⟩
    rintro v3 G3 ⟨rfl, s3⟩
    try simp (disch := first | omega | (simp only [List.length_set, List.length_append, List.length_cons, List.length_nil, iv_length, zl_length]; try omega; done)) [-getElem?_pos, -getElem?_neg]
    refine hK _ _ ?_; clear hK K
    (refine aw_ret ?_; simp (disch := first | omega | (simp only [List.length_set, List.length_append, List.length_cons, List.length_nil, iv_length, zl_length]; try omega; done)) [-getElem?_pos, -getElem?_neg, thenQ_ret, scopeQ_ret, inBlockQ_ret, RQ, resL, resV])
  | false =>
    obtain ⟨hl20, hgx⟩ := not_great hg
    refine aw_f (by (first | (simp [eval_tmp, put_at]; done) | (simp [eval_tmp, put_at]; omega))) (by kernel_rfl) ?_
    refine aw_skip ?_
    refine aw_seq ?_
    (refine aw_ops (by kernel_rfl) (fun K hK => ?_); simp (disch := first | omega | (simp only [List.length_set, List.length_append, List.length_cons, List.length_nil, iv_length, zl_length]; try omega; done)) [-getElem?_pos, -getElem?_neg]; refine hK _ _ ?_; clear hK K)
    have hw0 := wr_new (H := G2) rfl
    obtain ⟨G0, hG0⟩ : ∃ G0, G0 = G2 ++ [some ⟨[.slice none 0 0], 27, none⟩] := ⟨_, rfl⟩
    rw [← hG0] at hw0 ⊢
    have s0 : Same0 H G0 := by rw [hG0]; exact s1.trans (.app _ _)
    obtain ⟨w, hww⟩ : ∃ w, w = G2.length := ⟨_, rfl⟩
    rw [← hww] at hw0 ⊢
    have hwl : H.length ≤ w := by rw [hww]; exact s1.1
    refine aw_seq ?_
    (refine aw_ops (by kernel_rfl) (fun K hK => ?_); simp (disch := first | omega | (simp only [List.length_set, List.length_append, List.length_cons, List.length_nil, iv_length, zl_length]; try omega; done)) [-getElem?_pos, -getElem?_neg]; refine hK _ _ ?_; clear hK K)
    refine aw_seq ?_
    refine aw_seq ?_
    (refine aw_ops (by kernel_rfl) (fun K hK => ?_); simp (disch := first | omega | (simp only [List.length_set, List.length_append, List.length_cons, List.length_nil, iv_length, zl_length]; try omega; done)) [-getElem?_pos, -getElem?_neg]; refine hK _ _ ?_; clear hK K)
    refine aw_cut (fun α G => Same0 H G ∧ α 3 = .pointer (some ⟨w, 0, none⟩) ∧ α 4 = .string (strOfNums (allB xs)) ∧ ∃ F, Wr G w F (allB xs)) ?_ ?_
    case refine_2 =>
      rintro α G ⟨sG, h3, h4, F, hwr⟩
      refine aw_seq ?_
      refine aw_ops (by kernel_rfl) (fun K hK => ?_)
      simp (disch := first | omega | (simp only [List.length_set, List.length_append, List.length_cons, List.length_nil, iv_length, zl_length]; try omega; done)) [-getElem?_pos, -getElem?_neg]
      refine ⟨by kernel_rfl, (alive_ac sG.1).mono ?_⟩
      rintro v3 G3 ⟨rfl, s3⟩
      try simp (disch := first | omega | (simp only [List.length_set, List.length_append, List.length_cons, List.length_nil, iv_length, zl_length]; try omega; done)) [-getElem?_pos, -getElem?_neg, h3]
      have hwr3 := hwr.low (fun j hj => s3.2 j (hwr.lt j hj))
      refine ⟨by kernel_rfl, (wstring_ac hwr3).mono ?_⟩
      rintro v4 G4 ⟨rfl, rfl⟩
      try simp (disch := first | omega | (simp only [List.length_set, List.length_append, List.length_cons, List.length_nil, iv_length, zl_length]; try omega; done)) [-getElem?_pos, -getElem?_neg, h4]
      refine hK _ _ ?_; clear hK K
      (refine aw_ret ?_; simp (disch := first | omega | (simp only [List.length_set, List.length_append, List.length_cons, List.length_nil, iv_length, zl_length]; try omega; done)) [-getElem?_pos, -getElem?_neg, thenQ_ret, scopeQ_ret, inBlockQ_ret, RQ, resL, resV])
    refine aw_block ?_
    refine aw_loop (fun c α G => ∃ i : Nat, i + c = xs.length ∧ α 5 = .int .i64 (i : Nat) ∧ α 0 = v ∧ α 3 = .pointer (some ⟨w, 0, none⟩) ∧ α 4 = .string (strOfNums (allB (xs.take i))) ∧ Same0 H G ∧ ∃ F, Wr G w F (allB (xs.take i)) ∧ ∀ j ∈ F, H.length ≤ j) xs.length ?_ ?_
    · exact ⟨0, by omega, by (first | (simp [put_at, put_none, fr0_at]; done) | rfl), by (first | (simp [put_at, put_none, fr0_at]; done) | rfl), by (first | (simp [put_at, put_none, fr0_at]; done) | rfl), by simp [put_at, allB, sn_nil], s0, [w], by simpa [allB] using hw0, by simp; omega⟩
    rintro c α G ⟨i, hic, h5, h0, h3, h4, sG, F, hwr, hF⟩
    refine aw_seq ?_
    refine aw_seq ?_
    (refine aw_ops (by kernel_rfl) (fun K hK => ?_); simp (disch := first | omega | (simp only [List.length_set, List.length_append, List.length_cons, List.length_nil, iv_length, zl_length]; try omega; done)) [-getElem?_pos, -getElem?_neg, h5, h0, -xlen, hxl]; refine hK _ _ ?_; clear hK K)
    by_cases hi : i < xs.length
    case neg =>
      refine aw_f (by (first | (simp [eval_tmp, put_at, hi]; done) | (simp [eval_tmp, put_at, hi]; omega))) (by kernel_rfl) ?_
      refine aw_exit ?_
      obtain rfl : i = xs.length := by omega
      rw [List.take_length] at h4 hwr
      exact ⟨sG, by (first | (simp [put_at, put_none, fr0_at, h3]; done) | rfl), by (first | (simp [put_at, put_none, fr0_at, h4]; done) | rfl), F, hwr⟩
    refine aw_t (by (first | (simp [eval_tmp, put_at, hi]; done) | (simp [eval_tmp, put_at, hi]; omega))) (by kernel_rfl) ?_
    refine aw_skip ?_
    refine aw_seq ?_
    refine aw_block ?_
    obtain ⟨x, hx⟩ : ∃ x, xs[i]? = some x := ⟨_, List.getElem?_eq_getElem hi⟩
    have hmx := List.mem_of_getElem? hx
    obtain ⟨nv, kv, pp, hpa, hpn, hat⟩ := item_at hv hx (hw x hmx)
    obtain ⟨hpl, hits⟩ := hat sG hF
    have hvn : notTuple (x.it nv kv).val = true := rfl
    have hok1 := ok_it (hw x hmx) (hgx x hmx) nv kv
    have hlen := allB_len (xs := xs.take i) (fun y hy => ok_it (hw y (List.mem_of_mem_take hy)) (hgx y (List.mem_of_mem_take hy)) _ _)
    rw [List.length_take] at hlen
    have hlx := wrB_len hok1
    rw [x.bytes_eq] at hlx
    have hsz : (strOfNums (allB (xs.take i))).size + (strOfNums x.bytes).size ≤ 9223372036854775807 := by rw [sn_size, sn_size]; omega
    have happ : strOfNums (allB (xs.take i)) ++ strOfNums x.bytes = strOfNums (allB (xs.take (i + 1))) := by rw [sn_app, allB_next hx]
    obtain ⟨xv, hxv⟩ : ∃ xv, xv = (x.it nv kv).val := ⟨_, rfl⟩
    rw [← hxv] at hpl hvn
    refine aw_seq ?_
    refine aw_ops (by kernel_rfl) (fun K hK => ?_)
    simp (disch := first | omega | (simp only [List.length_set, List.length_append, List.length_cons, List.length_nil, iv_length, zl_length]; try omega; done)) [-getElem?_pos, -getElem?_neg, h4, h0, h5, h3, -xindexAddr, hpa, -xload, hpl, hpn]
    have hwa := write_ac (γ := γ) (nro := H.length) hwr hF sG.1 hits hok1 (by omega)
    rw [← hxv, x.bytes_eq] at hwa
    refine ⟨by kernel_rfl, hwa.mono ?_⟩
    rintro v1 H1 ⟨rfl, F1, hwr1, hf1⟩
    try simp (disch := first | omega | (simp only [List.length_set, List.length_append, List.length_cons, List.length_nil, iv_length, zl_length]; try omega; done)) [-getElem?_pos, -getElem?_neg, hsz, happ]
    refine hK _ _ ?_; clear hK K
    rw [← allB_next hx] at hwr1
    refine aw_seq ?_
    refine aw_ops (by kernel_rfl) (fun K hK => ?_)
    simp (disch := first | omega | (simp only [List.length_set, List.length_append, List.length_cons, List.length_nil, iv_length, zl_length]; try omega; done)) [-getElem?_pos, -getElem?_neg, h3]
    refine ⟨by kernel_rfl, (wstring_ac hwr1).mono ?_⟩
    rintro v4 G4 ⟨rfl, rfl⟩
    try simp (disch := first | omega | (simp only [List.length_set, List.length_append, List.length_cons, List.length_nil, iv_length, zl_length]; try omega; done)) [-getElem?_pos, -getElem?_neg]
    refine hK _ _ ?_; clear hK K
    refine aw_f (by (first | (simp [eval_tmp, put_at]; done) | (simp [eval_tmp, put_at]; omega))) (by kernel_rfl) ?_
    refine aw_skip ?_
    (refine aw_ops (by kernel_rfl) (fun K hK => ?_); simp (disch := first | omega | (simp only [List.length_set, List.length_append, List.length_cons, List.length_nil, iv_length, zl_length]; try omega; done)) [-getElem?_pos, -getElem?_neg, h5]; refine hK _ _ ?_; clear hK K)
    refine ⟨c - 1, by omega, i + 1, by omega, by (first | (simp [put_at, put_none, fr0_at]; done) | rfl), by (first | (simp [put_at, put_none, fr0_at, h0]; done) | rfl), by (first | (simp [put_at, put_none, fr0_at, h3]; done) | rfl), by (first | (simp [put_at, put_none, fr0_at]; done) | rfl), sG.fr hf1 hF, F1, hwr1, fun j hj => ?_⟩
    rcases hf1.new j hj with h | h
    · exact hF j h
    · have := sG.1; omega
end
end Go.Proofs.Ytpdijcaikjobiaa
