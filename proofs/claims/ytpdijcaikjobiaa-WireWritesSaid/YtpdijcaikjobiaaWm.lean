/-
  What lives: alive; items that come in; great.
-/
import Derived.Test.YtpdijcaikjobiaaWj
import Derived.Test.YtpdijcaikjobiaaWl
import Derived.Test.YtpdijcaikjobiaaXdp
namespace Go.Proofs.Ytpdijcaikjobiaa
open Go Go.RowKit
set_option linter.unusedVariables false
set_option linter.unusedSimpArgs false
set_option maxRecDepth 100000
set_option maxHeartbeats 4000000
/-- Nothing turned that was there. -/
def Same0 (H H' : AH) : Prop := H.length ≤ H'.length ∧ ∀ j, j < H.length → hget H' j = hget H j
theorem Same0.refl (H : AH) : Same0 H H := ⟨Nat.le_refl _, fun _ _ => rfl⟩
theorem Same0.trans {H G K : AH} (h : Same0 H G) (k : Same0 G K) : Same0 H K := ⟨Nat.le_trans h.1 k.1, fun j hj => (k.2 j (Nat.lt_of_lt_of_le hj h.1)).trans (h.2 j hj)⟩
theorem Same0.app (H L : AH) : Same0 H (H ++ L) := ⟨by simp, fun j hj => hget_left hj⟩
theorem Same0.set {H G : AH} (h : Same0 H G) {p : Nat} (hp : H.length ≤ p) (x : Option Blk) : Same0 H (G.set p x) := ⟨by simpa using h.1, fun j hj => (hget_set_ne (by omega)).trans (h.2 j hj)⟩
theorem Same0.fr {H G K : AH} {F F' : List Nat} (h : Same0 H G) (hf : Fr G K F F') (hF : ∀ j ∈ F, H.length ≤ j) : Same0 H K :=
  ⟨Nat.le_trans h.1 hf.len, fun j hj => (hf.out j (Nat.lt_of_lt_of_le hj h.1) (fun hm => by have := hF j hm; omega)).trans (h.2 j hj)⟩
theorem wr_new {H : AH} {G : AH} (hG : G = H ++ [some ⟨[.slice none 0 0], 27, none⟩]) : Wr G H.length [H.length] [] := by
  subst hG
  exact ⟨.slice none 0 0, [], rfl, by rw [hget_app0]; rfl, .inl ⟨rfl, rfl, rfl⟩, by simp⟩
def ab : ByteArray := { data := #[97, 98] }
def liveB : List Int := [0, 127, 129, 0, 143, 255, 255, 255, 127, 2, 97, 98]
theorem live1 : numsB [0, 127, 128, 4294967295] ++ textsB [ab] = liveB := by decide +kernel
theorem live_r1 : rdNum liveB = (0, liveB.drop 1, 0) := by decide +kernel
theorem live_r2 : rdNum (liveB.drop 1) = (127, liveB.drop 2, 0) := by decide +kernel
theorem live_r3 : rdNum (liveB.drop 2) = (128, liveB.drop 4, 0) := by decide +kernel
theorem live_r4 : rdNum (liveB.drop 4) = (4294967295, liveB.drop 9, 0) := by decide +kernel
theorem live_r5 : rdText 2 (liveB.drop 9) = ([97, 98], [], 0) := by decide +kernel
theorem live_by : By liveB := by unfold liveB By; decide
theorem By.drop {l : List Int} (h : By l) (n : Nat) : By (l.drop n) := fun x hx => h x (List.mem_of_mem_drop hx)
attribute [local irreducible] liveB
attribute [local simp] wb_bool wb_undef XL_nil XL_cons XLc_val XLc_call step1_eq stepW_t stepW_f stepC_n stepC_s stepX_s stepX_n stepN_s calleeX oneV xop_eq xopR_s xopR_n wantedA_eq wantedG_n wantedG_s plain1_int plain1_bool plain1_string bits_i64 bits_u64 bits_u32 bits_u16 bits_u8 xeqA xarr allK_iv num_iv calleeOf xread xeff xbin xint xnil xun xstr xload xconv xpart xfield xfieldAddr xindexAddr xindex bnd asInt? xslice xlen xmin xmax xbuild xfill xappend xapp2 xappstr xappmk xcap xcopy xcells eval_tmp eval_const put_at put_none fr0_at cells_agg cells_int cells_bool cells_string cells_ptr cells_slice notTuple tab iv_all hget_app hget_app0 hget_cons0 hget_cons set_app set_app0 setR setR_one QL_nil QL_cons QLc_val stepQ_t stepQ_f stepQC_n stepQC_s stepQX_s SL_nil SL_cons SLc_val stepS_t stepS_f ltT ltF leT leF eqT eqF ltTn ltFn leTn leFn eqTn eqFn beqT beqF bneT bneF wi64 wu64 wu32 wu16 wu8 tmodP tdivP hgetL hgetNe hgetEq setL nums_def nums_len Nat.succ_le_of_lt List.getElem?_cons_zero List.getElem?_cons_succ Option.getD_some Int.toNat_add Int.toNat_mul agB agI agS agP agL agA okB okI okS okP okSl okA
theorem alive_ac {H : AH} {γ : Nat → Option Nat} {nro : Nat} (hnl : nro ≤ H.length) :
    AC Try.prog nro γ 7 #[] H (fun v' H' => v' = .bool true ∧ Same0 H H') := by
  have hlb : liveB.length = 12 := by unfold liveB; rfl
  have hsl : strOfNums liveB = { data := #[0, 127, 129, 0, 143, 255, 255, 255, 127, 2, 97, 98] } := by unfold liveB; rfl
  have hsa : strOfNums [97, 98] = { data := #[97, 98] } := rfl
  refine ac_of_aw Try.func7 rfl Try.ntmps7 Try.results7 (by simp) ?_
  refine aw_seq ?_
  (refine aw_ops (by kernel_rfl) (fun K hK => ?_); simp (disch := first | omega | (simp only [List.length_set, List.length_append, List.length_cons, List.length_nil, iv_length, zl_length]; try omega; done)) [-getElem?_pos, -getElem?_neg]; refine hK _ _ ?_; clear hK K)
  refine aw_seq ?_
  (refine aw_ops (by kernel_rfl) (fun K hK => ?_); simp (disch := first | omega | (simp only [List.length_set, List.length_append, List.length_cons, List.length_nil, iv_length, zl_length]; try omega; done)) [-getElem?_pos, -getElem?_neg]; refine hK _ _ ?_; clear hK K)
  have hw0 := wr_new (H := H) rfl
  obtain ⟨G0, hG0⟩ : ∃ G0, G0 = H ++ [some ⟨[.slice none 0 0], 27, none⟩] := ⟨_, rfl⟩
  rw [← hG0] at hw0 ⊢
  obtain ⟨w, hw⟩ : ∃ w, w = H.length := ⟨_, rfl⟩
  rw [← hw] at hw0 ⊢
  have s0 : Same0 H G0 := by rw [hG0]; exact .app _ _
  have hl0 := s0.1
  have hlt0 := hw0.lt
  refine aw_seq ?_
  refine aw_ops (by kernel_rfl) (fun K hK => ?_)
  simp (disch := first | omega | (simp only [List.length_set, List.length_append, List.length_cons, List.length_nil, iv_length, zl_length]; try omega; done)) [-getElem?_pos, -getElem?_neg]
  refine ⟨by kernel_rfl, (numbers_ac (l := [0, 127, 128, 4294967295]) (hw0.low (fun j hj => hget_left (hlt0 j hj))) (by simp; omega) (by simp; omega) (fresh_sls (cells := iv .u32 [0, 127, 128, 4294967295]) hlt0) (by simp) (by simp)).mono ?_⟩
  rintro v1 G1 ⟨F1, hw1, hf1⟩
  try simp (disch := first | omega | (simp only [List.length_set, List.length_append, List.length_cons, List.length_nil, iv_length, zl_length]; try omega; done)) [-getElem?_pos, -getElem?_neg]
  refine hK _ _ ?_; clear hK K
  have hf1' := (Fr.app1 (H := G0) (F := [w]) _).trans hf1
  have hF1 : ∀ j ∈ F1, H.length ≤ j := fun j hj => by
    rcases hf1'.new j hj with h | h
    · rw [List.mem_singleton] at h; omega
    · omega
  have s1 := s0.fr hf1' (by simp; omega)
  have hl1 := s1.1
  have hlt1 := hw1.lt
  refine aw_seq ?_
  refine aw_ops (by kernel_rfl) (fun K hK => ?_)
  simp (disch := first | omega | (simp only [List.length_set, List.length_append, List.length_cons, List.length_nil, iv_length, zl_length]; try omega; done)) [-getElem?_pos, -getElem?_neg]
  refine ⟨by kernel_rfl, (texts_ac (ps := [ab]) (hw1.low (fun j hj => hget_left (hlt1 j hj))) (fun j hj => Nat.le_trans hnl (hF1 j hj)) (by simp; omega) (fresh_sls (cells := [.string ab]) hlt1) (by decide) (by decide)).mono ?_⟩
  rintro v2 G2 ⟨F2, hw2, hf2⟩
  try simp (disch := first | omega | (simp only [List.length_set, List.length_append, List.length_cons, List.length_nil, iv_length, zl_length]; try omega; done)) [-getElem?_pos, -getElem?_neg]
  refine hK _ _ ?_; clear hK K
  have hf2' := (Fr.app1 (H := G1) (F := F1) _).trans hf2
  have hF2 : ∀ j ∈ F2, H.length ≤ j := fun j hj => by
    rcases hf2'.new j hj with h | h
    · exact hF1 j h
    · omega
  have s2 := s1.fr hf2' hF1
  have hl2 := s2.1
  have hlt2 := hw2.lt
  rw [List.nil_append, live1] at hw2
  refine aw_seq ?_
  refine aw_ops (by kernel_rfl) (fun K hK => ?_)
  simp (disch := first | omega | (simp only [List.length_set, List.length_append, List.length_cons, List.length_nil, iv_length, zl_length]; try omega; done)) [-getElem?_pos, -getElem?_neg]
  refine ⟨by kernel_rfl, (wstring_ac hw2).mono ?_⟩
  rintro v3 G3 ⟨rfl, rfl⟩
  try simp (disch := first | omega | (simp only [List.length_set, List.length_append, List.length_cons, List.length_nil, iv_length, zl_length]; try omega; done)) [-getElem?_pos, -getElem?_neg]
  refine ⟨by kernel_rfl, newreader_ac.mono ?_⟩
  rintro v4 G4 ⟨rfl, rfl⟩
  try simp (disch := first | omega | (simp only [List.length_set, List.length_append, List.length_cons, List.length_nil, iv_length, zl_length]; try omega; done)) [-getElem?_pos, -getElem?_neg]
  refine hK _ _ ?_; clear hK K
  obtain ⟨p, hp⟩ : ∃ p, p = G3.length := ⟨_, rfl⟩
  rw [← hp]
  have s4 := s2.trans (.app G3 [some (rdC liveB 0)])
  have hw4 := hw2.low (H' := G3 ++ [some (rdC liveB 0)]) (fun j hj => hget_left (hlt2 j hj))
  have hr4 : hget (G3 ++ [some (rdC liveB 0)]) p = some (rdC liveB 0) := by rw [hp, hget_app0]; rfl
  have hpF : p ∉ F2 := fun hm => by have := hlt2 p hm; omega
  have hpl : p < (G3 ++ [some (rdC liveB 0)]).length := hget_lt hr4
  generalize G3 ++ [some (rdC liveB 0)] = G4 at *
  have hnp : nro ≤ p := by omega
  have rd : ∀ {G : AH} {l l' : List Int} {n : Nat} {e : Int}, Same0 H G → Wr G w F2 liveB → hget G p = some (rdC l 0) → Same0 H (G.set p (some (rdC l' e))) ∧ Wr (G.set p (some (rdC l' e))) w F2 liveB ∧ hget (G.set p (some (rdC l' e))) p = some (rdC l' e) := fun hs hw hr =>
    ⟨hs.set (by omega) _, hw.low (fun j hj => hget_set_ne (fun e => hpF (by rw [e]; exact hj))), hget_set_eq (hget_lt hr)⟩
  have num : ∀ {G : AH} {l l' : List Int} {n : Nat} (k : Nat), Same0 H G → Wr G w F2 liveB → hget G p = some (rdC (liveB.drop k) 0) → rdNum (liveB.drop k) = (n, l', 0) →
      AC Try.prog nro γ 12 #[.pointer (some ⟨p, 0, none⟩)] G (fun v' H' => v' = .int .u32 (n : Nat) ∧ Same0 H H' ∧ Wr H' w F2 liveB ∧ hget H' p = some (rdC l' 0)) := fun {G l l' n} k hs hw hr e => by
    refine (number_ac hnp hr (live_by.drop k) (by rw [List.length_drop]; omega)).mono ?_
    rintro v H' ⟨rfl, rfl⟩
    rw [e]
    obtain ⟨a, b, c⟩ := rd (l' := l') (e := 0) (n := 0) hs hw hr
    exact ⟨rfl, a, b, c⟩
  refine aw_seq ?_
  refine aw_ops (by kernel_rfl) (fun K hK => ?_)
  simp (disch := first | omega | (simp only [List.length_set, List.length_append, List.length_cons, List.length_nil, iv_length, zl_length]; try omega; done)) [-getElem?_pos, -getElem?_neg]
  refine ⟨by kernel_rfl, (num (l := []) 0 s4 hw4 hr4 live_r1).mono ?_⟩
  rintro v5 G5 ⟨rfl, s5, hw5, hr5⟩
  try simp (disch := first | omega | (simp only [List.length_set, List.length_append, List.length_cons, List.length_nil, iv_length, zl_length]; try omega; done)) [-getElem?_pos, -getElem?_neg]
  refine ⟨by kernel_rfl, (num (l := []) 1 s5 hw5 hr5 live_r2).mono ?_⟩
  rintro v6 G6 ⟨rfl, s6, hw6, hr6⟩
  try simp (disch := first | omega | (simp only [List.length_set, List.length_append, List.length_cons, List.length_nil, iv_length, zl_length]; try omega; done)) [-getElem?_pos, -getElem?_neg]
  refine ⟨by kernel_rfl, (num (l := []) 2 s6 hw6 hr6 live_r3).mono ?_⟩
  rintro v7 G7 ⟨rfl, s7, hw7, hr7⟩
  try simp (disch := first | omega | (simp only [List.length_set, List.length_append, List.length_cons, List.length_nil, iv_length, zl_length]; try omega; done)) [-getElem?_pos, -getElem?_neg]
  refine ⟨by kernel_rfl, (num (l := []) 4 s7 hw7 hr7 live_r4).mono ?_⟩
  rintro v8 G8 ⟨rfl, s8, hw8, hr8⟩
  try simp (disch := first | omega | (simp only [List.length_set, List.length_append, List.length_cons, List.length_nil, iv_length, zl_length]; try omega; done)) [-getElem?_pos, -getElem?_neg]
  refine hK _ _ ?_; clear hK K
  refine aw_seq ?_
  refine aw_ops (by kernel_rfl) (fun K hK => ?_)
  simp (disch := first | omega | (simp only [List.length_set, List.length_append, List.length_cons, List.length_nil, iv_length, zl_length]; try omega; done)) [-getElem?_pos, -getElem?_neg]
  refine ⟨by kernel_rfl, (wstring_ac hw8).mono ?_⟩
  rintro v9 G9 ⟨rfl, rfl⟩
  try simp (disch := first | omega | (simp only [List.length_set, List.length_append, List.length_cons, List.length_nil, iv_length, zl_length]; try omega; done)) [-getElem?_pos, -getElem?_neg, hsl]
  refine ⟨by kernel_rfl, (text_ac hnp hr8 (live_by.drop 9) (by rw [List.length_drop]; omega) (by omega)).mono ?_⟩
  rw [live_r5]
  rintro v10 G10 ⟨rfl, rfl⟩
  try simp (disch := first | omega | (simp only [List.length_set, List.length_append, List.length_cons, List.length_nil, iv_length, zl_length]; try omega; done)) [-getElem?_pos, -getElem?_neg, hsl, hsa]
  obtain ⟨s10, hw10, hr10⟩ := rd (l' := []) (e := 0) (n := 0) s8 hw8 hr8
  refine ⟨by kernel_rfl, (end_ac hr10).mono ?_⟩
  rintro v11 G11 ⟨rfl, rfl⟩
  try simp (disch := first | omega | (simp only [List.length_set, List.length_append, List.length_cons, List.length_nil, iv_length, zl_length]; try omega; done)) [-getElem?_pos, -getElem?_neg]
  refine hK _ _ ?_; clear hK K
  (refine aw_ret ?_; simp (disch := first | omega | (simp only [List.length_set, List.length_append, List.length_cons, List.length_nil, iv_length, zl_length]; try omega; done)) [-getElem?_pos, -getElem?_neg, thenQ_ret, scopeQ_ret, inBlockQ_ret, RQ, resL, resV])
  exact s10
end Go.Proofs.Ytpdijcaikjobiaa
