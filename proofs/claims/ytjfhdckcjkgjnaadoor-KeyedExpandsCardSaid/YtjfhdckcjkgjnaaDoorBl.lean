/-
  strings.Builder, at this program: Len, WriteString, String.
-/
import Derived.Test.YtjfhdckcjkgjnaaDoorShelf
import Derived.Test.YtjfhdckcjkgjnaaDoorXbd
import Derived.Test.YtjfhdckcjkgjnaaDoorXof
import Derived.Test.YtjfhdckcjkgjnaaDoorXsm
namespace Go.Proofs.YtjfhdckcjkgjnaaDoor
open Go Go.RowKit
set_option linter.unusedVariables false
set_option linter.unusedSimpArgs false
set_option maxRecDepth 100000
set_option maxHeartbeats 4000000
theorem ownF_str {P : Program} {nro : Nat} {t e : TypeId} {H : AH} {v : Value} {b : ByteArray} {cells : List Value} {F : List Nat} (hu : und P t = .slice e) (hz : zer P e = some (.int .u8 0)) (hs : szt P e = 1) (hby : byt P e = 1)
    (hv : OwnF H v e 1 cells F) (hnro : ∀ j ∈ F, nro ≤ j) (hb : cells.length + b.size ≤ 140737488355328) (hm : cells.length + b.size ≤ maxLen) :
    ∃ v' H' F', xappstr P nro t v (.string b) H = some (v', H') ∧ OwnF H' v' e 1 (cells ++ iv .u8 (nums b)) F' ∧ H.length ≤ H'.length ∧ (∀ j ∈ F', H.length ≤ j) ∧ ∀ j, j < H.length → j ∉ F → hget H' j = hget H j := by
  have hnl : (iv .u8 (nums b)).length = b.size := by rw [iv_length]; simp [nums]
  rcases hv with ⟨rfl, rfl, rfl⟩ | ⟨j, len, rfl, h3, h4, rfl⟩
  · simp only [List.length_nil, Nat.zero_add] at hb hm
    by_cases h0 : b.size = 0
    · refine ⟨.slice none 0 0, H, [], ?_, .inl ⟨rfl, List.eq_nil_of_length_eq_zero (by simp [hnl, h0]), rfl⟩, Nat.le_refl _, (by simp), fun _ _ _ => rfl⟩
      unfold xappstr
      simp only [hu, hz]
      rw [if_pos ⟨trivial, hs, hby⟩, if_pos ⟨hb, hm⟩, if_pos h0]
    · refine ⟨.slice (some ⟨H.length, 0, none⟩) b.size b.size, H ++ [some ⟨iv .u8 (nums b), e, some 1⟩], [H.length], ?_, .inr ⟨H.length, b.size, rfl, ?_, by simp [hnl], rfl⟩, by simp, by simp, fun i hi _ => hget_left hi⟩
      · unfold xappstr
        simp only [hu, hz]
        rw [if_pos ⟨trivial, hs, hby⟩, if_pos ⟨hb, hm⟩, if_neg h0]
      · rw [hget_app0, hget_cons0]; rfl
  · have hj := hget_lt h3
    refine ⟨.slice (some ⟨H.length, 0, none⟩) (len + b.size) (len + b.size), H.set j none ++ [some ⟨cells ++ iv .u8 (nums b), e, some 1⟩], [H.length], ?_, .inr ⟨H.length, len + b.size, rfl, ?_, by simp [hnl]; omega, rfl⟩, by simp, by simp, fun i hi hni => ?_⟩
    · unfold xappstr
      simp only [hu, hz, h3]
      rw [if_pos ⟨trivial, hs, hby⟩, if_pos ⟨trivial, hnro j (by simp), trivial, trivial, by omega, by omega, by omega⟩, show len = cells.length by omega, List.take_length]
    · have : (H.set j none).length = H.length := by simp
      rw [← this, hget_app0, hget_cons0]
    · rw [hget_left (by simp; omega), hget_set_ne (fun e => hni (by simp [e]))]

attribute [local simp] wb_bool wb_undef XL_nil XL_cons XLc_val XLc_call step1_eq stepW_t stepW_f stepC_n stepC_s stepX_s stepX_n stepN_s calleeX oneV xop_eq xopR_s xopR_n wantedA_eq wantedG_n wantedG_s plain1_int plain1_bool plain1_string bits_i64 bits_u64 bits_u32 bits_u16 bits_u8 xeqA xagg xcmp xarr allK_iv num_iv calleeOf xread xeff xbin xint xnil xun xstr xload xconv xpart xfield xfieldAddr xindexAddr xindex bnd asInt? xslice xlen xmin xmax xbuild xfill xappend xapp2 xappstr xappmk xcap xcopy xcells eval_tmp eval_const put_at put_none fr0_at cells_agg cells_int cells_bool cells_string cells_ptr cells_slice notTuple tab iv_all hget_app hget_app0 hget_cons0 hget_cons set_app set_app0 setR setR_one QL_nil QL_cons QLc_val stepQ_t stepQ_f stepQC_n stepQC_s stepQX_s SL_nil SL_cons SLc_val stepS_t stepS_f ltT ltF leT leF eqT eqF ltTn ltFn leTn leFn eqTn eqFn beqT beqF bneT bneF wi64 wu64 wu32 wu16 wu8 tmodP tdivP hgetL hgetNe hgetEq setL nums_def nums_len Nat.succ_le_of_lt List.getElem?_cons_zero List.getElem?_cons_succ Option.getD_some Int.toNat_add Int.toNat_mul agB agI agS agP agL agA okB okI okS okP okSl okA
theorem L240 : Lays.n240 Tryd.prog Tryd.lays105_ren := { Tryd.lays105 with }
/-- A builder: its own block and its row's. -/
def Bl (H : AH) (i : Nat) (s : ByteArray) (F : List Nat) : Prop :=
  ∃ p v, (p = .pointer none ∨ p = .pointer (some ⟨i, 0, none⟩)) ∧ hget H i = some ⟨[p, v], 63, none⟩ ∧ OwnF H v 5 1 (iv .u8 (nums s)) F ∧ i ∉ F ∧ (s.size = 0 → v = .slice none 0 0)
theorem Bl.low {H H' : AH} {i : Nat} {s : ByteArray} {F : List Nat} (h : Bl H i s F) (h1 : hget H' i = hget H i) (hl : ∀ j ∈ F, hget H' j = hget H j) : Bl H' i s F := by
  obtain ⟨p, v, hp, hg, ho, hn, hz⟩ := h
  exact ⟨p, v, hp, h1.trans hg, ho.low hl, hn, hz⟩
theorem Bl.lt {H : AH} {i : Nat} {s : ByteArray} {F : List Nat} (h : Bl H i s F) : i < H.length ∧ ∀ j ∈ F, j < H.length := by
  obtain ⟨p, v, hp, hg, ho, hn, hz⟩ := h
  exact ⟨hget_lt hg, ho.lt⟩
theorem ownF_shape {H : AH} {v : Value} {e : TypeId} {cells : List Value} {F : List Nat} (h : OwnF H v e 1 cells F) : notTuple v = true ∧ v.cells = #[v] := by
  rcases h with ⟨rfl, _, _⟩ | ⟨j, len, rfl, _, _, _⟩ <;> exact ⟨rfl, rfl⟩
theorem bl_len {nro : Nat} {γ : Nat → Option Nat} {H : AH} {i : Nat} {s : ByteArray} {F : List Nat} (h : Bl H i s F) : AC Tryd.prog nro γ 29 #[.pointer (some ⟨i, 0, none⟩)] H (fun v' H' => v' = .int .i64 s.size ∧ H' = H) := by
  obtain ⟨p, v, hp, hg, ho, hn, hz⟩ := h
  have hl : xlen Tryd.prog 49 v = some (.int .i64 s.size) := ho.len (by simp) (by rw [iv_length, nums_len]; omega) (by omega)
  have hs := ownF_shape ho
  refine ac_of_aw Tryd.func29 rfl Tryd.ntmps29 Tryd.results29 (by simp) ?_
  refine aw_seq ?_
  (refine aw_ops (by kernel_rfl) (fun K hK => ?_); simp (disch := first | omega | (simp only [List.length_set, List.length_append, List.length_cons, List.length_nil, iv_length, zl_length]; try omega; done)) [-getElem?_pos, -getElem?_neg]; refine hK _ _ ?_; clear hK K)
  refine aw_seq ?_
  (refine aw_ops (by kernel_rfl) (fun K hK => ?_); simp (disch := first | omega | (simp only [List.length_set, List.length_append, List.length_cons, List.length_nil, iv_length, zl_length]; try omega; done)) [-getElem?_pos, -getElem?_neg, hg, -xlen, hl, -notTuple, hs.1]; refine hK _ _ ?_; clear hK K)
  (refine aw_ret ?_; simp (disch := first | omega | (simp only [List.length_set, List.length_append, List.length_cons, List.length_nil, iv_length, zl_length]; try omega; done)) [-getElem?_pos, -getElem?_neg, thenQ_ret, scopeQ_ret, inBlockQ_ret, RQ, resL, resV])
theorem set_same {H : AH} {i : Nat} {k : Blk} (h : hget H i = some k) : H.set i (some k) = H := by
  obtain ⟨h1, h2⟩ := List.getElem?_eq_some_iff.1 (hget_some h)
  have h3 := List.set_getElem_self h1
  rw [h2] at h3
  exact h3
theorem bl_check {nro : Nat} {γ : Nat → Option Nat} {H : AH} {i : Nat} {p v : Value} (hp : p = .pointer none ∨ p = .pointer (some ⟨i, 0, none⟩)) (hg : hget H i = some ⟨[p, v], 63, none⟩) (hi : nro ≤ i) :
    AC Tryd.prog nro γ 38 #[.pointer (some ⟨i, 0, none⟩)] H (fun v' H' => v' = .tuple #[] ∧ H' = H.set i (some ⟨[.pointer (some ⟨i, 0, none⟩), v], 63, none⟩)) := by
  rcases hp with rfl | rfl
  · exact check_fresh_ac L240 Tryd.Builder_Extra_105.toX72 hi hg
  · refine AC.mono (check_used_ac L240 Tryd.Builder_Extra_105.toX72 hi hg) ?_
    rintro v' H' ⟨h1, h2⟩
    exact ⟨h1, by rw [h2, set_same hg]⟩
theorem bl_write {nro : Nat} {γ : Nat → Option Nat} {H : AH} {i : Nat} {s t : ByteArray} {F : List Nat} (h : Bl H i s F) (hi : nro ≤ i) (hF : ∀ j ∈ F, nro ≤ j) (hb : s.size + t.size ≤ 1000000000) :
    AC Tryd.prog nro γ 30 #[.pointer (some ⟨i, 0, none⟩), .string t] H (fun v' H' => v' = .tuple #[.int .i64 t.size, .nilIface] ∧ ∃ F', Bl H' i (s ++ t) F' ∧ H.length ≤ H'.length ∧ (∀ j ∈ F', H.length ≤ j) ∧ ∀ j, j < H.length → j ≠ i → j ∉ F → hget H' j = hget H j) := by
  have hlt := h.lt
  obtain ⟨p, v, hp, hg, ho, hn, hz⟩ := h
  obtain ⟨H1, hH1⟩ : ∃ H1, H1 = H.set i (some ⟨[.pointer (some ⟨i, 0, none⟩), v], 63, none⟩) := ⟨_, rfl⟩
  have hl1 : H1.length = H.length := by rw [hH1]; simp
  have hg1 : hget H1 i = some ⟨[.pointer (some ⟨i, 0, none⟩), v], 63, none⟩ := by rw [hH1]; exact hget_set_eq hlt.1
  have k1 : ∀ j, j ≠ i → hget H1 j = hget H j := fun j hj => by rw [hH1]; exact hget_set_ne (Ne.symm hj)
  have ho1 := ho.low (H' := H1) (fun j hj => k1 j (fun e => hn (e ▸ hj)))
  obtain ⟨v', H2, F', hap, ho2, hl2, hnew, hk⟩ := ownF_str (P := Tryd.prog) (nro := nro) (t := 49) (e := 5) (H := H1) (v := v) (b := t) (cells := iv .u8 (nums s)) (F := F) (by simp) (by simp) (by simp) (by simp) ho1 hF
    (by rw [iv_length, nums_len]; omega) (by rw [iv_length, nums_len]; simp [maxLen]; omega)
  have hs := ownF_shape ho
  have hs' := ownF_shape ho2
  have hg2 : hget H2 i = some ⟨[.pointer (some ⟨i, 0, none⟩), v], 63, none⟩ := (hk i (by omega) hn).trans hg1
  have hiF : i ∉ F' := fun hm => by have := hnew i hm; omega
  have hz2 : (s ++ t).size = 0 → v' = .slice none 0 0 := fun h0 => by
    have h1 : s.size = 0 ∧ t.size = 0 := by
      rw [ByteArray.size_append] at h0
      omega
    have := hz h1.1
    subst this
    simp [xappstr, h1.2, maxLen] at hap
    exact hap.1.symm
  refine ac_of_aw Tryd.func30 rfl Tryd.ntmps30 Tryd.results30 (by simp) ?_
  refine aw_seq ?_
  (refine aw_ops (by kernel_rfl) (fun K hK => ?_); simp (disch := first | omega | (simp only [List.length_set, List.length_append, List.length_cons, List.length_nil, iv_length, zl_length]; try omega; done)) [-getElem?_pos, -getElem?_neg]; refine hK _ _ ?_; clear hK K)
  refine aw_seq ?_
  refine aw_ops (by kernel_rfl) (fun K hK => ?_)
  simp (disch := first | omega | (simp only [List.length_set, List.length_append, List.length_cons, List.length_nil, iv_length, zl_length]; try omega; done)) [-getElem?_pos, -getElem?_neg]
  refine ⟨by kernel_rfl, AC.mono (bl_check hp hg hi) ?_⟩
  rintro v1 G ⟨rfl, e⟩
  rw [← hH1] at e
  subst e
  clear hH1
  try simp (disch := first | omega | (simp only [List.length_set, List.length_append, List.length_cons, List.length_nil, iv_length, zl_length]; try omega; done)) [-getElem?_pos, -getElem?_neg]
  refine hK _ _ ?_; clear hK K
  refine aw_seq ?_
  (refine aw_ops (by kernel_rfl) (fun K hK => ?_); simp (disch := first | omega | (simp only [List.length_set, List.length_append, List.length_cons, List.length_nil, iv_length, zl_length]; try omega; done)) [-getElem?_pos, -getElem?_neg, hg1, hg2, hs.1, hs'.1, hs'.2, -notTuple, -xappstr, hap]; refine hK _ _ ?_; clear hK K)
  refine aw_seq ?_
  (refine aw_ops (by kernel_rfl) (fun K hK => ?_); simp (disch := first | omega | (simp only [List.length_set, List.length_append, List.length_cons, List.length_nil, iv_length, zl_length]; try omega; done)) [-getElem?_pos, -getElem?_neg]; refine hK _ _ ?_; clear hK K)
  have hi2 : i < H2.length := hget_lt hg2
  have fin : ∃ F', Bl (H2.set i (some ⟨[.pointer (some ⟨i, 0, none⟩), v'], 63, none⟩)) i (s ++ t) F' ∧ H.length ≤ (H2.set i (some ⟨[.pointer (some ⟨i, 0, none⟩), v'], 63, none⟩)).length ∧ (∀ j ∈ F', H.length ≤ j) ∧ ∀ j, j < H.length → j ≠ i → j ∉ F → hget (H2.set i (some ⟨[.pointer (some ⟨i, 0, none⟩), v'], 63, none⟩)) j = hget H j := by
   refine ⟨F', ⟨.pointer (some ⟨i, 0, none⟩), v', .inr rfl, hget_set_eq hi2, ?_, hiF, hz2⟩, by simp; omega, fun j hj => by have := hnew j hj; omega, fun j hj hji hjF => ?_⟩
   · have : nums (s ++ t) = nums s ++ nums t := by simp [nums_appF]
     rw [this, iv_append]
     exact ho2.low (fun j hj => hget_set_ne (fun e => hiF (e ▸ hj)))
   · rw [hget_set_ne (Ne.symm hji), hk j (by omega) hjF, k1 j hji]
  generalize H2.set i (some ⟨[.pointer (some ⟨i, 0, none⟩), v'], 63, none⟩) = H3 at *
  (refine aw_ret ?_; simp (disch := first | omega | (simp only [List.length_set, List.length_append, List.length_cons, List.length_nil, iv_length, zl_length]; try omega; done)) [-getElem?_pos, -getElem?_neg, thenQ_ret, scopeQ_ret, inBlockQ_ret, RQ, resL, resV])
  obtain ⟨F2, f1, f2, f3, f4⟩ := fin
  exact ⟨F2, f1, f3, f4⟩
/-- The text; the row is forgotten. -/
theorem bl_string {nro : Nat} {γ : Nat → Option Nat} {H : AH} {i : Nat} {s : ByteArray} {F : List Nat} (h : Bl H i s F) (hi : nro ≤ i) (hF : ∀ j ∈ F, nro ≤ j) :
    AC Tryd.prog nro γ 31 #[.pointer (some ⟨i, 0, none⟩)] H (fun v' H' => v' = .string s ∧ H'.length = H.length ∧ ∀ j, j ∉ F → hget H' j = hget H j) := by
  obtain ⟨p, v, hp, hg, ho, hn, hz⟩ := h
  have hsz : (nums s).length = s.size := nums_len s
  have nilc : ∀ c, v = .slice none 0 0 → s.size = 0 → c → AC Tryd.prog nro γ 31 #[.pointer (some ⟨i, 0, none⟩)] H (fun v' H' => v' = .string s ∧ H'.length = H.length ∧ ∀ j, j ∉ F → hget H' j = hget H j) := by
    intro c hv h0 _
    subst hv
    refine AC.mono (string_nil_ac Tryd.lays169 Tryd.Builder_Extra_169 hi hg) ?_
    rintro v' H' ⟨rfl, rfl⟩
    refine ⟨?_, rfl, fun _ _ => rfl⟩
    congr 1
    apply ByteArray.ext
    have : s.data.size = 0 := h0
    exact (Array.eq_empty_of_size_eq_zero this).symm
  rcases ho with ⟨hv, hc, hF0⟩ | ⟨j, len, rfl, h2, h3, rfl⟩
  · refine nilc True hv ?_ trivial
    have := congrArg List.length hc
    rw [iv_length, hsz] at this
    exact this
  · rw [iv_length, hsz] at h3
    by_cases h0 : len = 0
    · have := hz (by omega)
      cases this
    · refine AC.mono (string_ac Tryd.lays169 Tryd.Builder_Extra_169 hi hg (hF j (by simp)) h2 (by omega) h0) ?_
      rintro v' H' ⟨rfl, rfl⟩
      exact ⟨rfl, by simp, fun q hq => hget_set_ne (fun e => hq (by simp [e]))⟩
end Go.Proofs.YtjfhdckcjkgjnaaDoor
