/-
  Texts, walked.
-/
import Derived.Test.YtpdijcaikjobiaaWd
namespace Go.Proofs.Ytpdijcaikjobiaa
open Go Go.RowKit
set_option linter.unusedVariables false
set_option linter.unusedSimpArgs false
set_option maxRecDepth 100000
set_option maxHeartbeats 4000000
theorem ownF_appstr {P : Program} {nro : Nat} {t e : TypeId} {H : AH} {v : Value} {b : ByteArray} {cells : List Value} {F : List Nat} (hu : und P t = .slice e) (hz : zer P e = some (.int .u8 0)) (hs : szt P e = 1) (hby : byt P e = 1)
    (hv : OwnF H v e 1 cells F) (hnro : ∀ j ∈ F, nro ≤ j) (hb : cells.length + b.size ≤ 140737488355328) (hm : cells.length + b.size ≤ maxLen) :
    ∃ v' H' F', xappstr P nro t v (.string b) H = some (v', H') ∧ OwnF H' v' e 1 (cells ++ iv .u8 (nums b)) F' ∧ H.length ≤ H'.length ∧ (∀ j ∈ F', H.length ≤ j) ∧ ∀ j, j < H.length → j ∉ F → hget H' j = hget H j := by
  have hnl : (iv .u8 (nums b)).length = b.size := by rw [iv_length]; simp [nums]
  rcases hv with ⟨rfl, rfl, rfl⟩ | ⟨j, len, rfl, h3, h4, rfl⟩
  · simp only [List.length_nil, Nat.zero_add] at hb hm
    by_cases h0 : b.size = 0
    · refine ⟨.slice none 0 0, H, [], ?_, .inl ⟨rfl, List.eq_nil_of_length_eq_zero (by simp [hnl, h0]), rfl⟩, Nat.le_refl _, (by simp), fun _ _ _ => rfl⟩
      unfold xappstr
      simp only [hu, hz]
      rw [if_pos ⟨trivial, hs, hby⟩, if_pos ⟨hb, hm⟩, if_pos h0]
    · refine ⟨.slice (some ⟨H.length, 0, none⟩) b.size b.size, H ++ [some ⟨iv .u8 (nums b), e, some 1⟩], [H.length], ?_, .inr ⟨H.length, b.size, rfl, ?_, by simp [hnl], rfl⟩, by simp, by simp, fun i hi _ => hget_left hi⟩
      · unfold xappstr
        simp only [hu, hz]
        rw [if_pos ⟨trivial, hs, hby⟩, if_pos ⟨hb, hm⟩, if_neg h0]
      · rw [hget_app0, hget_cons0]; rfl
  · have hj := hget_lt h3
    refine ⟨.slice (some ⟨H.length, 0, none⟩) (len + b.size) (len + b.size), H.set j none ++ [some ⟨cells ++ iv .u8 (nums b), e, some 1⟩], [H.length], ?_, .inr ⟨H.length, len + b.size, rfl, ?_, by simp [hnl]; omega, rfl⟩, by simp, by simp, fun i hi hni => ?_⟩
    · unfold xappstr
      simp only [hu, hz, h3]
      rw [if_pos ⟨trivial, hs, hby⟩, if_pos ⟨trivial, hnro j (by simp), trivial, trivial, by omega, by omega, by omega⟩, show len = cells.length by omega, List.take_length]
    · have : (H.set j none).length = H.length := by simp
      rw [← this, hget_app0, hget_cons0]
    · rw [hget_left (by simp; omega), hget_set_ne (fun e => hni (by simp [e]))]
theorem nums_size (s : ByteArray) : (nums s).length = s.size := by simp [nums]
attribute [local simp] wb_bool wb_undef XL_nil XL_cons XLc_val XLc_call step1_eq stepW_t stepW_f stepC_n stepC_s stepX_s stepX_n stepN_s calleeX oneV xop_eq xopR_s xopR_n wantedA_eq wantedG_n wantedG_s plain1_int plain1_bool plain1_string bits_i64 bits_u64 bits_u32 bits_u16 bits_u8 xeqA xarr allK_iv num_iv calleeOf xread xeff xbin xint xnil xun xstr xload xconv xpart xfield xfieldAddr xindexAddr xindex bnd asInt? xslice xlen xmin xmax xbuild xfill xappend xapp2 xappstr xappmk xcap xcopy xcells eval_tmp eval_const put_at put_none fr0_at cells_agg cells_int cells_bool cells_string cells_ptr cells_slice notTuple tab iv_all hget_app hget_app0 hget_cons0 hget_cons set_app set_app0 setR setR_one QL_nil QL_cons QLc_val stepQ_t stepQ_f stepQC_n stepQC_s stepQX_s SL_nil SL_cons SLc_val stepS_t stepS_f ltT ltF leT leF eqT eqF ltTn ltFn leTn leFn eqTn eqFn beqT beqF bneT bneF wi64 wu64 wu32 wu16 wu8 tmodP tdivP hgetL hgetNe hgetEq setL nums_def nums_len Nat.succ_le_of_lt List.getElem?_cons_zero List.getElem?_cons_succ Option.getD_some Int.toNat_add Int.toNat_mul agB agI agS agP agL agA okB okI okS okP okSl okA
/-- A text's bytes more. -/
theorem wr_appstr {nro : Nat} {H : AH} {p : Nat} {F : List Nat} {bs : List Int} {s : ByteArray} (h : Wr H p F bs) (hnro : ∀ j ∈ F, nro ≤ j) (hb : bs.length + s.size ≤ 1000000) :
    ∃ v v' H' F', hget H p = some ⟨[v], 27, none⟩ ∧ notTuple v = true ∧ xappstr Try.prog nro 25 v (.string s) H = some (v', H') ∧ notTuple v' = true ∧ v'.cells = #[v'] ∧ hget H' p = some ⟨[v], 27, none⟩ ∧
      Wr (H'.set p (some ⟨[v'], 27, none⟩)) p F' (bs ++ nums s) ∧ Fr H (H'.set p (some ⟨[v'], 27, none⟩)) F F' := by
  have hlt := h.lt
  obtain ⟨v, FU, rfl, h1, h2, h3⟩ := h
  have hpl := hget_lt h1
  have hivb : (iv .u8 bs).length = bs.length := iv_length _ _
  obtain ⟨v', H', F', hap, ho, hlen, hnew, hk⟩ := ownF_appstr (P := Try.prog) (nro := nro) (t := 25) (e := 5) (H := H) (v := v) (b := s) (cells := iv .u8 bs) (F := FU) (by simp) (by simp) (by simp) (by simp) h2
    (fun j hj => hnro j (by simp [hj])) (by rw [hivb]; omega) (by rw [hivb]; simp [maxLen]; omega)
  have hp' : hget H' p = some ⟨[v], 27, none⟩ := (hk p hpl h3).trans h1
  have hs := own_shape h2
  have hs' := own_shape ho
  have hpF : p ∉ F' := fun hm => by have := hnew p hm; omega
  refine ⟨v, v', H', p :: F', h1, hs.1, hap, hs'.1, hs'.2, hp', ⟨v', F', rfl, hget_set_eq (by omega), ?_, hpF⟩, ⟨by simp; omega, fun j hj hn => ?_, fun j hj => ?_⟩⟩
  · rw [iv_append]
    exact ho.low (fun j hj => hget_set_ne (fun e => hpF (e ▸ hj)))
  · rw [hget_set_ne (fun e => hn (by simp [e])), hk j (by omega) (fun hm => hn (by simp [hm]))]
  · rcases List.mem_cons.1 hj with rfl | hj
    · exact .inl (by simp)
    · exact .inr (hnew j hj)
def textB (s : ByteArray) : List Int := numB s.size ++ nums s
def textsB (ps : List ByteArray) : List Int := ps.flatMap textB
theorem textsB_next {ps : List ByteArray} {i : Nat} {s : ByteArray} (h : ps[i]? = some s) : textsB (ps.take (i + 1)) = textsB (ps.take i) ++ textB s := by
  unfold textsB
  rw [List.take_add_one, h, List.flatMap_append]
  simp
theorem textB_len (s : ByteArray) : (textB s).length ≤ 5 + s.size := by
  have := numB_len s.size
  simp only [textB, List.length_append, nums_size]; omega
theorem textsB_len {ps : List ByteArray} (h : ∀ s ∈ ps, s.size ≤ 3000) : (textsB ps).length ≤ 3005 * ps.length := by
  induction ps with
  | nil => simp [textsB]
  | cons s l ih =>
    have := textB_len s
    have := h s (by simp)
    have := ih (fun x hx => h x (by simp [hx]))
    simp only [textsB, List.flatMap_cons, List.length_append, List.length_cons] at this ⊢
    omega
theorem texts_ac {H : AH} {γ : Nat → Option Nat} {nro p : Nat} {F : List Nat} {bs : List Int} {ps : List ByteArray} {v : Value} (h : Wr H p F bs) (hlo : ∀ j ∈ F, nro ≤ j) (hnl : nro ≤ H.length) (hv : SlS H F v (ps.map .string)) (hps : ∀ s ∈ ps, s.size ≤ 3000) (hlen : bs.length + 3005 * ps.length ≤ 90000) :
    AC Try.prog nro γ 22 #[.pointer (some ⟨p, 0, none⟩), v] H (fun v' H' => ∃ F', Wr H' p F' (bs ++ textsB ps) ∧ Fr H H' F F') := by
  have hno : notTuple v = true := by rcases hv.now with ⟨a, rfl, _⟩ | ⟨j, off, k, rfl, _⟩ <;> rfl
  have hxl := hv.now.len (P := Try.prog) (t := 69) (e := 9) (by simp)
  rw [List.length_map] at hxl
  have hnp : nro ≤ p := hlo p (by obtain ⟨v, FU, rfl, _⟩ := h; simp)
  refine ac_of_aw Try.func22 rfl Try.ntmps22 Try.results22 (by simp) ?_
  refine aw_seq ?_
  (refine aw_ops (by kernel_rfl) (fun K hK => ?_); simp (disch := first | omega | (simp only [List.length_set, List.length_append, List.length_cons, List.length_nil, iv_length, zl_length]; try omega; done)) [-getElem?_pos, -getElem?_neg, -xlen, hxl]; refine hK _ _ ?_; clear hK K)
  refine aw_block ?_
  refine aw_loop (fun c α G => ∃ i : Nat, i + c = ps.length ∧ α 8 = .int .i64 (i : Nat) ∧ α 7 = .int .i64 (ps.length : Nat) ∧ α 6 = v ∧ α 0 = .pointer (some ⟨p, 0, none⟩) ∧ ∃ F', Wr G p F' (bs ++ textsB (ps.take i)) ∧ Fr H G F F') ps.length ?_ ?_
  · exact ⟨0, by omega, by (first | (simp [put_at, put_none, fr0_at]; done) | rfl), by (first | (simp [put_at, put_none, fr0_at]; done) | rfl), by (first | (simp [put_at, put_none, fr0_at]; done) | rfl), by (first | (simp [put_at, put_none, fr0_at]; done) | rfl), F, by simpa [textsB] using h, .refl _ _⟩
  rintro c α G ⟨i, hic, h8, h7, h6, h0, F1, hw, hf⟩
  refine aw_seq ?_
  (refine aw_ops (by kernel_rfl) (fun K hK => ?_); simp (disch := first | omega | (simp only [List.length_set, List.length_append, List.length_cons, List.length_nil, iv_length, zl_length]; try omega; done)) [-getElem?_pos, -getElem?_neg, h8, h7]; refine hK _ _ ?_; clear hK K)
  refine aw_seq ?_
  by_cases hi : i < ps.length
  case neg =>
    refine aw_f (by (first | (simp [eval_tmp, put_at, hi]; done) | (simp [eval_tmp, put_at, hi]; omega))) (by kernel_rfl) ?_
    refine aw_exit ?_
    refine ⟨_, _, rfl, rfl, F1, ?_, hf⟩
    obtain rfl : i = ps.length := by omega
    rwa [List.take_length] at hw
  refine aw_t (by (first | (simp [eval_tmp, put_at, hi]; done) | (simp [eval_tmp, put_at, hi]; omega))) (by kernel_rfl) ?_
  refine aw_skip ?_
  refine aw_seq ?_
  refine aw_block ?_
  obtain ⟨s, hx⟩ : ∃ s, ps[i]? = some s := ⟨_, List.getElem?_eq_getElem hi⟩
  have hs1 := hps s (List.mem_of_getElem? hx)
  have hvG := hv.fr hf
  have hcx : (ps.map Value.string)[i]? = some (.string s) := by simp [hx]
  obtain ⟨px, hpx, hlx⟩ := hvG.now.cell (P := Try.prog) (t := 69) (e := 9) (by simp) (by simp) (by simp) (by simp) hcx
  have hxa : xindexAddr Try.prog 69 v (.int .i64 (i : Nat)) = some px := hpx
  have hnpx : notTuple px = true := by
    unfold xload at hlx
    cases px <;> first | rfl | (simp at hlx)
  refine aw_seq ?_
  (refine aw_ops (by kernel_rfl) (fun K hK => ?_); simp (disch := first | omega | (simp only [List.length_set, List.length_append, List.length_cons, List.length_nil, iv_length, zl_length]; try omega; done)) [-getElem?_pos, -getElem?_neg, h6, h8, -xindexAddr, hxa, -xload, hlx, hnpx]; refine hK _ _ ?_; clear hK K)
  have lt2 : ∀ {G : AH} {F' : List Nat}, Fr H G F F' → ∀ j ∈ F', nro ≤ j := fun hf j hj => by
    rcases hf.new j hj with h1 | h1
    · exact hlo j h1
    · omega
  have hft : (textsB (ps.take i)).length ≤ 3005 * i := by
    have := textsB_len (ps := ps.take i) (fun s hs => hps s (List.mem_of_mem_take hs))
    rw [List.length_take] at this; omega
  have hwl : IntKind.u32.wrap (s.size : Nat) = (s.size : Nat) := by simp only [IntKind.wrap_u32']; omega
  have hwlt := hw.lt
  have hs1' := one_sls (x := (s.size : Nat)) hwlt _ rfl
  have hf0 : Fr G (G ++ [some ⟨[.int .u32 (s.size : Nat)], 37, some 1⟩]) F1 F1 := Fr.mk (by simp) (fun j hj _ => hget_left hj) (fun j hj => .inl hj)
  have hw1 := hw.low (H' := G ++ [some ⟨[.int .u32 (s.size : Nat)], 37, some 1⟩]) (fun j hj => hget_left (hwlt j hj))
  have hn5 := numB_len s.size
  have hbl : (bs ++ textsB (ps.take i)).length = bs.length + (textsB (ps.take i)).length := List.length_append ..
  refine aw_seq ?_
  refine aw_ops (by kernel_rfl) (fun K hK => ?_)
  simp (disch := first | omega | (simp only [List.length_set, List.length_append, List.length_cons, List.length_nil, iv_length, zl_length]; try omega; done)) [-getElem?_pos, -getElem?_neg, h0, hwl]
  have hfl := hf.len
  refine ⟨by kernel_rfl, (numbers_ac hw1 (lt2 (hf.trans hf0)) (by rw [List.length_append]; omega) hs1' (by simp; omega) (by simp; omega)).mono ?_⟩
  rintro v1 H1 ⟨F2, hw2, hf2⟩
  try simp (disch := first | omega | (simp only [List.length_set, List.length_append, List.length_cons, List.length_nil, iv_length, zl_length]; try omega; done)) [-getElem?_pos, -getElem?_neg]
  refine hK _ _ ?_; clear hK K
  have e1 : numsB [((s.size : Nat) : Int)] = numB s.size := by simp [numsB]
  rw [e1] at hw2
  have hf3 := hf.trans (hf0.trans hf2)
  obtain ⟨w, w', H', F3, hgw, hnw, hap, hnw', hcw', hgw', hwr, hfr⟩ := wr_appstr (nro := nro) (s := s) hw2 (lt2 hf3) (by rw [List.length_append]; omega)
  (refine aw_ops (by kernel_rfl) (fun K hK => ?_); simp (disch := first | omega | (simp only [List.length_set, List.length_append, List.length_cons, List.length_nil, iv_length, zl_length]; try omega; done)) [-getElem?_pos, -getElem?_neg, h0, hgw, hgw', hnw, hnw', hcw', -notTuple, nt_sl, -xappstr, hap, hnp]; refine hK _ _ ?_; clear hK K)
  (refine aw_ops (by kernel_rfl) (fun K hK => ?_); simp (disch := first | omega | (simp only [List.length_set, List.length_append, List.length_cons, List.length_nil, iv_length, zl_length]; try omega; done)) [-getElem?_pos, -getElem?_neg, h8]; refine hK _ _ ?_; clear hK K)
  refine ⟨c - 1, by omega, i + 1, by omega, by (first | (simp [put_at, put_none, fr0_at]; done) | rfl), by (first | (simp [put_at, put_none, fr0_at, h7]; done) | rfl), by (first | (simp [put_at, put_none, fr0_at, h6]; done) | rfl), by (first | (simp [put_at, put_none, fr0_at, h0]; done) | rfl), _, ?_, hf3.trans hfr⟩
  rw [textsB_next hx, textB]
  simp only [← List.append_assoc] at hwr ⊢
  exact hwr
end Go.Proofs.Ytpdijcaikjobiaa
