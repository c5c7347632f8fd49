/-
  Table: Agree.
-/
import Derived.Test.YtlaglpnbmkoakaaDoorFmD
import Derived.Test.YtlaglpnbmkoakaaDoorFmC
namespace Go.Proofs.YtlaglpnbmkoakaaDoor
open Go Go.RowKit
set_option linter.unusedSimpArgs false
set_option linter.unusedVariables false
set_option maxRecDepth 100000
set_option maxHeartbeats 8000000
section
attribute [local simp] wb_bool wb_undef with_lit XL_nil XL_cons XLc_val XLc_call step1_eq stepW_t stepW_f stepC_n stepC_s stepX_s stepX_n stepN_s calleeX xrecv oneV xop_eq xopR_s xopR_n wantedA_eq wantedG_n wantedG_s plain1_int plain1_bool plain1_string bits_i64 bits_u64 bits_u32 bits_u16 bits_u8 xeqA xagg xcmp xarr allK_iv num_iv calleeOf xread xeff xbin xint xnil xun xstr xload xconv xpart xfield xfieldAddr xindexAddr xindex bnd asInt? xslice xlen xmin xmax xbuild xfill xappend xapp2 xappstr xappmk xcap xcopy xcells eval_tmp eval_const put_at put_none fr0_at cells_agg cells_int cells_bool cells_string cells_ptr cells_slice notTuple tab iv_all hget_app hget_app0 hget_cons0 hget_cons set_app set_app0 setR setR_one QL_nil QL_cons QLc_val stepQ_t stepQ_f stepQC_n stepQC_s stepQX_s SL_nil SL_cons SLc_val stepS_t stepS_f ltT ltF leT leF eqT eqF ltTn ltFn leTn leFn eqTn eqFn beqT beqF bneT bneF wi64 wu64 wu32 wu16 wu8 tmodP tdivP hgetL hgetNe hgetEq setL nums_def nums_len Nat.succ_le_of_lt List.getElem?_cons_zero List.getElem?_cons_succ Option.getD_some Int.toNat_add Int.toNat_mul agM okM agB agI agS agP agL agA okB okI okS okP okSl okA nt_strG nt_boolG nt_aggG nt_intG nt_ptrG nt_slG
section
theorem TermQ.layG {H H2 G : AH} {b : Nat} {F : List Nat} {T : List TermD} {x : TermD} {v : Value} (h : TermQ H2 b F T x v G) (lw : Low H.length H H2) (hF : ∀ j ∈ F, j < H.length) {r : Nat} (hr0 : H.length ≤ r) (hr : hget H2 r = some ⟨iv .u8 (zl 32), 41, none⟩) : ∃ N : List Int, N = nmL (nameT x T) ∧ N.length = 32 ∧ (iv .u8 N).take 32 = iv .u8 N ∧ setR (iv .u8 (zl 32)) 0 (iv .u8 N) = iv .u8 N ∧ v = .agg (iv .u8 N).toArray ∧ r < G.length ∧ hget G r = some ⟨iv .u8 (zl 32), 41, none⟩ ∧ ∀ X : Option Blk, TermQ H b F T x (.agg (iv .u8 N).toArray) (G.set r X) := by
 obtain ⟨h0, h2, h3, F', h4, h5⟩ := h
 have hl := hget_lt hr
 have hn : r ∉ F := fun e => by have := hF _ e; omega
 have hg := (h3 r hl hn).trans hr
 have hle := lw.2
 refine ⟨nmL (nameT x T), rfl, rfl, rfl, ?_, h0, hget_lt hg, hg, fun X => ⟨rfl, by simp; omega, fun j hj hjn => ?_, F', h4.low (fun j hj => hget_set_ne ?_) (by simp), fun j hj => ?_⟩⟩
 ·exact setR_all _ _ (by simp [nmL_len])
 ·rw [hget_set_ne (by omega), h3 j (by omega) hjn, lw.1 j hj]
 ·rcases h5 j hj with h | h
  ·have := hF j h; omega
  ·omega
 ·rcases h5 j hj with h | h
  ·exact .inl h
  ·exact .inr (by omega)
theorem hget_at2 (G : AH) (R R2 : Option Blk) : hget (G ++ [R, R2]) (G.length + 1) = R2 := by rw [hget_app]; rfl
theorem wf_two {n : Nat} (hn : n = 4 ∨ n = 5) {k l : List Int} (hk : k.length = 32) (hb : By k) (hl : l.length = 32) (hbl : By l) : TermD.Wf ⟨n, ⟨#[]⟩, [k, l]⟩ := by
 refine ⟨(by show n ≤ 6; omega), (by show (0 : Nat) ≤ _; omega), fun y hy => ?_, fun y hy => ?_, (by show 2 ≤ 1000000; omega), fun h => ?_, fun h => rfl, fun h => ?_⟩
 ·rcases List.mem_cons.1 hy with rfl | hy
  ·exact hk
  ·rw [List.mem_singleton.1 hy]; exact hl
 ·rcases List.mem_cons.1 hy with rfl | hy
  ·exact hb
  ·rw [List.mem_singleton.1 hy]; exact hbl
 all_goals
  have h : n = _ := h
  omega
def agreeT (T : List TermD) (s p : List Int) : TermD := match findT T p with
 | some x => if x.kind = 3 then (if 0 < cmpL s (x.keys.getD 0 []) then ⟨4, ⟨#[]⟩, [x.keys.getD 0 [], s]⟩ else ⟨4, ⟨#[]⟩, [s, x.keys.getD 0 []]⟩) else ⟨5, ⟨#[]⟩, [s, p]⟩
 | none => ⟨5, ⟨#[]⟩, [s, p]⟩
def AgreeQ (H : AH) (b : Nat) (F : List Nat) (T : List TermD) (s p : List Int) (v' : Value) (H' : AH) : Prop :=
 (p = zl 32 ∧ v' = .tuple #[.agg (iv .u8 (zl 32)).toArray, .bool false] ∧ Low H.length H H') ∨ (p ≠ zl 32 ∧ ∃ v1, v' = .tuple #[v1, .bool true] ∧ TermQ H b F T (agreeT T s p) v1 H')
theorem row2 {C a b : List Value} (h : C.length = 64) (ha : a.length = 32) (hb : b.length = 32) : setR (setR C 0 a) 32 b = a ++ b := by
 have e := setR_app a b C 0
 rw [Nat.zero_add, ha] at e
 rw [← e, setR_all _ _ (by rw [List.length_append]; omega)]
theorem agree0_ac {nro : Nat} {γ : Nat → Option Nat} {H : AH} {b : Nat} {F : List Nat} {T : List TermD} (hnH : nro ≤ H.length) {s : List Int} (hs : s.length = 32) : AC Tryd.prog nro γ 54 #[.pointer (some ⟨b, 0, none⟩), .agg (iv .u8 s).toArray, .agg (iv .u8 (zl 32)).toArray] H (AgreeQ H b F T s (zl 32)) := by
 have hts : (iv .u8 s).take 32 = iv .u8 s := List.take_of_length_le (by simp [hs])
 have hz : (List.take 32 (zl 32) == zl 32) = true := by decide
 have hz2 : setR (iv .u8 (zl 32)) 0 (iv .u8 (zl 32)) = iv .u8 (zl 32) := rfl
 refine ac_of_aw Tryd.func54 rfl Tryd.ntmps54 Tryd.results54 (by simp) ?_
 (refine aw_seq (aoo fun K hK => ?_); simp (disch := first | omega | (simp only [lnS]; try omega)) [-getElem?_pos, -getElem?_neg, hts]; refine hK _ _ ?_; clear hK K)
 refine aw_seq (aw_seq ?_)
 (refine aoo fun K hK => ?_; simp (disch := first | omega | (simp only [lnS]; try omega)) [-getElem?_pos, -getElem?_neg, hz]; refine hK _ _ ?_; clear hK K)
 refine aw_t (by (first | (simp; done) | (simp; omega))) (by kernel_rfl) ?_
 (refine aw_seq (aoo fun K hK => ?_); simp (disch := first | omega | (simp only [lnS]; try omega)) [-getElem?_pos, -getElem?_neg, hz2]; refine hK _ _ ?_; clear hK K)
 (refine aw_ret ?_; simp (disch := first | omega | (simp only [lnS]; try omega)) [-getElem?_pos, -getElem?_neg, thenQ_ret, scopeQ_ret, inBlockQ_ret, RQ, resL, resV])
 exact .inl ⟨rfl, rfl, Low.push (Nat.le_refl _) _⟩
theorem agreeN_ac {nro : Nat} {γ : Nat → Option Nat} {H : AH} (hpw : Pw γ H) {b : Nat} {F : List Nat} {T : List TermD} (h : Tbl H b F T) (hnro : ∀ j ∈ F, nro ≤ j) (hnH : nro ≤ H.length) {s p : List Int} (hs : s.length = 32) (hbs : By s) (hp : p.length = 32) (hbp : By p) (hp0 : p ≠ zl 32) (hT : T.length ≤ 1000000)
  (hk : ∀ x, findT T p = some x → x.kind ≠ 3) :
  AC Tryd.prog nro γ 54 #[.pointer (some ⟨b, 0, none⟩), .agg (iv .u8 s).toArray, .agg (iv .u8 p).toArray] H (AgreeQ H b F T s p) := by
 have hag : agreeT T s p = ⟨5, ⟨#[]⟩, [s, p]⟩ := by
  unfold agreeT
  cases hf : findT T p with
  | none => rfl
  | some x => simp only [if_neg (hk x hf)]
 have hFl := h.bound
 have hT0 := h
 obtain ⟨mb, tv, Ft, Fk, L, rfl, hL, rfl, _⟩ := h
 have hts : (iv .u8 s).take 32 = iv .u8 s := List.take_of_length_le (by simp [hs])
 have htp : (iv .u8 p).take 32 = iv .u8 p := List.take_of_length_le (by simp [hp])
 have hpb : (p == zl 32) = false := by rw [beq_eq_false_iff_ne]; exact hp0
 have p1 : plain1 (.slice none 0 0) = true := rfl
 have r3 : List.range 3 = [0, 1, 2] := rfl
 have hf := fun (N : AH) => find_ac (nro := nro) (γ := γ) (hL.low (G := H ++ N) (fun j hj => hget_left (hFl j hj))) hp hbp
 have hcase := findV_T L p
 have hrow : setR (setR (List.map (fun j => (iv .u8 (zl 32))[j % 32]?.getD undef) (List.range 64)) 0 (iv .u8 s)) 32 (iv .u8 p) = iv .u8 s ++ iv .u8 p := row2 (by simp) (by simp [hs]) (by simp [hp])
 have hc : ∀ (G : AH) (R : Option Blk), Low H.length H G → hget G (H.length + 2) = some ⟨iv .u8 (zl 32), 41, none⟩ → hget (G ++ [R, some ⟨iv .u8 s ++ iv .u8 p, 41, some 32⟩]) (G.length + 1) = some ⟨iv .u8 s ++ iv .u8 p, 41, some 32⟩ → AC Tryd.prog nro γ 46 #[.pointer (some ⟨b, 0, none⟩), .int .i64 5, .string ⟨#[]⟩, .slice (some ⟨G.length + 1, 0, none⟩) 2 2] (G ++ [R, some ⟨iv .u8 s ++ iv .u8 p, 41, some 32⟩])
   (fun v' G3 => ∃ N : List Int, N = nmL (nameT ⟨5, ⟨#[]⟩, [s, p]⟩ (L.map (·.2))) ∧ N.length = 32 ∧ (iv .u8 N).take 32 = iv .u8 N ∧ setR (iv .u8 (zl 32)) 0 (iv .u8 N) = iv .u8 N ∧ v' = .agg (iv .u8 N).toArray ∧ H.length + 2 < G3.length ∧ hget G3 (H.length + 2) = some ⟨iv .u8 (zl 32), 41, none⟩ ∧ ∀ X : Option Blk, TermQ H b (b :: mb :: (Ft ++ Fk)) (L.map (·.2)) ⟨5, ⟨#[]⟩, [s, p]⟩ (.agg (iv .u8 N).toArray) (G3.set (H.length + 2) X)) := by
  intro G R lwG gz g2
  have lw2 : Low H.length H (G ++ [R, some ⟨iv .u8 s ++ iv .u8 p, 41, some 32⟩]) := ⟨fun j hj => (hget_left (by have := lwG.2; omega)).trans (lwG.1 j hj), by have := lwG.2; simp; omega⟩
  have gz2 := (hget_left (L := [R, some ⟨iv .u8 s ++ iv .u8 p, 41, some 32⟩]) (hget_lt gz)).trans gz
  have hlg := lwG.2
  generalize G ++ [R, some ⟨iv .u8 s ++ iv .u8 p, 41, some 32⟩] = G2 at *
  refine (term_ac (nro := nro) (γ := γ) (hpw.low lw2) (hT0.low (fun j hj => lw2.1 j (hFl j hj)) lw2.2) hnro (by have := lw2.2; omega) (wf_two (.inr rfl) hs hbs hp hbp) (v := .slice (some ⟨G.length + 1, 0, none⟩) 2 2) (fun D _ hj => keys2 hs hp ((hj _ (hget_lt g2) (fun e => by have := hFl _ e; omega)).trans g2)) hT).mono fun v' G3 hQ => ?_
  exact hQ.layG lw2 hFl (by omega) gz2
 generalize findV L p = fv at *
 rcases hcase with ⟨⟨kv, x⟩, hm, rfl, hft⟩ | ⟨rfl, hft⟩
 ·have hkn := hL.key_nt hm
  have hk3 : x.kind ≠ 3 := hk x hft
  have hk3b : ((x.kind : Int) == 3) = false := by rw [beq_eq_false_iff_ne]; omega
  have hk3i : ¬ (x.kind : Int) = 3 := by omega
  refine ac_of_aw Tryd.func54 rfl Tryd.ntmps54 Tryd.results54 (by simp) ?_
  (refine aw_seq (aoo fun K hK => ?_); simp (disch := first | omega | (simp only [lnS]; try omega)) [-getElem?_pos, -getElem?_neg, hts, htp]; refine hK _ _ ?_; clear hK K)
  refine aw_seq (aw_seq ?_)
  (refine aoo fun K hK => ?_; simp (disch := first | omega | (simp only [lnS]; try omega)) [-getElem?_pos, -getElem?_neg, htp, hp0, hpb]; refine hK _ _ ?_; clear hK K)
  refine aw_f (by (first | (simp; done) | (simp; omega))) (by kernel_rfl) ?_
  refine aw_skip (aw_seq ?_)
  refine aoo fun K hK => ?_
  simp (disch := first | omega | (simp only [lnS]; try omega)) [-getElem?_pos, -getElem?_neg, htp]
  refine ⟨by kernel_rfl, AC.mono (hf _) ?_⟩
  rintro _ G ⟨rfl, lw⟩
  have hGl := lw.2
  rw [List.length_append] at lw hGl
  have gs : hget G H.length = some ⟨iv .u8 s, 41, none⟩ := (lw.1 _ (by simp)).trans (by rw [hget_app0]; rfl)
  have gp : hget G (H.length + 1) = some ⟨iv .u8 p, 41, none⟩ := (lw.1 _ (by simp)).trans (by rw [hget_app]; rfl)
  have gz : hget G (H.length + 2) = some ⟨iv .u8 (zl 32), 41, none⟩ := (lw.1 _ (by simp)).trans (by rw [hget_app]; rfl)
  have ls := hget_lt gs
  have lp := hget_lt gp
  have lz := hget_lt gz
  have lwH : Low H.length H G := ⟨fun j hj => (lw.1 j (by omega)).trans (hget_left hj), by omega⟩
  unfold tmRow
  try simp (disch := first | omega | (simp only [lnS]; try omega)) [-getElem?_pos, -getElem?_neg, -notTuple, hkn.1, hkn.2, p1, r3]
  refine hK _ _ ?_; clear hK K
  refine aw_seq (aw_seq ?_)
  refine aoo fun K hK => ?_
  simp (disch := first | omega | (simp only [lnS]; try omega)) [-getElem?_pos, -getElem?_neg, hk3b, hk3i]
  refine hK _ _ ?_; clear hK K
  refine aw_t (by (first | (simp; done) | (simp; omega))) (by kernel_rfl) ?_
  refine aw_seq (aoo fun K hK => ?_)
  simp (disch := first | omega | (simp only [lnS]; try omega)) [-getElem?_pos, -getElem?_neg, gs, gp, ls, lp, hts, htp, hrow]
  refine ⟨by kernel_rfl, AC.mono (hc _ _ lwH gz (hget_at2 _ _ _)) ?_⟩
  intro v' G3 hQ
  obtain ⟨N, _, lN, ht, hse, rfl, hlt, hg, hfin⟩ := hQ
  have hn2 : nro ≤ H.length + 2 := by omega
  try simp (disch := first | omega | (simp only [lnS]; try omega)) [-getElem?_pos, -getElem?_neg, hn2, lN, ht, hse, hg, hlt]
  refine hK _ _ ?_; clear hK K
  (refine aw_ret ?_; simp (disch := first | omega | (simp only [lnS]; try omega)) [-getElem?_pos, -getElem?_neg, thenQ_ret, scopeQ_ret, inBlockQ_ret, RQ, resL, resV, lN, ht, hlt])
  exact .inr ⟨hp0, _, rfl, hag ▸ hfin _⟩
 ·unfold zkey at *
  refine ac_of_aw Tryd.func54 rfl Tryd.ntmps54 Tryd.results54 (by simp) ?_
  (refine aw_seq (aoo fun K hK => ?_); simp (disch := first | omega | (simp only [lnS]; try omega)) [-getElem?_pos, -getElem?_neg, hts, htp]; refine hK _ _ ?_; clear hK K)
  refine aw_seq (aw_seq ?_)
  (refine aoo fun K hK => ?_; simp (disch := first | omega | (simp only [lnS]; try omega)) [-getElem?_pos, -getElem?_neg, htp, hp0, hpb]; refine hK _ _ ?_; clear hK K)
  refine aw_f (by (first | (simp; done) | (simp; omega))) (by kernel_rfl) ?_
  refine aw_skip (aw_seq ?_)
  refine aoo fun K hK => ?_
  simp (disch := first | omega | (simp only [lnS]; try omega)) [-getElem?_pos, -getElem?_neg, htp]
  refine ⟨by kernel_rfl, AC.mono (hf _) ?_⟩
  rintro _ G ⟨rfl, lw⟩
  have hGl := lw.2
  rw [List.length_append] at lw hGl
  have gs : hget G H.length = some ⟨iv .u8 s, 41, none⟩ := (lw.1 _ (by simp)).trans (by rw [hget_app0]; rfl)
  have gp : hget G (H.length + 1) = some ⟨iv .u8 p, 41, none⟩ := (lw.1 _ (by simp)).trans (by rw [hget_app]; rfl)
  have gz : hget G (H.length + 2) = some ⟨iv .u8 (zl 32), 41, none⟩ := (lw.1 _ (by simp)).trans (by rw [hget_app]; rfl)
  have ls := hget_lt gs
  have lp := hget_lt gp
  have lz := hget_lt gz
  have lwH : Low H.length H G := ⟨fun j hj => (lw.1 j (by omega)).trans (hget_left hj), by omega⟩
  try simp (disch := first | omega | (simp only [lnS]; try omega)) [-getElem?_pos, -getElem?_neg, p1, r3]
  refine hK _ _ ?_; clear hK K
  refine aw_seq (aw_seq ?_)
  refine aoo fun K hK => ?_
  simp (disch := first | omega | (simp only [lnS]; try omega)) [-getElem?_pos, -getElem?_neg]
  refine hK _ _ ?_; clear hK K
  refine aw_t (by (first | (simp; done) | (simp; omega))) (by kernel_rfl) ?_
  refine aw_seq (aoo fun K hK => ?_)
  simp (disch := first | omega | (simp only [lnS]; try omega)) [-getElem?_pos, -getElem?_neg, gs, gp, ls, lp, hts, htp, hrow]
  refine ⟨by kernel_rfl, AC.mono (hc _ _ lwH gz (hget_at2 _ _ _)) ?_⟩
  intro v' G3 hQ
  obtain ⟨N, _, lN, ht, hse, rfl, hlt, hg, hfin⟩ := hQ
  have hn2 : nro ≤ H.length + 2 := by omega
  try simp (disch := first | omega | (simp only [lnS]; try omega)) [-getElem?_pos, -getElem?_neg, hn2, lN, ht, hse, hg, hlt]
  refine hK _ _ ?_; clear hK K
  (refine aw_ret ?_; simp (disch := first | omega | (simp only [lnS]; try omega)) [-getElem?_pos, -getElem?_neg, thenQ_ret, scopeQ_ret, inBlockQ_ret, RQ, resL, resV, lN, ht, hlt])
  exact .inr ⟨hp0, _, rfl, hag ▸ hfin _⟩
end
section
theorem TermQ.down {H H2 G A : AH} {b : Nat} {F : List Nat} {T : List TermD} {x : TermD} {v v2 : Value} (h : TermQ H2 b F T x v G) (lw : Low H.length H H2) (hF : ∀ j ∈ F, j < H.length) (hv : v2 = v) (hA : G.length ≤ A.length) (hk : ∀ j, j < G.length → hget A j = hget G j) : TermQ H b F T x v2 A := by
 subst hv
 obtain ⟨h0, h2, h3, F', h4, h5⟩ := h
 have hle := lw.2
 refine ⟨h0, by omega, fun j hj hn => (hk j (by omega)).trans ((h3 j (by omega) hn).trans (lw.1 j hj)), F', h4.low (fun j hj => hk j (h4.bound j hj)) hA, fun j hj => ?_⟩
 rcases h5 j hj with h | h
 ·exact .inl h
 ·exact .inr (by omega)
def SealQ (H : AH) (b : Nat) (F : List Nat) (T : List TermD) (x : TermD) (v' : Value) (H' : AH) : Prop :=
 v' = .string (strOfNums (nmL (nameT x T))) ∧ TermQ H b F T x (.agg (iv .u8 (nmL (nameT x T))).toArray) H'
theorem wf_seal {s : ByteArray} (hs : s.size ≤ 100000000) {k y : List Int} {ks : List (List Int)} (hk : k.length = 32) (hbk : By k) (hy : y.length = 32) (hby : By y) (hks : ∀ z ∈ ks, z.length = 32 ∧ By z) (hm : ks.length ≤ 999998) : TermD.Wf ⟨6, s, k :: y :: ks⟩ := by
 refine ⟨(by show 6 ≤ 6; omega), hs, fun z hz => ?_, fun z hz => ?_, (by show ks.length + 2 ≤ 1000000; omega), fun h => (by cases h), fun h => (by cases h), fun _ => (by show 2 ≤ ks.length + 2; omega)⟩
 ·simp only [List.mem_cons] at hz
  rcases hz with rfl | rfl | hz
  ·exact hk
  ·exact hy
  ·exact (hks z hz).1
 ·simp only [List.mem_cons] at hz
  rcases hz with rfl | rfl | hz
  ·exact hbk
  ·exact hby
  ·exact (hks z hz).2
theorem seal_ac {nro : Nat} {γ : Nat → Option Nat} {H : AH} (hpw : Pw γ H) {b : Nat} {F : List Nat} {T : List TermD} (h : Tbl H b F T) (hnro : ∀ j ∈ F, nro ≤ j) (hnH : nro ≤ H.length) {k y : List Int} (hk : k.length = 32) (hy : y.length = 32) {s : ByteArray} {ks : List (List Int)} (hx : TermD.Wf ⟨6, s, k :: y :: ks⟩) {v : Value} (hK : KsV H v ks) (hT : T.length ≤ 1000000) :
  AC Tryd.prog nro γ 27 #[.pointer (some ⟨b, 0, none⟩), .agg (iv .u8 k).toArray, .agg (iv .u8 y).toArray, .string s, v] H (SealQ H b F T ⟨6, s, k :: y :: ks⟩) := by
 unfold SealQ
 have hFl := h.bound
 have hv := val_nt hK
 have k32 : K32 ks := fun z hz => hx.k32 z (by simp [hz])
 have hkm : ks.length ≤ 1000000 := by have := hx.many; simp at this; omega
 have htk : (iv .u8 k).take 32 = iv .u8 k := List.take_of_length_le (by simp [hk])
 have hty : (iv .u8 y).take 32 = iv .u8 y := List.take_of_length_le (by simp [hy])
 have hrow : setR (setR (List.map (fun j => (iv .u8 (zl 32))[j % 32]?.getD undef) (List.range 64)) 0 (iv .u8 k)) 32 (iv .u8 y) = iv .u8 k ++ iv .u8 y := row2 (by simp) (by simp [hk]) (by simp [hy])
 obtain ⟨N4, hN4⟩ : ∃ N4 : AH, N4 = [some ⟨iv .u8 k, 41, none⟩, some ⟨iv .u8 y, 41, none⟩, some ⟨iv .u8 k ++ iv .u8 y, 41, some 32⟩, some ⟨[.slice (some ⟨H.length + 2, 0, none⟩) 2 2, v], 34, some 1⟩] := ⟨_, rfl⟩
 have g2 : hget (H ++ N4) (H.length + 2) = some ⟨iv .u8 k ++ iv .u8 y, 41, some 32⟩ := by rw [hget_app, hN4]; rfl
 have g3 : hget (H ++ N4) (H.length + 3) = some ⟨[.slice (some ⟨H.length + 2, 0, none⟩) 2 2, v], 34, some 1⟩ := by rw [hget_app, hN4]; rfl
 have hlN : (H ++ N4).length = H.length + 4 := by rw [hN4]; simp
 have hcc := concatK_ac (nro := nro) (γ := γ) (H := H ++ N4) (v := undef) (j := H.length + 3) (xs := [.slice (some ⟨H.length + 2, 0, none⟩) 2 2, v]) (L := [[k, y], ks]) (fun l hl => by
   simp only [List.mem_cons, List.not_mem_nil, or_false] at hl
   rcases hl with rfl | rfl
   ·intro z hz
    simp only [List.mem_cons, List.not_mem_nil, or_false] at hz
    rcases hz with rfl | rfl
    ·exact hk
    ·exact hy
   ·exact k32) g3 rfl (fun i x c hx1 hc1 => by
   match i, hx1, hc1 with
   | 0, hx1, hc1 =>
    cases hx1
    cases hc1
    exact (keys2 hk hy g2).part (fun z hz => by
     simp only [List.mem_cons, List.not_mem_nil, or_false] at hz
     rcases hz with rfl | rfl
     ·exact hk
     ·exact hy)
   | 1, hx1, hc1 =>
    cases hx1
    cases hc1
    have hK2 : KsV (H ++ N4) v ks := CD.Val.low (fun j hj => hget_left hj) hK
    exact hK2.part k32
   | i + 2, hx1, hc1 => simp at hx1) (by simp [sumK]; omega) (by simp) (by omega)
 have hfl : [[k, y], ks].flatten = k :: y :: ks := by simp
 rw [hfl] at hcc
 rw [hN4] at hcc
 have r2 : List.range 2 = [0, 1] := rfl
 have p1 : plain1 (.slice none 0 0) = true := rfl
 refine ac_of_aw Tryd.func27 rfl Tryd.ntmps27 Tryd.results27 (by simp) ?_
 (refine aw_seq (aoo fun K hK => ?_); simp (disch := first | omega | (simp only [lnS]; try omega)) [-getElem?_pos, -getElem?_neg, htk, hty]; refine hK _ _ ?_; clear hK K)
 refine aw_seq (aoo fun K hK => ?_)
 simp (disch := first | omega | (simp only [lnS]; try omega)) [-getElem?_pos, -getElem?_neg, htk, hty, hrow, r2, p1, -notTuple, hv.1, hv.2]
 refine ⟨by kernel_rfl, AC.mono hcc ?_⟩
 rintro v1 G ⟨ho, hlG, hkG⟩
 rw [← hN4] at ho hlG hkG
 have lwG : Low H.length H G := ⟨fun j hj => (hkG j (by omega)).trans (hget_left hj), by omega⟩
 have hvn := ho.nt
 have htm := term_ac (nro := nro) (γ := γ) (hpw.low lwG) (h.low (fun j hj => lwG.1 j (hFl j hj)) lwG.2) hnro (by omega) hx (v := v1) (fun D hD hj => by
  have : OwnK (H ++ N4).length D v1 (k :: y :: ks) := ho.low (fun j h1 h2 => hj j h2 (fun e => by have := hFl j e; omega))
  exact own_ksv this hx.k32) hT
 try simp (disch := first | omega | (simp only [lnS]; try omega)) [-getElem?_pos, -getElem?_neg, -notTuple, hvn.1, hvn.2]
 refine ⟨by kernel_rfl, AC.mono htm ?_⟩
 intro v2 G3 hQ
 have hl3 : H.length ≤ G3.length := by have := hQ.2.1; omega
 have hn3 : nro ≤ G3.length := by omega
 have hdn := fun (A : AH) => hQ.down (A := A) lwG hFl rfl
 obtain rfl := hQ.1
 have lN : (nmL (nameT ⟨6, s, k :: y :: ks⟩ T)).length = 32 := rfl
 generalize nmL (nameT ⟨6, s, k :: y :: ks⟩ T) = N at *
 have ht : (iv .u8 N).take 32 = iv .u8 N := List.take_of_length_le (by simp [lN])
 have hs : setR (iv .u8 (zl 32)) 0 (iv .u8 N) = iv .u8 N := setR_all _ _ (by simp [lN])
 try simp (disch := first | omega | (simp only [lnS]; try omega)) [-getElem?_pos, -getElem?_neg, hn3, lN, ht, hs]
 refine hK _ _ ?_; clear hK K
 refine aw_seq ?_
 have hbl := byteList_iv N
 (refine aoo fun K hK => ?_; simp (disch := first | omega | (simp only [lnS]; try omega)) [-getElem?_pos, -getElem?_neg, lN, ht, hbl]; refine hK _ _ ?_; clear hK K)
 (refine aw_ret ?_; simp (disch := first | omega | (simp only [lnS]; try omega)) [-getElem?_pos, -getElem?_neg, thenQ_ret, scopeQ_ret, inBlockQ_ret, RQ, resL, resV])
 exact hdn _ (by simp) (fun j hj => hget_left hj)
end
section
theorem two_ac {nro : Nat} {γ : Nat → Option Nat} {H G2 : AH} (hpw : Pw γ H) {b : Nat} {F : List Nat} {T : List TermD} (h : Tbl H b F T) (hnro : ∀ j ∈ F, nro ≤ j) (hnH : nro ≤ H.length) {n : Nat} (hn : n = 4 ∨ n = 5) {s p : List Int} (hs : s.length = 32) (hbs : By s) (hp : p.length = 32) (hbp : By p) (hT : T.length ≤ 1000000)
  (lw2 : Low H.length H G2) {z q : Nat} (hz : H.length ≤ z) (gz : hget G2 z = some ⟨iv .u8 (zl 32), 41, none⟩) (hq : H.length ≤ q) (g2 : hget G2 q = some ⟨iv .u8 s ++ iv .u8 p, 41, some 32⟩) :
  AC Tryd.prog nro γ 46 #[.pointer (some ⟨b, 0, none⟩), .int .i64 (n : Nat), .string ⟨#[]⟩, .slice (some ⟨q, 0, none⟩) 2 2] G2
   (fun v' G3 => ∃ N : List Int, N = nmL (nameT ⟨n, ⟨#[]⟩, [s, p]⟩ T) ∧ N.length = 32 ∧ (iv .u8 N).take 32 = iv .u8 N ∧ setR (iv .u8 (zl 32)) 0 (iv .u8 N) = iv .u8 N ∧ v' = .agg (iv .u8 N).toArray ∧ z < G3.length ∧ hget G3 z = some ⟨iv .u8 (zl 32), 41, none⟩ ∧ ∀ X : Option Blk, TermQ H b F T ⟨n, ⟨#[]⟩, [s, p]⟩ (.agg (iv .u8 N).toArray) (G3.set z X)) := by
 have hFl := h.bound
 refine (term_ac (nro := nro) (γ := γ) (hpw.low lw2) (h.low (fun j hj => lw2.1 j (hFl j hj)) lw2.2) hnro (by have := lw2.2; omega) (wf_two hn hs hbs hp hbp) (v := .slice (some ⟨q, 0, none⟩) 2 2) (fun D _ hj => keys2 hs hp ((hj _ (hget_lt g2) (fun e => by have := hFl _ e; omega)).trans g2)) hT).mono fun v' G3 hQ => ?_
 exact hQ.layG lw2 hFl hz gz
theorem agreeP_ac {nro : Nat} {γ : Nat → Option Nat} {H : AH} (hpw : Pw γ H) {b : Nat} {F : List Nat} {T : List TermD} (h : Tbl H b F T) (hnro : ∀ j ∈ F, nro ≤ j) (hnH : nro ≤ H.length) {s p : List Int} (hs : s.length = 32) (hbs : By s) (hp : p.length = 32) (hbp : By p) (hp0 : p ≠ zl 32) (hT : T.length ≤ 1000000)
  {y : TermD} (hy : findT T p = some y) (hy3 : y.kind = 3) :
  AC Tryd.prog nro γ 54 #[.pointer (some ⟨b, 0, none⟩), .agg (iv .u8 s).toArray, .agg (iv .u8 p).toArray] H (AgreeQ H b F T s p) := by
 have hag : agreeT T s p = if 0 < cmpL s (y.keys.getD 0 []) then ⟨4, ⟨#[]⟩, [y.keys.getD 0 [], s]⟩ else ⟨4, ⟨#[]⟩, [s, y.keys.getD 0 []]⟩ := by
  unfold agreeT
  rw [hy]
  simp only [if_pos hy3]
 have hFl := h.bound
 have hT0 := h
 obtain ⟨mb, tv, Ft, Fk, L, rfl, hL, rfl, _⟩ := h
 have hts : (iv .u8 s).take 32 = iv .u8 s := List.take_of_length_le (by simp [hs])
 have htp : (iv .u8 p).take 32 = iv .u8 p := List.take_of_length_le (by simp [hp])
 have hss : setR (iv .u8 (zl 32)) 0 (iv .u8 s) = iv .u8 s := setR_all _ _ (by simp [hs])
 have hpb : (p == zl 32) = false := by rw [beq_eq_false_iff_ne]; exact hp0
 have p1 : plain1 (.slice none 0 0) = true := rfl
 have r3 : List.range 3 = [0, 1, 2] := rfl
 have hf := fun (N : AH) => find_ac (nro := nro) (γ := γ) (hL.low (G := H ++ N) (fun j hj => hget_left (hFl j hj))) hp hbp
 have hcase := findV_T L p
 rw [hy] at hcase
 generalize findV L p = fv at *
 obtain ⟨kv, hm, rfl⟩ : ∃ kv, (kv, y) ∈ L ∧ fv = .tuple #[.agg (tmRow kv y).toArray, .bool true] := by
  rcases hcase with ⟨⟨kv, x⟩, hm, e, hft⟩ | ⟨_, hft⟩
  ·cases hft
   exact ⟨kv, hm, e⟩
  ·cases hft
 have hw : y.Wf := hL.wf _ hm
 have hk1 := hw.pub hy3
 obtain ⟨c, hc⟩ : ∃ c, y.keys = [c] := by
  match hh : y.keys, hk1 with
  | [c], _ => exact ⟨c, rfl⟩
 have lc : c.length = 32 := hw.k32 c (by rw [hc]; simp)
 have bc : By c := hw.by_ c (by rw [hc]; simp)
 have htc : (iv .u8 c).take 32 = iv .u8 c := List.take_of_length_le (by simp [lc])
 have hsc : setR (iv .u8 (zl 32)) 0 (iv .u8 c) = iv .u8 c := setR_all _ _ (by simp [lc])
 obtain ⟨jk, rfl, hjk⟩ : ∃ j, kv = .slice (some ⟨j, 0, none⟩) 1 1 ∧ hget H j = some ⟨iv .u8 c, 41, some 32⟩ := by
  obtain ⟨F0, ho, _⟩ := hL.keys _ hm
  have ho : OwnF H kv 41 32 (kr y.keys) F0 := ho
  rw [hc, kr_one] at ho
  rcases ho with ⟨_, e, _⟩ | ⟨j, len, e, hg, hl, _⟩
  ·have := congrArg List.length e
   simp [lc] at this
  ·rw [iv_length, lc] at hl
   have : len = 1 := by omega
   subst this
   exact ⟨j, e, hg⟩
 rw [hc] at hag
 have hg0 : ([c] : List (List Int)).getD 0 [] = c := rfl
 rw [hg0] at hag
 have hk3b : ((y.kind : Int) == 3) = true := by rw [hy3]; rfl
 have hk3i : (y.kind : Int) = 3 := by rw [hy3]; rfl
 have hkn : notTuple (.slice (some ⟨jk, 0, none⟩) 1 1) = true ∧ (Value.slice (some ⟨jk, 0, none⟩) 1 1).cells = #[.slice (some ⟨jk, 0, none⟩) 1 1] := ⟨rfl, rfl⟩
 refine ac_of_aw Tryd.func54 rfl Tryd.ntmps54 Tryd.results54 (by simp) ?_
 (refine aw_seq (aoo fun K hK => ?_); simp (disch := first | omega | (simp only [lnS]; try omega)) [-getElem?_pos, -getElem?_neg, hts, htp]; refine hK _ _ ?_; clear hK K)
 refine aw_seq (aw_seq ?_)
 (refine aoo fun K hK => ?_; simp (disch := first | omega | (simp only [lnS]; try omega)) [-getElem?_pos, -getElem?_neg, htp, hp0, hpb]; refine hK _ _ ?_; clear hK K)
 refine aw_f (by (first | (simp; done) | (simp; omega))) (by kernel_rfl) ?_
 refine aw_skip (aw_seq ?_)
 refine aoo fun K hK => ?_
 simp (disch := first | omega | (simp only [lnS]; try omega)) [-getElem?_pos, -getElem?_neg, htp]
 refine ⟨by kernel_rfl, AC.mono (hf _) ?_⟩
 rintro _ G ⟨rfl, lw⟩
 have hGl := lw.2
 rw [List.length_append] at lw hGl
 have gs : hget G H.length = some ⟨iv .u8 s, 41, none⟩ := (lw.1 _ (by simp)).trans (by rw [hget_app0]; rfl)
 have gp : hget G (H.length + 1) = some ⟨iv .u8 p, 41, none⟩ := (lw.1 _ (by simp)).trans (by rw [hget_app]; rfl)
 have gz : hget G (H.length + 2) = some ⟨iv .u8 (zl 32), 41, none⟩ := (lw.1 _ (by simp)).trans (by rw [hget_app]; rfl)
 have ls := hget_lt gs
 have lp := hget_lt gp
 have lz := hget_lt gz
 have lwH : Low H.length H G := ⟨fun j hj => (lw.1 j (by omega)).trans (hget_left hj), by omega⟩
 have gj : hget G jk = some ⟨iv .u8 c, 41, some 32⟩ := (lwH.1 _ (hget_lt hjk)).trans hjk
 have lj := hget_lt gj
 unfold tmRow
 try simp (disch := first | omega | (simp only [lnS]; try omega)) [-getElem?_pos, -getElem?_neg, -notTuple, hkn.1, hkn.2, p1, r3]
 refine hK _ _ ?_; clear hK K
 refine aw_seq (aw_seq ?_)
 refine aoo fun K hK => ?_
 simp (disch := first | omega | (simp only [lnS]; try omega)) [-getElem?_pos, -getElem?_neg, hk3b, hk3i]
 refine hK _ _ ?_; clear hK K
 refine aw_f (by (first | (simp; done) | (simp; omega))) (by kernel_rfl) ?_
 refine aw_skip (aw_seq ?_)
 (refine aw_plan [] [] [0, 1, 2, 3, 4, 5, 6] 7 2 (by kernel_rfl) (by kernel_rfl) (by kernel_rfl) (fun K hK => ?_)); simp only [sel, List.getElem?_cons_succ, List.getElem?_cons_zero, List.drop_succ_cons, List.drop_zero]; simp (disch := first | omega | (simp only [lnS]; try omega)) [-getElem?_pos, -getElem?_neg, gs, ls, gj, lj, hts, htc, hss, hsc, -notTuple, PL_nil, plainB_lit, PL_cons, PLc_val, PLc_new, stepP_t, stepP_f, stepPC_n, stepPC_s, stepPX_s, stepPX_n, stepPV_n, stepPV_s, stepPA_t, stepPA_c, stepPA_l, stepPN_s, allocOp, reloc_sl, reloc_ptr, List.map_cons, List.map_nil, List.nil_append, List.append_assoc, List.cons_append, Nat.add_assoc]
 refine hK _ _ ?_; clear hK K
 obtain ⟨G4, hG4⟩ : ∃ G4 : AH, G4 = G ++ [some ⟨[.int .i64 3, .string y.text, .slice (some ⟨jk, 0, none⟩) 1 1], 92, none⟩, some ⟨iv .u8 s, 41, none⟩, some ⟨iv .u8 c, 41, none⟩] := ⟨_, rfl⟩
 have g41 : hget G4 (G.length + 1) = some ⟨iv .u8 s, 41, none⟩ := by rw [hG4, hget_app]; rfl
 have g42 : hget G4 (G.length + 2) = some ⟨iv .u8 c, 41, none⟩ := by rw [hG4, hget_app]; rfl
 have g4l : G4.length = G.length + 3 := by rw [hG4]; simp
 have g4j : ∀ j, j < G.length → hget G4 j = hget G j := fun j hj => by rw [hG4, hget_left hj]
 have g4z := (g4j _ lz).trans gz
 have g4lw : ∀ j, j < H.length → hget G4 j = hget H j := fun j hj => (g4j j (by omega)).trans (lwH.1 j hj)
 have l41 := hget_lt g41
 have l42 := hget_lt g42
 rw [← hG4]
 clear hG4 lw
 refine aw_seq (aw_seq ?_)
 by_cases hgt : 0 < cmpL s c
 ·rw [if_pos hgt] at hag
  (refine aw_plan [] [] [0, 1, 2, 3] 4 0 (by kernel_rfl) (by kernel_rfl) (by kernel_rfl) (fun K hK => ?_)); simp only [sel, List.getElem?_cons_succ, List.getElem?_cons_zero, List.drop_succ_cons, List.drop_zero]; simp (disch := first | omega | (simp only [lnS]; try omega)) [-getElem?_pos, -getElem?_neg, g41, g42, l41, l42, hs, lc, PL_nil, plainB_lit, PL_cons, PLc_val, PLc_new, stepP_t, stepP_f, stepPC_n, stepPC_s, stepPX_s, stepPX_n, stepPV_n, stepPV_s, stepPA_t, stepPA_c, stepPA_l, stepPN_s, allocOp, reloc_sl, reloc_ptr, List.map_cons, List.map_nil, List.nil_append, List.append_assoc, List.cons_append, Nat.add_assoc]
  refine PLc_call (v := .int .i64 (cmpL s c)) (by kernel_rfl) (fun N hN => ?_) (by simp [pv_iv, pv_int, pv_bool, pv_string, pv_tup2, pv_tup3, iv_plain, p2_int, p2_bool, p2_string]) ?_
  ·exact (compare_ac (hget_left' g41) (hget_left' g42) hs lc).mono fun v' H' h => h.1
  try simp (disch := first | omega | (simp only [lnS]; try omega)) [-getElem?_pos, -getElem?_neg, hgt, PL_nil, plainB_lit, PL_cons, PLc_val, PLc_new, stepP_t, stepP_f, stepPC_n, stepPC_s, stepPX_s, stepPX_n, stepPV_n, stepPV_s, stepPA_t, stepPA_c, stepPA_l, stepPN_s, allocOp, reloc_sl, reloc_ptr, List.map_cons, List.map_nil, List.nil_append, List.append_assoc, List.cons_append, Nat.add_assoc]
  refine hK _ _ ?_; clear hK K
  refine aw_t (by (first | (simp; done) | (simp; omega))) (by kernel_rfl) ?_
  have hn1 : nro ≤ G.length + 1 := by omega
  have hn22 : nro ≤ G.length + 2 := by omega
  have hcs2 : setR (iv .u8 c) 0 (iv .u8 s) = iv .u8 s := setR_all _ _ (by simp [hs, lc])
  have hsc2 : setR (iv .u8 s) 0 (iv .u8 c) = iv .u8 c := setR_all _ _ (by simp [hs, lc])
  (refine aoo fun K hK => ?_; simp (disch := first | omega | (simp only [lnS]; try omega)) [-getElem?_pos, -getElem?_neg, g41, g42, l41, l42, hts, htc, hn1, hn22, hcs2, hsc2]; refine hK _ _ ?_; clear hK K)
  obtain ⟨G5, hG5⟩ : ∃ G5 : AH, G5 = (G4.set (G.length + 1) (some ⟨iv .u8 c, 41, none⟩)).set (G.length + 2) (some ⟨iv .u8 s, 41, none⟩) := ⟨_, rfl⟩
  have g51 : hget G5 (G.length + 1) = some ⟨iv .u8 c, 41, none⟩ := by rw [hG5, hget_set_ne (by omega), hget_set_eq l41]
  have g52 : hget G5 (G.length + 2) = some ⟨iv .u8 s, 41, none⟩ := by rw [hG5, hget_set_eq (by simp; omega)]
  have g5j : ∀ j, j < G.length → hget G5 j = hget G4 j := fun j hj => by rw [hG5, hget_set_ne (by omega), hget_set_ne (by omega)]
  have g5l : G5.length = G.length + 3 := by rw [hG5]; simp; omega
  have g5z := (g5j _ lz).trans g4z
  have g5lw : ∀ j, j < H.length → hget G5 j = hget H j := fun j hj => (g5j j (by omega)).trans (g4lw j hj)
  have l51 := hget_lt g51
  have l52 := hget_lt g52
  rw [← hG5]
  clear hG5
  have hrow : setR (setR (List.map (fun j => (iv .u8 (zl 32))[j % 32]?.getD undef) (List.range 64)) 0 (iv .u8 c)) 32 (iv .u8 s) = iv .u8 c ++ iv .u8 s := row2 (by simp) (by simp [lc]) (by simp [hs])
  have htw := two_ac (nro := nro) (γ := γ) (G2 := G5 ++ [some ⟨iv .u8 c ++ iv .u8 s, 41, some 32⟩]) hpw hT0 hnro hnH (n := 4) (.inl rfl) lc bc hs hbs hT ⟨fun j hj => (hget_left (by omega)).trans (g5lw j hj), by simp; omega⟩ (z := H.length + 2) (q := G5.length) (by omega) ((hget_left (by omega)).trans g5z) (by omega) (by rw [hget_app0]; rfl)
  refine aw_seq (aoo fun K hK => ?_)
  simp (disch := first | omega | (simp only [lnS]; try omega)) [-getElem?_pos, -getElem?_neg, g51, g52, l51, l52, hts, htc, hrow]
  refine ⟨by kernel_rfl, AC.mono htw ?_⟩
  intro v' G3 hQ
  obtain ⟨N, _, lN, ht, hse, rfl, hlt, hg, hfin⟩ := hQ
  have hn2 : nro ≤ H.length + 2 := by omega
  try simp (disch := first | omega | (simp only [lnS]; try omega)) [-getElem?_pos, -getElem?_neg, hn2, lN, ht, hse, hg, hlt]
  refine hK _ _ ?_; clear hK K
  (refine aw_ret ?_; simp (disch := first | omega | (simp only [lnS]; try omega)) [-getElem?_pos, -getElem?_neg, thenQ_ret, scopeQ_ret, inBlockQ_ret, RQ, resL, resV, lN, ht, hlt])
  exact .inr ⟨hp0, _, rfl, hag ▸ hfin _⟩
 ·rw [if_neg hgt] at hag
  (refine aw_plan [] [] [0, 1, 2, 3] 4 0 (by kernel_rfl) (by kernel_rfl) (by kernel_rfl) (fun K hK => ?_)); simp only [sel, List.getElem?_cons_succ, List.getElem?_cons_zero, List.drop_succ_cons, List.drop_zero]; simp (disch := first | omega | (simp only [lnS]; try omega)) [-getElem?_pos, -getElem?_neg, g41, g42, l41, l42, hs, lc, PL_nil, plainB_lit, PL_cons, PLc_val, PLc_new, stepP_t, stepP_f, stepPC_n, stepPC_s, stepPX_s, stepPX_n, stepPV_n, stepPV_s, stepPA_t, stepPA_c, stepPA_l, stepPN_s, allocOp, reloc_sl, reloc_ptr, List.map_cons, List.map_nil, List.nil_append, List.append_assoc, List.cons_append, Nat.add_assoc]
  refine PLc_call (v := .int .i64 (cmpL s c)) (by kernel_rfl) (fun N hN => ?_) (by simp [pv_iv, pv_int, pv_bool, pv_string, pv_tup2, pv_tup3, iv_plain, p2_int, p2_bool, p2_string]) ?_
  ·exact (compare_ac (hget_left' g41) (hget_left' g42) hs lc).mono fun v' H' h => h.1
  try simp (disch := first | omega | (simp only [lnS]; try omega)) [-getElem?_pos, -getElem?_neg, hgt, PL_nil, plainB_lit, PL_cons, PLc_val, PLc_new, stepP_t, stepP_f, stepPC_n, stepPC_s, stepPX_s, stepPX_n, stepPV_n, stepPV_s, stepPA_t, stepPA_c, stepPA_l, stepPN_s, allocOp, reloc_sl, reloc_ptr, List.map_cons, List.map_nil, List.nil_append, List.append_assoc, List.cons_append, Nat.add_assoc]
  refine hK _ _ ?_; clear hK K
  refine aw_f (by (first | (simp; done) | (simp; omega))) (by kernel_rfl) ?_
  refine aw_skip ?_
  have hrow : setR (setR (List.map (fun j => (iv .u8 (zl 32))[j % 32]?.getD undef) (List.range 64)) 0 (iv .u8 s)) 32 (iv .u8 c) = iv .u8 s ++ iv .u8 c := row2 (by simp) (by simp [hs]) (by simp [lc])
  have htw := two_ac (nro := nro) (γ := γ) (G2 := G4 ++ [some ⟨iv .u8 s ++ iv .u8 c, 41, some 32⟩]) hpw hT0 hnro hnH (n := 4) (.inl rfl) hs hbs lc bc hT ⟨fun j hj => (hget_left (by omega)).trans (g4lw j hj), by simp; omega⟩ (z := H.length + 2) (q := G4.length) (by omega) ((hget_left (by omega)).trans g4z) (by omega) (by rw [hget_app0]; rfl)
  refine aw_seq (aoo fun K hK => ?_)
  simp (disch := first | omega | (simp only [lnS]; try omega)) [-getElem?_pos, -getElem?_neg, g41, g42, l41, l42, hts, htc, hrow]
  refine ⟨by kernel_rfl, AC.mono htw ?_⟩
  intro v' G3 hQ
  obtain ⟨N, _, lN, ht, hse, rfl, hlt, hg, hfin⟩ := hQ
  have hn2 : nro ≤ H.length + 2 := by omega
  try simp (disch := first | omega | (simp only [lnS]; try omega)) [-getElem?_pos, -getElem?_neg, hn2, lN, ht, hse, hg, hlt]
  refine hK _ _ ?_; clear hK K
  (refine aw_ret ?_; simp (disch := first | omega | (simp only [lnS]; try omega)) [-getElem?_pos, -getElem?_neg, thenQ_ret, scopeQ_ret, inBlockQ_ret, RQ, resL, resV, lN, ht, hlt])
  exact .inr ⟨hp0, _, rfl, hag ▸ hfin _⟩
theorem agree_ac {nro : Nat} {γ : Nat → Option Nat} {H : AH} (hpw : Pw γ H) {b : Nat} {F : List Nat} {T : List TermD} (h : Tbl H b F T) (hnro : ∀ j ∈ F, nro ≤ j) (hnH : nro ≤ H.length) {s p : List Int} (hs : s.length = 32) (hbs : By s) (hp : p.length = 32) (hbp : By p) (hT : T.length ≤ 1000000) :
  AC Tryd.prog nro γ 54 #[.pointer (some ⟨b, 0, none⟩), .agg (iv .u8 s).toArray, .agg (iv .u8 p).toArray] H (AgreeQ H b F T s p) := by
 by_cases hp0 : p = zl 32
 ·subst hp0
  exact agree0_ac hnH hs
 ·cases hy : findT T p with
  | none => exact agreeN_ac hpw h hnro hnH hs hbs hp hbp hp0 hT (fun x hx => by rw [hy] at hx; cases hx)
  | some y =>
   by_cases hy3 : y.kind = 3
   ·exact agreeP_ac hpw h hnro hnH hs hbs hp hbp hp0 hT hy hy3
   ·exact agreeN_ac hpw h hnro hnH hs hbs hp hbp hp0 hT (fun x hx => by rw [hy] at hx; cases hx; exact hy3)
end
section
theorem lay32 {X : List Int} (h : X.length = 32) : List.take 32 (setR (iv .u8 (zl 32)) 0 (iv .u8 X)) = iv .u8 X := by
 rw [setR_all _ _ (by simp [h]), List.take_of_length_le (by simp [h])]
theorem zl24 : (zl 24).length = 24 := by simp [zl]
theorem rname_rc {γ : Nat → Option Nat} {H : AH} {n : Int} (hn : 0 ≤ n ∧ n < 4611686018427387904) : AC Tryd.prog H.length γ 49 #[.int .i64 n] H (fun v' _ => v' = .agg (iv .u8 (nmL n)).toArray) := by
 have t0 : n.tdiv 16777216 = n / 16777216 := Int.tdiv_eq_ediv_of_nonneg hn.1
 have t1 : n.tdiv 65536 = n / 65536 := Int.tdiv_eq_ediv_of_nonneg hn.1
 have t2 : n.tdiv 256 = n / 256 := Int.tdiv_eq_ediv_of_nonneg hn.1
 have m1 : (n / 65536).tmod 256 = n / 65536 % 256 := Int.tmod_eq_emod_of_nonneg (by omega)
 have m2 : (n / 256).tmod 256 = n / 256 % 256 := Int.tmod_eq_emod_of_nonneg (by omega)
 have m3 : n.tmod 256 = n % 256 := Int.tmod_eq_emod_of_nonneg hn.1
 have w0 : IntKind.u8.wrap (n / 16777216) = n / 16777216 % 256 := u8w _
 have w1 : IntKind.u8.wrap (n / 65536 % 256) = n / 65536 % 256 := by rw [u8w]; omega
 have w2 : IntKind.u8.wrap (n / 256 % 256) = n / 256 % 256 := by rw [u8w]; omega
 have w3 : IntKind.u8.wrap (n % 256) = n % 256 := by rw [u8w]; omega
 have v0 : IntKind.i64.wrap (n / 16777216) = n / 16777216 := w64 (by omega)
 have v1 : IntKind.i64.wrap (n / 65536) = n / 65536 := w64 (by omega)
 have v2 : IntKind.i64.wrap (n / 256) = n / 256 := w64 (by omega)
 have e : ∀ a b c d : Int, ((((((((iv .u8 (zl 32)).set 0 (.int .u8 116)).set 1 (.int .u8 101)).set 2 (.int .u8 114)).set 3 (.int .u8 109)).set 4 (.int .u8 a)).set 5 (.int .u8 b)).set 6 (.int .u8 c)).set 7 (.int .u8 d) = iv .u8 (116 :: 101 :: 114 :: 109 :: a :: b :: c :: d :: zl 24) := fun _ _ _ _ => rfl
 have e2 : nmL n = 116 :: 101 :: 114 :: 109 :: n / 16777216 % 256 :: n / 65536 % 256 :: n / 256 % 256 :: n % 256 :: zl 24 := rfl
 rw [e2]
 refine ac_of_aw Tryd.func49 rfl Tryd.ntmps49 Tryd.results49 (by simp) ?_
 (refine aw_seq (aoo fun K hK => ?_); simp (disch := first | omega | (simp only [lnS]; try omega)) []; refine hK _ _ ?_; clear hK K)
 (refine aw_seq (aoo fun K hK => ?_); simp (disch := first | omega | (simp only [lnS]; try omega)) [t0, t1, t2, m1, m2, m3, w0, w1, w2, w3, v0, v1, v2, e]; refine hK _ _ ?_; clear hK K)
 (refine aw_ret ?_; simp (disch := first | omega | (simp only [lnS]; try omega)) [thenQ_ret, scopeQ_ret, inBlockQ_ret, RQ, resL, resV])
 exact lay32 (by simp only [List.length_cons, zl24])
end
section
def numR (n : Nat) (k : List Int) : Int := if (decide (plN k < n) && decide (nmL (plN k) = k)) = true then plN k else -1
theorem rnum_rc {γ : Nat → Option Nat} {H : AH} {b n : Nat} {tv sv : Value} (hgb : hget H b = some ⟨[tv, sv], 33, none⟩) (hl : xlen Tryd.prog 30 tv = some (.int .i64 (n : Nat))) (hnt : notTuple tv = true) (hcs : tv.cells = #[tv]) {k : List Int} (hk : k.length = 32) (hb : By k) :
  AC Tryd.prog H.length γ 36 #[.pointer (some ⟨b, 0, none⟩), .agg (iv .u8 k).toArray] H (fun v' _ => v' = .int .i64 (numR n k)) := by
 have b4 := hb.get 4
 have b5 := hb.get 5
 have b6 := hb.get 6
 have b7 := hb.get 7
 have hbl := hget_lt hgb
 have htk : (iv .u8 k).take 32 = iv .u8 k := List.take_of_length_le (by simp [hk])
 have g4 : (iv .u8 k)[4]? = some (.int .u8 (k.getD 4 0)) := iv_getN _ _ _ (by omega)
 have g5 : (iv .u8 k)[5]? = some (.int .u8 (k.getD 5 0)) := iv_getN _ _ _ (by omega)
 have g6 : (iv .u8 k)[6]? = some (.int .u8 (k.getD 6 0)) := iv_getN _ _ _ (by omega)
 have g7 : (iv .u8 k)[7]? = some (.int .u8 (k.getD 7 0)) := iv_getN _ _ _ (by omega)
 have hpl : plN k = k.getD 4 0 * 16777216 + k.getD 5 0 * 65536 + k.getD 6 0 * 256 + k.getD 7 0 := rfl
 have hc := fun (G : AH) => rname_rc (γ := γ) (H := G) (n := plN k) (by omega)
 have hkN : (k == nmL (plN k)) = decide (nmL (plN k) = k) := by rw [Bool.eq_iff_iff, beq_iff_eq, decide_eq_true_iff]; exact eq_comm
 have lN : (nmL (plN k)).length = 32 := rfl
 unfold numR
 generalize nmL (plN k) = N at *
 generalize plN k = p at *
 generalize k.getD 4 0 = x4 at *
 generalize k.getD 5 0 = x5 at *
 generalize k.getD 6 0 = x6 at *
 generalize k.getD 7 0 = x7 at *
 have w4 : IntKind.i64.wrap x4 = x4 := w64 (by omega)
 have w5 : IntKind.i64.wrap x5 = x5 := w64 (by omega)
 have w6 : IntKind.i64.wrap x6 = x6 := w64 (by omega)
 have w7 : IntKind.i64.wrap x7 = x7 := w64 (by omega)
 have v4 : IntKind.i64.wrap (x4 * 16777216) = x4 * 16777216 := w64 (by omega)
 have v5 : IntKind.i64.wrap (x5 * 65536) = x5 * 65536 := w64 (by omega)
 have v6 : IntKind.i64.wrap (x6 * 256) = x6 * 256 := w64 (by omega)
 have o1 : IntKind.i64.wrap (x4 * 16777216 + x5 * 65536) = x4 * 16777216 + x5 * 65536 := w64 (by omega)
 have o2 : IntKind.i64.wrap (x4 * 16777216 + x5 * 65536 + x6 * 256) = x4 * 16777216 + x5 * 65536 + x6 * 256 := w64 (by omega)
 have o3 : IntKind.i64.wrap (x4 * 16777216 + x5 * 65536 + x6 * 256 + x7) = p := by rw [← hpl]; exact w64 (by omega)
 have htN : (iv .u8 N).take 32 = iv .u8 N := List.take_of_length_le (by simp [lN])
 refine ac_of_aw Tryd.func36 rfl Tryd.ntmps36 Tryd.results36 (by simp) ?_
 (refine aw_seq (aoo fun K hK => ?_); simp (disch := first | omega | (simp only [lnS]; try omega)) [-getElem?_pos, -getElem?_neg, htk]; refine hK _ _ ?_; clear hK K)
 (refine aw_seq (aoo fun K hK => ?_); simp (disch := first | omega | (simp only [lnS]; try omega)) [-getElem?_pos, -getElem?_neg, g4, g5, g6, g7, w4, w5, w6, w7, v4, v5, v6, o1, o2, o3]; refine hK _ _ ?_; clear hK K)
 refine aw_seq (aw_seq ?_)
 have hgl := fun (N : AH) => (hget_left (L := N) hbl).trans hgb
 generalize decide (N = k) = ok at *
 by_cases hlt : p < n
 ·(refine aw_plan [] [] [0, 1, 2, 3, 4, 5, 6, 7, 8, 9, 10, 11, 12] 13 0 (by kernel_rfl) (by kernel_rfl) (by kernel_rfl) (fun K hK => ?_)); simp only [sel, List.getElem?_cons_succ, List.getElem?_cons_zero, List.drop_succ_cons, List.drop_zero]; simp (disch := first | omega | (simp only [lnS]; try omega)) [-getElem?_pos, -getElem?_neg, hgb, hbl, htk, -notTuple, hnt, -xlen, hl, hlt, PL_nil, plainB_lit, PL_cons, PLc_val, PLc_new, stepP_t, stepP_f, stepPC_n, stepPC_s, stepPX_s, stepPX_n, stepPV_n, stepPV_s, stepPA_t, stepPA_c, stepPA_l, stepPN_s, allocOp, reloc_sl, reloc_ptr, List.map_cons, List.map_nil, List.nil_append, List.append_assoc, List.cons_append, Nat.add_assoc]
  refine PLc_call (by kernel_rfl) (fun L hL => hc _) (by simp [pv_iv, pv_int, pv_bool, pv_string, pv_tup2, pv_tup3, iv_plain, p2_int, p2_bool, p2_string]) ?_
  try simp (disch := first | omega | (simp only [lnS]; try omega)) [-getElem?_pos, -getElem?_neg, htk, htN, lN, hlt, hkN, PL_nil, plainB_lit, PL_cons, PLc_val, PLc_new, stepP_t, stepP_f, stepPC_n, stepPC_s, stepPX_s, stepPX_n, stepPV_n, stepPV_s, stepPA_t, stepPA_c, stepPA_l, stepPN_s, allocOp, reloc_sl, reloc_ptr, List.map_cons, List.map_nil, List.nil_append, List.append_assoc, List.cons_append, Nat.add_assoc]
  refine hK _ _ ?_; clear hK K
  cases ok with
  | true =>
   refine aw_t (by (first | (simp [hkN]; done) | (simp [hkN]; omega))) (by kernel_rfl) ?_
   (refine aw_seq (aoo fun K hK => ?_); simp (disch := first | omega | (simp only [lnS]; try omega)) [-getElem?_pos, -getElem?_neg]; refine hK _ _ ?_; clear hK K)
   (refine aw_ret ?_; simp (disch := first | omega | (simp only [lnS]; try omega)) [-getElem?_pos, -getElem?_neg, thenQ_ret, scopeQ_ret, inBlockQ_ret, RQ, resL, resV, hlt])
  | false =>
   refine aw_f (by (first | (simp [hkN]; done) | (simp [hkN]; omega))) (by kernel_rfl) ?_
   refine aw_skip (aw_seq ?_)
   (refine aoo fun K hK => ?_; simp (disch := first | omega | (simp only [lnS]; try omega)) [-getElem?_pos, -getElem?_neg]; refine hK _ _ ?_; clear hK K)
   (refine aw_ret ?_; simp (disch := first | omega | (simp only [lnS]; try omega)) [-getElem?_pos, -getElem?_neg, thenQ_ret, scopeQ_ret, inBlockQ_ret, RQ, resL, resV, hlt])
 ·(refine aw_plan [] [] [0, 1, 2, 3, 4, 5, 6, 7, 8, 9, 10, 11, 12] 13 0 (by kernel_rfl) (by kernel_rfl) (by kernel_rfl) (fun K hK => ?_)); simp only [sel, List.getElem?_cons_succ, List.getElem?_cons_zero, List.drop_succ_cons, List.drop_zero]; simp (disch := first | omega | (simp only [lnS]; try omega)) [-getElem?_pos, -getElem?_neg, hgb, hbl, htk, -notTuple, hnt, -xlen, hl, hlt, PL_nil, plainB_lit, PL_cons, PLc_val, PLc_new, stepP_t, stepP_f, stepPC_n, stepPC_s, stepPX_s, stepPX_n, stepPV_n, stepPV_s, stepPA_t, stepPA_c, stepPA_l, stepPN_s, allocOp, reloc_sl, reloc_ptr, List.map_cons, List.map_nil, List.nil_append, List.append_assoc, List.cons_append, Nat.add_assoc]
  refine hK _ _ ?_; clear hK K
  refine aw_f (by (first | (simp; done) | (simp; omega))) (by kernel_rfl) ?_
  refine aw_skip (aw_seq ?_)
  (refine aoo fun K hK => ?_; simp (disch := first | omega | (simp only [lnS]; try omega)) [-getElem?_pos, -getElem?_neg]; refine hK _ _ ?_; clear hK K)
  (refine aw_ret ?_; simp (disch := first | omega | (simp only [lnS]; try omega)) [-getElem?_pos, -getElem?_neg, thenQ_ret, scopeQ_ret, inBlockQ_ret, RQ, resL, resV, hlt])
end
section
def sameT (x y : TermD) : Bool := decide (x.kind = y.kind) && (decide (x.text = y.text) && decide (x.keys = y.keys))
theorem sameT_iff {x y : TermD} : sameT x y = true ↔ x = y := by
 obtain ⟨a, b, c⟩ := x
 obtain ⟨a', b', c'⟩ := y
 simp [sameT]
theorem tl_beq (a b : ByteArray) : (a.toList == b.toList) = decide (a = b) := by
 rw [Bool.eq_iff_iff, beq_iff_eq, decide_eq_true_iff, ByteArray.toList_eq, ByteArray.toList_eq]
 exact ⟨fun h => ByteArray.ext (Array.ext' h), fun h => by rw [h]⟩
end
section
theorem rless_vc (a b : List Int) (ha : a.length = 32) (hb : b.length = 32) (hab : By a) (hbb : By b) : VC Tryd.prog 65 #[.agg (iv .u8 a).toArray, .agg (iv .u8 b).toArray] (.bool (decide (0 < cmpL b a))) := by
 have hla : (iv .u8 a).length = 32 := by rw [iv_length, ha]
 have hlb : (iv .u8 b).length = 32 := by rw [iv_length, hb]
 refine vc_of_ac (by simp [pv_iv, pv_int, pv_bool, pv_string, pv_tup2, pv_tup3, iv_plain, p2_int, p2_bool, p2_string]) (by simp [pv_iv, pv_int, pv_bool, pv_string, pv_tup2, pv_tup3, iv_plain, p2_int, p2_bool, p2_string]) ?_
 refine ac_of_aw Tryd.func65 rfl Tryd.ntmps65 Tryd.results65 (by simp) ?_
 (refine aw_seq (aoo fun K hK => ?_); simp (disch := first | omega | (simp only [lnS]; try omega)) [-getElem?_pos, -getElem?_neg, hla, hlb]; refine hK _ _ ?_; clear hK K)
 refine aw_seq (aw_seq ?_)
 (refine aoo fun K hK => ?_; simp (disch := first | omega | (simp only [lnS]; try omega)) [-getElem?_pos, -getElem?_neg]; refine hK _ _ ?_; clear hK K)
 refine aw_block ?_
 refine aw_loop (fun q α G => G = [some ⟨iv .u8 a, 41, none⟩, some ⟨iv .u8 b, 41, none⟩] ∧ ∃ i : Nat, i + q = 32 ∧ α 5 = .int .i64 (i : Nat) ∧ α 2 = .pointer (some ⟨0, 0, none⟩) ∧ α 3 = .pointer (some ⟨1, 0, none⟩) ∧ a.take i = b.take i) 32 ?_ ?_
 ·exact ⟨by simp, 0, by omega, by (first | (simp; done) | rfl), by (first | (simp; done) | rfl), by (first | (simp; done) | rfl), by simp⟩
 rintro q α G ⟨rfl, i, hiq, h5, h2, h3, hpre⟩
 refine aw_seq (aw_seq ?_)
 (refine aoo fun K hK => ?_; simp (disch := first | omega | (simp only [lnS]; try omega)) [-getElem?_pos, -getElem?_neg, h5]; refine hK _ _ ?_; clear hK K)
 by_cases hi : i < 32
 case neg =>
  refine aw_f (by (first | (simp [hi]; done) | (simp [hi]; omega))) (by kernel_rfl) ?_
  refine aw_exit ?_
  obtain rfl : i = 32 := by omega
  rw [List.take_of_length_le (by omega), List.take_of_length_le (by omega)] at hpre
  subst hpre
  have := cmpL_eq (a := a)
  (refine aw_seq (aoo fun K hK => ?_); simp (disch := first | omega | (simp only [lnS]; try omega)) [-getElem?_pos, -getElem?_neg]; refine hK _ _ ?_; clear hK K)
  (refine aw_ret ?_; simp (disch := first | omega | (simp only [lnS]; try omega)) [-getElem?_pos, -getElem?_neg, thenQ_ret, scopeQ_ret, inBlockQ_ret, RQ, resL, resV, this])
 refine aw_t (by (first | (simp [hi]; done) | (simp [hi]; omega))) (by kernel_rfl) ?_
 refine aw_skip (aw_seq ?_)
 refine aw_block ?_
 obtain ⟨x, hx⟩ : ∃ x, a[i]? = some x := ⟨_, List.getElem?_eq_getElem (by omega)⟩
 obtain ⟨y, hy⟩ : ∃ y, b[i]? = some y := ⟨_, List.getElem?_eq_getElem (by omega)⟩
 have hxi : (iv .u8 a)[i]? = some (.int .u8 x) := by simp [iv, hx]
 have hyi : (iv .u8 b)[i]? = some (.int .u8 y) := by simp [iv, hy]
 refine aw_seq ?_
 (refine aw_quiet (by kernel_rfl) (by kernel_rfl) (by kernel_rfl) (fun K hK => ?_); simp (disch := first | omega | (simp only [lnS]; try omega)) [-getElem?_pos, -getElem?_neg, h5, h2, h3, hla, hlb, hxi, hyi]; refine hK _ ?_; clear hK K)
 by_cases hxy : x = y
 case neg =>
  have hc := cmpL_at hbb hab (by omega) hy hx (fun e => hxy e.symm) hpre.symm
  refine aw_t (by (first | (simp [hxy]; done) | (simp [hxy]; omega))) (by kernel_rfl) ?_
  refine aw_seq ?_
  (refine aw_quiet (by kernel_rfl) (by kernel_rfl) (by kernel_rfl) (fun K hK => ?_); simp (disch := first | omega | (simp only [lnS]; try omega)) [-getElem?_pos, -getElem?_neg, h5, h2, h3, hla, hlb, hxi, hyi]; refine hK _ ?_; clear hK K)
  by_cases hlt : x < y
  ·rw [if_neg (by omega)] at hc
   (refine aw_ret ?_; simp (disch := first | omega | (simp only [lnS]; try omega)) [-getElem?_pos, -getElem?_neg, thenQ_ret, scopeQ_ret, inBlockQ_ret, RQ, resL, resV, hc, hlt])
  ·rw [if_pos (by omega)] at hc
   (refine aw_ret ?_; simp (disch := first | omega | (simp only [lnS]; try omega)) [-getElem?_pos, -getElem?_neg, thenQ_ret, scopeQ_ret, inBlockQ_ret, RQ, resL, resV, hc, hlt])
 refine aw_f (by (first | (simp [hxy]; done) | (simp [hxy]; omega))) (by kernel_rfl) ?_
 refine aw_skip ?_
 (refine aoo fun K hK => ?_; simp (disch := first | omega | (simp only [lnS]; try omega)) [-getElem?_pos, -getElem?_neg, h5]; refine hK _ _ ?_; clear hK K)
 exact ⟨q - 1, by omega, rfl, i + 1, by omega, by (first | (simp; done) | rfl), by (first | (simp [h2]; done) | rfl), by (first | (simp [h3]; done) | rfl), by rw [List.take_add_one, List.take_add_one, hpre, hx, hy, hxy]⟩
end
section
theorem shaped_rc {γ : Nat → Option Nat} {H : AH} {k : List Int} (hk : k.length = 32) (hb : By k) : AC Tryd.prog H.length γ 39 #[.agg (iv .u8 k).toArray] H (fun v' _ => v' = .bool (decide (nmL (plN k) = k))) := by
 have b4 := hb.get 4
 have b5 := hb.get 5
 have b6 := hb.get 6
 have b7 := hb.get 7
 have htk : (iv .u8 k).take 32 = iv .u8 k := List.take_of_length_le (by simp [hk])
 have g4 : (iv .u8 k)[4]? = some (.int .u8 (k.getD 4 0)) := iv_getN _ _ _ (by omega)
 have g5 : (iv .u8 k)[5]? = some (.int .u8 (k.getD 5 0)) := iv_getN _ _ _ (by omega)
 have g6 : (iv .u8 k)[6]? = some (.int .u8 (k.getD 6 0)) := iv_getN _ _ _ (by omega)
 have g7 : (iv .u8 k)[7]? = some (.int .u8 (k.getD 7 0)) := iv_getN _ _ _ (by omega)
 have hpl : plN k = k.getD 4 0 * 16777216 + k.getD 5 0 * 65536 + k.getD 6 0 * 256 + k.getD 7 0 := rfl
 have hc := fun (G : AH) => rname_rc (γ := γ) (H := G) (n := plN k) (by omega)
 have hkN : (k == nmL (plN k)) = decide (nmL (plN k) = k) := by rw [Bool.eq_iff_iff, beq_iff_eq, decide_eq_true_iff]; exact eq_comm
 have lN : (nmL (plN k)).length = 32 := rfl
 generalize nmL (plN k) = N at *
 generalize plN k = p at *
 generalize k.getD 4 0 = x4 at *
 generalize k.getD 5 0 = x5 at *
 generalize k.getD 6 0 = x6 at *
 generalize k.getD 7 0 = x7 at *
 have w4 : IntKind.i64.wrap x4 = x4 := w64 (by omega)
 have w5 : IntKind.i64.wrap x5 = x5 := w64 (by omega)
 have w6 : IntKind.i64.wrap x6 = x6 := w64 (by omega)
 have w7 : IntKind.i64.wrap x7 = x7 := w64 (by omega)
 have v4 : IntKind.i64.wrap (x4 * 16777216) = x4 * 16777216 := w64 (by omega)
 have v5 : IntKind.i64.wrap (x5 * 65536) = x5 * 65536 := w64 (by omega)
 have v6 : IntKind.i64.wrap (x6 * 256) = x6 * 256 := w64 (by omega)
 have o1 : IntKind.i64.wrap (x4 * 16777216 + x5 * 65536) = x4 * 16777216 + x5 * 65536 := w64 (by omega)
 have o2 : IntKind.i64.wrap (x4 * 16777216 + x5 * 65536 + x6 * 256) = x4 * 16777216 + x5 * 65536 + x6 * 256 := w64 (by omega)
 have o3 : IntKind.i64.wrap (x4 * 16777216 + x5 * 65536 + x6 * 256 + x7) = p := by rw [← hpl]; exact w64 (by omega)
 have htN : (iv .u8 N).take 32 = iv .u8 N := List.take_of_length_le (by simp [lN])
 generalize decide (N = k) = ok at *
 refine ac_of_aw Tryd.func39 rfl Tryd.ntmps39 Tryd.results39 (by simp) ?_
 (refine aw_seq (aoo fun K hK => ?_); simp (disch := first | omega | (simp only [lnS]; try omega)) [-getElem?_pos, -getElem?_neg, htk]; refine hK _ _ ?_; clear hK K)
 refine aw_seq ?_
 (refine aw_plan [] [] [0, 1, 2, 3, 4, 5, 6, 7, 8, 9, 10, 11, 12, 13, 14, 15, 16, 17, 18, 19, 20, 21] 22 0 (by kernel_rfl) (by kernel_rfl) (by kernel_rfl) (fun K hK => ?_)); simp only [sel, List.getElem?_cons_succ, List.getElem?_cons_zero, List.drop_succ_cons, List.drop_zero]; simp (disch := first | omega | (simp only [lnS]; try omega)) [-getElem?_pos, -getElem?_neg, htk, g4, g5, g6, g7, w4, w5, w6, w7, v4, v5, v6, o1, o2, o3, PL_nil, plainB_lit, PL_cons, PLc_val, PLc_new, stepP_t, stepP_f, stepPC_n, stepPC_s, stepPX_s, stepPX_n, stepPV_n, stepPV_s, stepPA_t, stepPA_c, stepPA_l, stepPN_s, allocOp, reloc_sl, reloc_ptr, List.map_cons, List.map_nil, List.nil_append, List.append_assoc, List.cons_append, Nat.add_assoc]
 refine PLc_call (by kernel_rfl) (fun L hL => hc _) (by simp [pv_iv, pv_int, pv_bool, pv_string, pv_tup2, pv_tup3, iv_plain, p2_int, p2_bool, p2_string]) ?_
 try simp (disch := first | omega | (simp only [lnS]; try omega)) [-getElem?_pos, -getElem?_neg, htk, htN, lN, hkN, PL_nil, plainB_lit, PL_cons, PLc_val, PLc_new, stepP_t, stepP_f, stepPC_n, stepPC_s, stepPX_s, stepPX_n, stepPV_n, stepPV_s, stepPA_t, stepPA_c, stepPA_l, stepPN_s, allocOp, reloc_sl, reloc_ptr, List.map_cons, List.map_nil, List.nil_append, List.append_assoc, List.cons_append, Nat.add_assoc]
 refine hK _ _ ?_; clear hK K
 (refine aw_ret ?_; simp (disch := first | omega | (simp only [lnS]; try omega)) [-getElem?_pos, -getElem?_neg, thenQ_ret, scopeQ_ret, inBlockQ_ret, RQ, resL, resV, hkN])
end
end
section
def ul (k : List Int) : List (List Int × Value) → Value
 | [] => .slice none 0 0
 | p :: U => if k = p.1 then p.2 else ul k U
structure SrC where
 sb : Nat
 kb : Nat
 mb : Nat
 ub : Nat
 b : Nat
 tv : Value
 S : List Nat
 Ft : List Nat
 Fk : List Nat
 L : List (Value × TermD)
 U : List (List Int × Value)
section
variable {γ : Nat → Option Nat} {nro : Nat} {H : AH} {c : SrC} {F : List Nat} {s t : FSt}
end
end
section
attribute [local simp] wb_bool wb_undef with_lit XL_nil XL_cons XLc_val XLc_call step1_eq stepW_t stepW_f stepC_n stepC_s stepX_s stepX_n stepN_s calleeX xrecv oneV xop_eq xopR_s xopR_n wantedA_eq wantedG_n wantedG_s plain1_int plain1_bool plain1_string bits_i64 bits_u64 bits_u32 bits_u16 bits_u8 xeqA xagg xcmp xarr allK_iv num_iv calleeOf xread xeff xbin xint xnil xun xstr xload xconv xpart xfield xfieldAddr xindexAddr xindex bnd asInt? xslice xlen xmin xmax xbuild xfill xappend xapp2 xappstr xappmk xcap xcopy xcells eval_tmp eval_const put_at put_none fr0_at cells_agg cells_int cells_bool cells_string cells_ptr cells_slice notTuple tab iv_all hget_app hget_app0 hget_cons0 hget_cons set_app set_app0 setR setR_one QL_nil QL_cons QLc_val stepQ_t stepQ_f stepQC_n stepQC_s stepQX_s SL_nil SL_cons SLc_val stepS_t stepS_f ltT ltF leT leF eqT eqF ltTn ltFn leTn leFn eqTn eqFn beqT beqF bneT bneF wi64 wu64 wu32 wu16 wu8 tmodP tdivP hgetL hgetNe hgetEq setL nums_def nums_len Nat.succ_le_of_lt List.getElem?_cons_zero List.getElem?_cons_succ Option.getD_some Int.toNat_add Int.toNat_mul agM okM agB agI agS agP agL agA okB okI okS okP okSl okA nt_strG nt_boolG nt_aggG nt_intG nt_ptrG nt_slG XO_s XO_z XLk_val XLk_call headsO behind List.length_cons List.length_nil List.mem_cons List.not_mem_nil or_false forall_eq_or_imp forall_eq List.contains_cons List.contains_nil XOm
section
theorem kr_dropV {S : List (List Int)} (h : K32 S) {k : Nat} (hk : k ≤ S.length) : (kr S).drop (k * 32) = kr (S.drop k) := by
 have e : kr S = kr (S.take k) ++ kr (S.drop k) := by rw [← kr_app, List.take_append_drop]
 have hl : (kr (S.take k)).length = k * 32 := by rw [kr_len (fun y hy => h y (List.mem_of_mem_take hy)), List.length_take, Nat.min_eq_left hk]
 rw [e, ← hl, List.drop_left]
theorem suf_keys {H : AH} {kv : Value} {ks : List (List Int)} {Fx : List Nat} (h : OwnF H kv 41 32 (kr ks) Fx) (hk : K32 ks) (h2 : 2 ≤ ks.length) :
  ∃ sv, (∀ G : AH, xslice Tryd.prog 34 kv (some (.int .i64 2)) none G = some sv) ∧ notTuple sv = true ∧ sv.cells = #[sv] ∧ xlen Tryd.prog 34 sv = some (.int .i64 ((ks.length - 2 : Nat) : Int)) ∧ PartK H H.length sv (ks.drop 2) ∧
   ∀ i, i < ks.length - 2 → ∃ q, xindexAddr Tryd.prog 34 sv (.int .i64 (i : Nat)) = some q ∧ notTuple q = true ∧ ∀ G : AH, (∀ j ∈ Fx, hget G j = hget H j) → xload Tryd.prog 41 q G = some (.agg (iv .u8 ((ks.drop 2).getD i [])).toArray) := by
 have hu : und Tryd.prog 34 = .slice 41 := by kernel_rfl
 have hs : szt Tryd.prog 41 = 32 := by kernel_rfl
 have hkl := kr_len hk
 rcases h with ⟨_, h3, _⟩ | ⟨j, len, rfl, h3, h4, rfl⟩
 ·rw [h3] at hkl
  simp at hkl
  omega
 ·have hln : len = ks.length := by omega
  subst hln
  have hj := hget_lt h3
  by_cases e : ks.length = 2
  ·refine ⟨.slice (some ⟨j, 0, some 0⟩) 0 0, fun G => ?_, rfl, rfl, ?_, ⟨⟨some ⟨j, 0, some 0⟩, 0, ?_⟩, fun G hG => ?_⟩, fun i hi => by omega⟩
   ·unfold xslice
    simp only [hu, bnd, hs]
    rw [show asInt? (Value.int .i64 2) = some 2 from rfl]
    dsimp only
    rw [if_pos ⟨by omega, by omega, by omega, by omega⟩, if_pos ⟨by omega, by omega⟩]
   ·unfold xlen
    simp only [hu]
    rw [e]
   ·rw [List.length_drop, e]
   ·have : ks.drop 2 = [] := List.eq_nil_of_length_eq_zero (by rw [List.length_drop]; omega)
    rw [this]; rfl
  ·refine ⟨.slice (some ⟨j, 64, none⟩) (ks.length - 2) (ks.length - 2), fun G => ?_, rfl, rfl, ?_, ⟨⟨some ⟨j, 64, none⟩, _, by rw [List.length_drop]⟩, fun G hG => ?_⟩, fun i hi => ⟨.pointer (some ⟨j, 64 + i * 32, none⟩), ?_, rfl, fun G hG => ?_⟩⟩
   ·unfold xslice
    simp only [hu, bnd, hs]
    rw [show asInt? (Value.int .i64 2) = some 2 from rfl]
    dsimp only
    rw [if_pos ⟨by omega, by omega, by omega, by omega⟩, if_neg (by omega), if_pos trivial]
    simp
   ·unfold xlen
    simp only [hu]
   ·have hg := (hG j hj).trans h3
    unfold xcells
    simp only [hg]
    rw [if_pos (by rw [hkl]; omega), show (64 : Nat) = 2 * 32 by rfl, kr_dropV hk h2]
    rw [List.take_of_length_le]
    rw [kr_len (fun k hm => hk k (List.mem_of_mem_drop hm)), List.length_drop]
    exact Nat.le_refl _
   ·unfold xindexAddr
    simp only [hu, hs]
    rw [if_pos ⟨by omega, by omega, by omega⟩]
    simp
   ·have hg := (hG j (by simp)).trans h3
    have hgk : ks[2 + i]? = some ((ks.drop 2).getD i []) := by
     rw [List.getD_eq_getElem?_getD, List.getElem?_drop, List.getElem?_eq_getElem (by omega)]
     rfl
    have := kr_load hk hgk hg
    rwa [show (2 + i) * 32 = 64 + i * 32 by omega] at this
end
section
def openT (T : List TermD) (k y : List Int) (box : ByteArray) : Option (ByteArray × List (List Int)) :=
 if box.size = 32 then (match findT T (nums box) with
  | some x => if x.kind = 6 ∧ k0 x = k ∧ k1 x = y then some (x.text, x.keys.drop 2) else none
  | none => none) else none
def OpenQ (H : AH) (T : List TermD) (k y : List Int) (box : ByteArray) (v' : Value) (H' : AH) : Prop :=
 Low H.length H H' ∧ match openT T k y box with
  | none => v' = .tuple #[.string ⟨#[]⟩, .slice none 0 0, .bool false]
  | some (s, ks) => ∃ kv, v' = .tuple #[.string s, kv, .bool true] ∧ OwnK H.length H' kv ks
theorem OwnK.less {lo lo' : Nat} {H : AH} {v : Value} {ks : List (List Int)} (h : OwnK lo H v ks) (hl : lo' ≤ lo) : OwnK lo' H v ks := by
 rcases h with h | ⟨j, cs, h1, h2⟩
 ·exact .inl h
 ·exact .inr ⟨j, cs, by omega, h2⟩
theorem PartK.keep {H H' : AH} {lo lo' : Nat} {x : Value} {ks : List (List Int)} (h : PartK H lo x ks) (hl : lo ≤ lo') (hg : ∀ j, j < lo → hget H' j = hget H j) : PartK H' lo' x ks :=
 ⟨h.1, fun G hG => h.2 G (fun j hj => (hG j (by omega)).trans (hg j hj))⟩
def opJD : List Nat := [48, 49, 50, 51, 52, 53, 8, 9, 10]
def opJP : List (List Nat) := [[], [0], [], [2], [3], [4], [1], [5], []]
def opJV (gl lo : Nat) (st : ByteArray) (kv sv : Value) (ds : List (List Int)) (G : AH) (i : Nat) (v : Value) : Prop := match i with
 | 0 => v = .pointer (some ⟨gl, 1, none⟩)
 | 1 => v = .string st
 | 2 => v = .pointer (some ⟨gl, 2, none⟩)
 | 3 => v = kv
 | 4 => v = sv
 | 5 => OwnK lo G v ds
 | 6 => v = .string st
 | 7 => OwnK lo G v ds
 | 8 => v = .bool true
 | _ => True
theorem cloneP_ac {nro : Nat} {γ : Nat → Option Nat} {H : AH} {v : Value} {ks : List (List Int)} (hv : PartK H H.length v ks) (hk : K32 ks) (hc : ks.length ≤ 1000000) (hnro : nro ≤ H.length) :
  AC Tryd.prog nro γ 32 #[v] H (fun v' H' => OwnK H.length H' v' ks ∧ Low H.length H H') := by
 obtain ⟨⟨a, c, rfl⟩, hx⟩ := hv
 cases a with
 | none =>
  have h0 : ks = [] := by
   have := hx H (fun _ _ => rfl)
   cases hks : ks.length with
   | zero => exact List.eq_nil_of_length_eq_zero hks
   | succ n =>
    rw [hks] at this
    simp [xcells] at this
  subst h0
  refine ac_of_aw Tryd.func32 rfl Tryd.ntmps32 Tryd.results32 (by simp) ?_
  (refine aw_seq (aoo fun K hK => ?_); simp (disch := first | omega | (simp only [lnS]; try omega)) []; refine hK _ _ ?_; clear hK K)
  refine aw_seq (aw_seq ?_)
  (refine aoo fun K hK => ?_; simp (disch := first | omega | (simp only [lnS]; try omega)) []; refine hK _ _ ?_; clear hK K)
  refine aw_t (by (first | (simp; done) | (simp; omega))) (by kernel_rfl) ?_
  (refine aw_seq (aoo fun K hK => ?_); simp (disch := first | omega | (simp only [lnS]; try omega)) []; refine hK _ _ ?_; clear hK K)
  (refine aw_ret ?_; simp (disch := first | omega | (simp only [lnS]; try omega)) [thenQ_ret, scopeQ_ret, inBlockQ_ret, RQ, resL, resV])
  exact ⟨.inl ⟨rfl, rfl⟩, Low.refl (Nat.le_refl _)⟩
 | some a =>
  have ho0 : OwnK H.length (H ++ [some ⟨[], 41, some 32⟩]) (.slice (some ⟨H.length, 0, none⟩) 0 0) [] := .inr ⟨H.length, [], Nat.le_refl _, rfl, by rw [hget_app0]; rfl, List.prefix_rfl⟩
  obtain ⟨v7, G3, hap, ho3, hl3, hk3⟩ := ownK_append (nro := nro) (x := .slice (some a) ks.length c) (fun k hk => (by cases hk)) hk ho0 hnro (by simp) (fun s e => by cases e) (hx _ (fun j hj => hget_left hj)) (by simp; omega)
  have hnt7 := ho3.nt
  refine ac_of_aw Tryd.func32 rfl Tryd.ntmps32 Tryd.results32 (by simp) ?_
  (refine aw_seq (aoo fun K hK => ?_); simp (disch := first | omega | (simp only [lnS]; try omega)) []; refine hK _ _ ?_; clear hK K)
  refine aw_seq (aw_seq ?_)
  (refine aoo fun K hK => ?_; simp (disch := first | omega | (simp only [lnS]; try omega)) []; refine hK _ _ ?_; clear hK K)
  refine aw_f (by (first | (simp; done) | (simp; omega))) (by kernel_rfl) ?_
  refine aw_skip (aw_seq ?_)
  (refine aoo fun K hK => ?_; simp (disch := first | omega | (simp only [lnS]; try omega)) [-xappend, hap, hnt7.1, hnt7.2, -notTuple]; refine hK _ _ ?_; clear hK K)
  (refine aw_ret ?_; simp (disch := first | omega | (simp only [lnS]; try omega)) [thenQ_ret, scopeQ_ret, inBlockQ_ret, RQ, resL, resV, hnt7.1, hnt7.2])
  simp only [List.length_append, List.length_cons, List.length_nil] at hl3
  rw [List.nil_append] at ho3
  exact ⟨ho3, fun j hj => (hk3 j hj).trans (hget_left hj), by omega⟩
theorem open_ac {nro : Nat} {γ : Nat → Option Nat} {H : AH} {b : Nat} {F : List Nat} {T : List TermD} (h : Tbl H b F T) (hnH : nro ≤ H.length) {k y : List Int} (hk : k.length = 32) (hy : y.length = 32) {s : ByteArray} (hs1 : s.size ≤ 10000000) :
  AC Tryd.prog nro γ 55 #[.pointer (some ⟨b, 0, none⟩), .agg (iv .u8 k).toArray, .agg (iv .u8 y).toArray, .string s] H (OpenQ H T k y s) := by
 obtain ⟨mb, tv, Ft, Fk, L, rfl, hL, rfl, hFl⟩ := h
 have htk : (iv .u8 k).take 32 = iv .u8 k := List.take_of_length_le (by simp [hk])
 have hty : (iv .u8 y).take 32 = iv .u8 y := List.take_of_length_le (by simp [hy])
 have hs9 : s.size ≤ 9223372036854775807 := by omega
 by_cases h32 : s.size = 32
 case neg =>
  have hb32 : ((s.size : Int) == 32) = false := by rw [beq_eq_false_iff_ne]; omega
  have hi32 : ¬ (s.size : Int) = 32 := by omega
  have hop : openT (L.map (·.2)) k y s = none := by unfold openT; rw [if_neg h32]
  refine ac_of_aw Tryd.func55 rfl Tryd.ntmps55 Tryd.results55 (by simp) ?_
  (refine aw_seq (aoo fun K hK => ?_); simp (disch := first | omega | (simp only [lnS]; try omega)) [htk, hty]; refine hK _ _ ?_; clear hK K)
  refine aw_seq (aw_seq ?_)
  (refine aoo fun K hK => ?_; simp (disch := first | omega | (simp only [lnS]; try omega)) [hs9, hi32, hb32]; refine hK _ _ ?_; clear hK K)
  refine aw_t (by (first | (simp; done) | (simp; omega))) (by kernel_rfl) ?_
  (refine aw_seq (aoo fun K hK => ?_); simp (disch := first | omega | (simp only [lnS]; try omega)) []; refine hK _ _ ?_; clear hK K)
  (refine aw_ret ?_; simp (disch := first | omega | (simp only [lnS]; try omega)) [thenQ_ret, scopeQ_ret, inBlockQ_ret, RQ, resL, resV])
  exact ⟨Low.push (Nat.le_refl _) _, by rw [hop]⟩
 have hb32 : ((s.size : Int) == 32) = true := by rw [h32]; rfl
 have hi32 : (s.size : Int) = 32 := by rw [h32]; rfl
 have ln : (nums s).length = 32 := by rw [nums_len, h32]
 have htn : (iv .u8 (nums s)).take 32 = iv .u8 (nums s) := List.take_of_length_le (by simp [ln])
 have hf := fun (N : AH) => find_ac (nro := nro) (γ := γ) (hL.low (G := H ++ N) (fun j hj => hget_left (hFl j hj))) ln (nums_bd s)
 have hcase := findV_T L (nums s)
 have p1 : plain1 (.slice none 0 0) = true := rfl
 have r3 : List.range 3 = [0, 1, 2] := rfl
 generalize findV L (nums s) = fv at *
 rcases hcase with ⟨⟨kv, x⟩, hp, rfl, hft⟩ | ⟨rfl, hft⟩
 ·have hkn := hL.key_nt hp
  have hw : x.Wf := hL.wf _ hp
  obtain ⟨Fx, hox, hFx⟩ := hL.keys _ hp
  have hxl : ∀ j ∈ Fx, j < H.length := fun j hj => hFl j (by simp [hFx j hj])
  have h6k := hw.seal_
  have hmk := hw.many
  have hop : openT (L.map (·.2)) k y s = if x.kind = 6 ∧ k0 x = k ∧ k1 x = y then some (x.text, x.keys.drop 2) else none := by unfold openT; rw [if_pos h32, hft]
  unfold k0 k1 at hop
  unfold tmRow at *
  refine ac_of_aw Tryd.func55 rfl Tryd.ntmps55 Tryd.results55 (by simp) ?_
  (refine aw_seq (aoo fun K hK => ?_); simp (disch := first | omega | (simp only [lnS]; try omega)) [htk, hty]; refine hK _ _ ?_; clear hK K)
  refine aw_seq (aw_seq ?_)
  (refine aoo fun K hK => ?_; simp (disch := first | omega | (simp only [lnS]; try omega)) [hs9, hi32, hb32]; refine hK _ _ ?_; clear hK K)
  refine aw_f (by (first | (simp; done) | (simp; omega))) (by kernel_rfl) ?_
  refine aw_skip (aw_seq ?_)
  refine aoo fun K hK => ?_
  simp (disch := first | omega | (simp only [lnS]; try omega)) [h32, ln, htn]
  refine ⟨by kernel_rfl, AC.mono (hf _) ?_⟩
  rintro _ G ⟨rfl, lw⟩
  have hGl := lw.2
  rw [List.length_append] at lw hGl
  simp only [List.length_cons, List.length_nil] at lw hGl
  have gk : hget G H.length = some ⟨iv .u8 k, 41, none⟩ := (lw.1 _ (by omega)).trans (by rw [hget_app0]; rfl)
  have gy : hget G (H.length + 1) = some ⟨iv .u8 y, 41, none⟩ := (lw.1 _ (by omega)).trans (by rw [hget_app]; rfl)
  have lwH : Low H.length H G := ⟨fun j hj => (lw.1 j (by omega)).trans (hget_left hj), by omega⟩
  have hng : nro ≤ G.length := by omega
  try simp (disch := first | omega | (simp only [lnS]; try omega)) [p1, r3, hng, -notTuple, hkn.1, hkn.2]
  refine hK _ _ ?_; clear hK K
  obtain ⟨A, hA⟩ : ∃ A : AH, A = G ++ [some ⟨[.int .i64 (x.kind : Nat), .string x.text, kv], 92, none⟩] := ⟨_, rfl⟩
  have aG : hget A G.length = some ⟨[.int .i64 (x.kind : Nat), .string x.text, kv], 92, none⟩ := by rw [hA, hget_app0]; rfl
  have ak : hget A H.length = some ⟨iv .u8 k, 41, none⟩ := by rw [hA, hget_left (hget_lt gk)]; exact gk
  have ay : hget A (H.length + 1) = some ⟨iv .u8 y, 41, none⟩ := by rw [hA, hget_left (hget_lt gy)]; exact gy
  have aj : ∀ j, j < H.length → hget A j = hget H j := fun j hj => by rw [hA, hget_left (by omega)]; exact lwH.1 j hj
  have al : A.length = G.length + 1 := by rw [hA]; simp
  have lwA : Low H.length H A := ⟨aj, by omega⟩
  rw [← hA]
  clear hA
  have lA := hget_lt aG
  have la := hget_lt ak
  have lb := hget_lt ay
  have ldt : xload Tryd.prog 3 (.pointer (some ⟨G.length, 0, none⟩)) A = some (.int .i64 (x.kind : Nat)) := by simp [xload, aG]
  have lds : xload Tryd.prog 9 (.pointer (some ⟨G.length, 1, none⟩)) A = some (.string x.text) := by simp [xload, aG]
  have ldk : xload Tryd.prog 34 (.pointer (some ⟨G.length, 2, none⟩)) A = some kv := by simp [xload, aG]
  have ld1 : xload Tryd.prog 41 (.pointer (some ⟨H.length, 0, none⟩)) A = some (.agg (iv .u8 k).toArray) := by simp [xload, ak, hk, htk]
  have ld2 : xload Tryd.prog 41 (.pointer (some ⟨H.length + 1, 0, none⟩)) A = some (.agg (iv .u8 y).toArray) := by simp [xload, ay, hy, hty]
  refine aw_seq (aw_seq ?_)
  by_cases h6 : x.kind = 6
  case neg =>
   have b6 : ((x.kind : Int) == 6) = false := by rw [beq_eq_false_iff_ne]; omega
   have i6 : ¬ (x.kind : Int) = 6 := by omega
   rw [if_neg (fun e => h6 e.1)] at hop
   (refine aw_plan [] [] [0, 1, 2, 3, 4, 5, 6, 7, 8, 9, 10, 11, 12, 13, 14, 15, 16, 17, 18, 19, 20, 21, 22] 23 0 (by kernel_rfl) (by kernel_rfl) (by kernel_rfl) (fun K hK => ?_)); simp only [sel, List.getElem?_cons_succ, List.getElem?_cons_zero, List.drop_succ_cons, List.drop_zero]; simp (disch := first | omega | (simp only [lnS]; try omega)) [-xload, ldt, b6, i6, -notTuple, PL_nil, plainB_lit, PL_cons, PLc_val, PLc_new, stepP_t, stepP_f, stepPC_n, stepPC_s, stepPX_s, stepPX_n, stepPV_n, stepPV_s, stepPA_t, stepPA_c, stepPA_l, stepPN_s, allocOp, reloc_sl, reloc_ptr, List.map_cons, List.map_nil, List.nil_append, List.append_assoc, List.cons_append, Nat.add_assoc]
   refine hK _ _ ?_; clear hK K
   refine aw_t (by (first | (simp; done) | (simp; omega))) (by kernel_rfl) ?_
   (refine aw_seq (aoo fun K hK => ?_); simp (disch := first | omega | (simp only [lnS]; try omega)) []; refine hK _ _ ?_; clear hK K)
   (refine aw_ret ?_; simp (disch := first | omega | (simp only [lnS]; try omega)) [thenQ_ret, scopeQ_ret, inBlockQ_ret, RQ, resL, resV])
   exact ⟨lwA, by rw [hop]⟩
  have h2 := h6k h6
  have b6 : ((x.kind : Int) == 6) = true := by rw [h6]; rfl
  have i6 : (x.kind : Int) = 6 := by omega
  have hoA := hox.low (H' := A) (fun j hj => aj j (hxl j hj))
  have hKA : KsV A kv x.keys := kr_ksv hoA hw.k32
  have hacc := hKA.acc hw.k32
  obtain ⟨q0, y0, t1, t2, t3, t4, t5⟩ := hacc.at_ 0 (by omega)
  obtain ⟨q1, y1, u1, u2, u3, u4, u5⟩ := hacc.at_ 1 (by omega)
  have t2 : xindexAddr Tryd.prog 34 kv (.int .i64 0) = some q0 := t2
  have u2 : xindexAddr Tryd.prog 34 kv (.int .i64 1) = some q1 := u2
  have t5 := t5 A (Low.refl (Nat.le_refl _))
  have u5 := u5 A (Low.refl (Nat.le_refl _))
  subst t4 u4
  have z0 : (x.keys.getD 0 []).length = 32 := by
   rw [List.getD_eq_getElem?_getD, List.getElem?_eq_getElem (by omega)]
   exact hw.k32 _ (List.getElem_mem _)
  have z1 : (x.keys.getD 1 []).length = 32 := by
   rw [List.getD_eq_getElem?_getD, List.getElem?_eq_getElem (by omega)]
   exact hw.k32 _ (List.getElem_mem _)
  obtain ⟨sv, v1, v2, v3, v4, v5, _⟩ := suf_keys hoA hw.k32 h2
  have hdk : K32 (x.keys.drop 2) := fun z hz => hw.k32 z (List.mem_of_mem_drop hz)
  have hdm : (x.keys.drop 2).length ≤ 1000000 := by rw [List.length_drop]; omega
  have hsl := v1 A
  generalize x.keys.getD 0 [] = c0 at *
  generalize x.keys.getD 1 [] = c1 at *
  generalize x.keys.drop 2 = ds at *
  generalize x.kind = kd at *
  subst h6
  by_cases e0 : c0 = k
  case neg =>
   have c0b : (c0 == k) = false := by simpa using e0
   rw [if_neg (fun e => e0 e.2.1)] at hop
   (refine aw_plan [] [] [0, 1, 2, 3, 4, 5, 6, 7, 8, 9, 10, 11, 12, 13, 14, 15, 16, 17, 18, 19, 20, 21, 22] 23 0 (by kernel_rfl) (by kernel_rfl) (by kernel_rfl) (fun K hK => ?_)); simp only [sel, List.getElem?_cons_succ, List.getElem?_cons_zero, List.drop_succ_cons, List.drop_zero]; simp (disch := first | omega | (simp only [lnS]; try omega)) [-xload, ldt, ldk, ld1, t5, -xindexAddr, t1, t2, b6, i6, z0, hk, e0, c0b, -notTuple, hkn.1, PL_nil, plainB_lit, PL_cons, PLc_val, PLc_new, stepP_t, stepP_f, stepPC_n, stepPC_s, stepPX_s, stepPX_n, stepPV_n, stepPV_s, stepPA_t, stepPA_c, stepPA_l, stepPN_s, allocOp, reloc_sl, reloc_ptr, List.map_cons, List.map_nil, List.nil_append, List.append_assoc, List.cons_append, Nat.add_assoc]
   refine hK _ _ ?_; clear hK K
   refine aw_t (by (first | (simp; done) | (simp; omega))) (by kernel_rfl) ?_
   (refine aw_seq (aoo fun K hK => ?_); simp (disch := first | omega | (simp only [lnS]; try omega)) []; refine hK _ _ ?_; clear hK K)
   (refine aw_ret ?_; simp (disch := first | omega | (simp only [lnS]; try omega)) [thenQ_ret, scopeQ_ret, inBlockQ_ret, RQ, resL, resV])
   exact ⟨lwA, by rw [hop]⟩
  subst e0
  by_cases e1 : c1 = y
  case neg =>
   have c1b : (c1 == y) = false := by simpa using e1
   rw [if_neg (fun e => e1 e.2.2)] at hop
   (refine aw_plan [] [] [0, 1, 2, 3, 4, 5, 6, 7, 8, 9, 10, 11, 12, 13, 14, 15, 16, 17, 18, 19, 20, 21, 22] 23 0 (by kernel_rfl) (by kernel_rfl) (by kernel_rfl) (fun K hK => ?_)); simp only [sel, List.getElem?_cons_succ, List.getElem?_cons_zero, List.drop_succ_cons, List.drop_zero]; simp (disch := first | omega | (simp only [lnS]; try omega)) [-xload, ldt, ldk, ld1, ld2, t5, u5, -xindexAddr, t1, t2, u1, u2, b6, i6, z0, z1, hk, hy, e1, c1b, -notTuple, hkn.1, PL_nil, plainB_lit, PL_cons, PLc_val, PLc_new, stepP_t, stepP_f, stepPC_n, stepPC_s, stepPX_s, stepPX_n, stepPV_n, stepPV_s, stepPA_t, stepPA_c, stepPA_l, stepPN_s, allocOp, reloc_sl, reloc_ptr, List.map_cons, List.map_nil, List.nil_append, List.append_assoc, List.cons_append, Nat.add_assoc]
   refine hK _ _ ?_; clear hK K
   refine aw_t (by (first | (simp; done) | (simp; omega))) (by kernel_rfl) ?_
   (refine aw_seq (aoo fun K hK => ?_); simp (disch := first | omega | (simp only [lnS]; try omega)) []; refine hK _ _ ?_; clear hK K)
   (refine aw_ret ?_; simp (disch := first | omega | (simp only [lnS]; try omega)) [thenQ_ret, scopeQ_ret, inBlockQ_ret, RQ, resL, resV])
   exact ⟨lwA, by rw [hop]⟩
  subst e1
  rw [if_pos ⟨rfl, rfl, rfl⟩] at hop
  (refine aw_plan [] [] [0, 1, 2, 3, 4, 5, 6, 7, 8, 9, 10, 11, 12, 13, 14, 15, 16, 17, 18, 19, 20, 21, 22] 23 0 (by kernel_rfl) (by kernel_rfl) (by kernel_rfl) (fun K hK => ?_)); simp only [sel, List.getElem?_cons_succ, List.getElem?_cons_zero, List.drop_succ_cons, List.drop_zero]; simp (disch := first | omega | (simp only [lnS]; try omega)) [-xload, ldt, ldk, ld1, ld2, t5, u5, -xindexAddr, t1, t2, u1, u2, b6, i6, z0, z1, hk, hy, -notTuple, hkn.1, PL_nil, plainB_lit, PL_cons, PLc_val, PLc_new, stepP_t, stepP_f, stepPC_n, stepPC_s, stepPX_s, stepPX_n, stepPV_n, stepPV_s, stepPA_t, stepPA_c, stepPA_l, stepPN_s, allocOp, reloc_sl, reloc_ptr, List.map_cons, List.map_nil, List.nil_append, List.append_assoc, List.cons_append, Nat.add_assoc]
  refine hK _ _ ?_; clear hK K
  refine aw_f (by (first | (simp; done) | (simp; omega))) (by kernel_rfl) ?_
  refine aw_skip (aw_seq ?_)
  obtain ⟨gl, hgl⟩ : ∃ gl, gl = G.length := ⟨_, rfl⟩
  rw [← hgl] at aG lA
  refine name_aw (fun β hβ => ?_)
  have e11 : β 11 = .pointer (some ⟨gl, 0, none⟩) := by rw [hβ, hgl]; (first | (simp; done) | rfl)
  clear hβ
  have hND : opJD.Nodup := by decide
  have hST : ∀ (G1 G2 : AH) (i : Nat) (v : Value), G1.length ≤ G2.length → (∀ j, j < G1.length → hget G2 j = hget G1 j) → opJV gl A.length x.text kv sv ds G1 i v → opJV gl A.length x.text kv sv ds G2 i v := fun G1 G2 i v h1 h2 h => by
   unfold opJV at h ⊢
   split at h <;> first | exact h | exact h.low (fun j _ hj => h2 j hj)
  generalize x.text = st at *
  refine aw_inv opJP (IJ opJD (opJV gl A.length st kv sv ds) β A) (by kernel_rfl) (by kernel_rfl) (by kernel_rfl) (IJ.start rfl) ?_ ?_
  ·intro i s α G k hJ hi0 hsi hd hc hcont
   have j11 := (hJ.lo 11 (by decide)).trans e11
   have gA := (hJ.lw.2 gl lA).trans aG
   have lgA := hget_lt gA
   have hi : i = 0 ∨ i = 1 ∨ i = 2 ∨ i = 3 ∨ i = 4 ∨ i = 5 ∨ i = 6 ∨ i = 7 ∨ i = 8 := by have hi0 : i < 9 := hi0; omega
   rcases hi with rfl | rfl | rfl | rfl | rfl | rfl | rfl | rfl | rfl
   ·simp (disch := first | omega | (simp only [lnS]; try omega)) [-notTuple, hkn.1, j11]
    exact hcont _ _ (hJ.put hND hST rfl (Nat.le_refl _) (fun _ _ => rfl) rfl)
   ·have f0 : α 48 = .pointer (some ⟨gl, 1, none⟩) := hJ.val 0 48 rfl (hd 0 (by decide))
    simp (disch := first | omega | (simp only [lnS]; try omega)) [-notTuple, hkn.1, gA, lgA, f0]
    exact hcont _ _ (hJ.put hND hST rfl (Nat.le_refl _) (fun _ _ => rfl) rfl)
   ·simp (disch := first | omega | (simp only [lnS]; try omega)) [-notTuple, hkn.1, j11]
    exact hcont _ _ (hJ.put hND hST rfl (Nat.le_refl _) (fun _ _ => rfl) rfl)
   ·have f2 : α 50 = .pointer (some ⟨gl, 2, none⟩) := hJ.val 2 50 rfl (hd 2 (by decide))
    simp (disch := first | omega | (simp only [lnS]; try omega)) [-notTuple, hkn.1, gA, lgA, f2]
    exact hcont _ _ (hJ.put hND hST rfl (Nat.le_refl _) (fun _ _ => rfl) rfl)
   ·have f3 : α 51 = kv := hJ.val 3 51 rfl (hd 3 (by decide))
    simp (disch := first | omega | (simp only [lnS]; try omega)) [-notTuple, hkn.1, -xslice, v1 G, v2, f3]
    exact hcont _ _ (hJ.put hND hST rfl (Nat.le_refl _) (fun _ _ => rfl) rfl)
   ·have f4 : α 52 = sv := hJ.val 4 52 rfl (hd 4 (by decide))
    simp (disch := first | omega | (simp only [lnS]; try omega)) [f4]
    refine ⟨by kernel_rfl, (cloneP_ac (nro := nro) (γ := γ) (v5.keep hJ.lw.1 hJ.lw.2) hdk hdm (by have := hJ.lw.1; omega)).mono ?_⟩
    rintro v' G' ⟨ho, lw⟩
    exact hcont _ _ (hJ.put hND hST rfl lw.2 lw.1 (ho.less hJ.lw.1))
   ·have f1 : α 49 = .string st := hJ.val 1 49 rfl (hd 1 (by decide))
    simp (disch := first | omega | (simp only [lnS]; try omega)) [-notTuple, hkn.1, f1]
    exact hcont _ _ (hJ.put hND hST rfl (Nat.le_refl _) (fun _ _ => rfl) rfl)
   ·have f5 := hJ.val 5 53 rfl (hd 5 (by decide))
    obtain ⟨n1, n2⟩ := OwnK.nt f5
    simp (disch := first | omega | (simp only [lnS]; try omega)) []
    exact hcont _ _ (hJ.put hND hST rfl (Nat.le_refl _) (fun _ _ => rfl) f5)
   ·simp (disch := first | omega | (simp only [lnS]; try omega)) [-notTuple, hkn.1]
    exact hcont _ _ (hJ.put hND hST rfl (Nat.le_refl _) (fun _ _ => rfl) rfl)
  ·rintro s' α' B hJ hall
   have hsz : s'.size = 9 := hJ.sz
   have hg : ∀ i, i < 9 → s'.getD i false = true := fun i hi => by
    rw [Array.getD_eq_getD_getElem?, Array.getElem?_eq_getElem (by omega)]
    exact Array.all_eq_true.1 hall i (by omega)
   have e8 : α' 8 = .string st := hJ.val 6 8 rfl (hg 6 (by omega))
   have e9 : OwnK A.length B (α' 9) ds := hJ.val 7 9 rfl (hg 7 (by omega))
   have e10 : α' 10 = .bool true := hJ.val 8 10 rfl (hg 8 (by omega))
   obtain ⟨v9, h9⟩ : ∃ v9, α' 9 = v9 := ⟨_, rfl⟩
   rw [h9] at e9
   have hn9 := e9.nt
   (refine aw_ret ?_; simp (disch := first | omega | (simp only [lnS]; try omega)) [thenQ_ret, scopeQ_ret, inBlockQ_ret, RQ, resL, resV, e8, h9, e10, -notTuple, hn9.1, hn9.2])
   refine ⟨⟨fun j hj => (hJ.lw.2 j (by omega)).trans (aj j hj), by have := hJ.lw.1; omega⟩, ?_⟩
   rw [hop]
   exact ⟨v9, rfl, e9.less (by omega)⟩
 ·unfold zkey at *
  refine ac_of_aw Tryd.func55 rfl Tryd.ntmps55 Tryd.results55 (by simp) ?_
  (refine aw_seq (aoo fun K hK => ?_); simp (disch := first | omega | (simp only [lnS]; try omega)) [htk, hty]; refine hK _ _ ?_; clear hK K)
  refine aw_seq (aw_seq ?_)
  (refine aoo fun K hK => ?_; simp (disch := first | omega | (simp only [lnS]; try omega)) [hs9, hi32, hb32]; refine hK _ _ ?_; clear hK K)
  refine aw_f (by (first | (simp; done) | (simp; omega))) (by kernel_rfl) ?_
  refine aw_skip (aw_seq ?_)
  refine aoo fun K hK => ?_
  simp (disch := first | omega | (simp only [lnS]; try omega)) [h32, ln, htn]
  refine ⟨by kernel_rfl, AC.mono (hf _) ?_⟩
  rintro _ G ⟨rfl, lw⟩
  have hGl := lw.2
  rw [List.length_append] at lw hGl
  simp only [List.length_cons, List.length_nil] at lw hGl
  have gk : hget G H.length = some ⟨iv .u8 k, 41, none⟩ := (lw.1 _ (by omega)).trans (by rw [hget_app0]; rfl)
  have gy : hget G (H.length + 1) = some ⟨iv .u8 y, 41, none⟩ := (lw.1 _ (by omega)).trans (by rw [hget_app]; rfl)
  have lwH : Low H.length H G := ⟨fun j hj => (lw.1 j (by omega)).trans (hget_left hj), by omega⟩
  have hng : nro ≤ G.length := by omega
  try simp (disch := first | omega | (simp only [lnS]; try omega)) [p1, r3, hng]
  refine hK _ _ ?_; clear hK K
  refine aw_seq (aw_seq ?_)
  (refine aw_plan [] [] [0, 1, 2, 3, 4, 5, 6, 7, 8, 9, 10, 11, 12, 13, 14, 15, 16, 17, 18, 19, 20, 21, 22] 23 0 (by kernel_rfl) (by kernel_rfl) (by kernel_rfl) (fun K hK => ?_)); simp only [sel, List.getElem?_cons_succ, List.getElem?_cons_zero, List.drop_succ_cons, List.drop_zero]; simp (disch := first | omega | (simp only [lnS]; try omega)) [PL_nil, plainB_lit, PL_cons, PLc_val, PLc_new, stepP_t, stepP_f, stepPC_n, stepPC_s, stepPX_s, stepPX_n, stepPV_n, stepPV_s, stepPA_t, stepPA_c, stepPA_l, stepPN_s, allocOp, reloc_sl, reloc_ptr, List.map_cons, List.map_nil, List.nil_append, List.append_assoc, List.cons_append, Nat.add_assoc]
  refine hK _ _ ?_; clear hK K
  refine aw_t (by (first | (simp; done) | (simp; omega))) (by kernel_rfl) ?_
  (refine aw_seq (aoo fun K hK => ?_); simp (disch := first | omega | (simp only [lnS]; try omega)) []; refine hK _ _ ?_; clear hK K)
  (refine aw_ret ?_; simp (disch := first | omega | (simp only [lnS]; try omega)) [thenQ_ret, scopeQ_ret, inBlockQ_ret, RQ, resL, resV])
  have hop : openT (L.map (·.2)) k y s = none := by unfold openT; rw [if_pos h32, hft]
  exact ⟨⟨fun j hj => (hget_left (by omega)).trans (lwH.1 j hj), by simp; omega⟩, by rw [hop]⟩
end
end
section
theorem place_none {x : TermD} {T : List TermD} (hx : x.Wf) (hT : ∀ y ∈ T, y.Wf) (h : x ∉ T) : placeT x T = none := by
 cases hp : placeT x T with
 | none => rfl
 | some i => exact absurd (List.mem_of_getElem? (place_some hx hT hp)) h
theorem idxS_mem {s : ByteArray} : ∀ {L : List ByteArray}, s ∈ L → ∃ i, idxS s L = some i
 | x :: L, h => by
  unfold idxS
  by_cases e : s = x
  ·exact ⟨0, if_pos e⟩
  ·rw [if_neg e]
   rcases List.mem_cons.1 h with h | h
   ·exact absurd h e
   ·obtain ⟨i, hi⟩ := idxS_mem h
    exact ⟨i + 1, by rw [hi]; rfl⟩
theorem add_new {x : TermD} {T : List TermD} (hx : x.Wf) (hT : ∀ y ∈ T, y.Wf) (h : x ∉ T) : addT x T = T ++ [x] ∧ nameT x T = T.length := by
 have := place_none hx hT h
 exact ⟨by unfold addT; rw [this], by unfold nameT; rw [this]⟩
theorem add_old {x : TermD} {T : List TermD} (hx : x.Wf) (hT : ∀ y ∈ T, y.Wf) (hn : T.Nodup) {i : Nat} (h : T[i]? = some x) : addT x T = T ∧ nameT x T = i := by
 obtain ⟨j, hj⟩ := idxS_mem (List.mem_map.2 ⟨x, List.mem_of_getElem? h, rfl⟩ : x.rec_ ∈ T.map TermD.rec_)
 have hp : placeT x T = some j := hj
 have h2 := place_some hx hT hp
 have e : j = i := (List.getElem?_inj (List.getElem?_eq_some_iff.1 h2).1 hn).1 (h2.trans h.symm)
 exact ⟨by unfold addT; rw [hp], by unfold nameT; rw [hp]; exact e⟩
theorem wf_atom {s : ByteArray} (hs : s.size ≤ 100000000) : TermD.Wf ⟨1, s, []⟩ := wf_0 (.inl rfl) hs
theorem zl_by32 : By (zl 32) := fun x hx => by
 rw [List.eq_of_mem_replicate hx]; omega
theorem tlenT_rc {γ : Nat → Option Nat} {H : AH} {b : Nat} {F : List Nat} {T : List TermD} (h : Tbl H b F T) : AC Tryd.prog H.length γ 14 #[.pointer (some ⟨b, 0, none⟩)] H (fun v' _ => v' = .int .i64 (T.length : Nat)) := by
 obtain ⟨mb, tv, Ft, Fk, L, rfl, hL, rfl, hFl⟩ := h
 obtain ⟨hl, hnt, hcs⟩ := hL.tvlen
 rw [List.length_map]
 exact tlen_rc hL.hb hl hnt hcs
end
section
theorem place_eq {x : TermD} {T : List TermD} (hx : x.Wf) (hT : ∀ y ∈ T, y.Wf) (hn : T.Nodup) {i : Nat} (h : T[i]? = some x) : placeT x T = some i := by
 obtain ⟨j, hj⟩ := idxS_mem (List.mem_map.2 ⟨x, List.mem_of_getElem? h, rfl⟩ : x.rec_ ∈ T.map TermD.rec_)
 have hp : placeT x T = some j := hj
 have h2 := place_some hx hT hp
 have e : j = i := (List.getElem?_inj (List.getElem?_eq_some_iff.1 h2).1 hn).1 (h2.trans h.symm)
 rw [hp, e]
abbrev mA (a : ByteArray) : TermD := ⟨1, a, []⟩
abbrev mU (k : List Int) : TermD := ⟨3, ⟨#[]⟩, [k]⟩
abbrev mK (k l : List Int) : TermD := ⟨4, ⟨#[]⟩, [k, l]⟩
def n0 : List Int := nmL ((0 : Nat) : Int)
def n1 : List Int := nmL ((1 : Nat) : Int)
def n2 : List Int := nmL ((2 : Nat) : Int)
def n3 : List Int := nmL ((3 : Nat) : Int)
def n4 : List Int := nmL ((4 : Nat) : Int)
theorem n0_by : By n0 := nmL_by _
theorem n1_by : By n1 := nmL_by _
theorem n2_by : By n2 := nmL_by _
theorem n3_by : By n3 := nmL_by _
theorem n4_by : By n4 := nmL_by _
theorem p0 : pk n0 = some 0 := pk_nm (by omega)
theorem p1_ : pk n1 = some 1 := pk_nm (by omega)
def tE (a : ByteArray) : List TermD := [mA a, mU n0, mK n0 n0]
section
variable {a b : ByteArray} (ha : a.size ≤ 300) (hb : b.size ≤ 300)
theorem folN {C : List Bool} {k : List Int} {i : Nat} (h : pk k = some i) : fol C k = kw C i := by unfold fol; rw [h]
end
end
section
attribute [local simp] wb_bool wb_undef with_lit XL_nil XL_cons XLc_val XLc_call step1_eq stepW_t stepW_f stepC_n stepC_s stepX_s stepX_n stepN_s calleeX xrecv oneV xop_eq xopR_s xopR_n wantedA_eq wantedG_n wantedG_s plain1_int plain1_bool plain1_string bits_i64 bits_u64 bits_u32 bits_u16 bits_u8 xeqA xagg xcmp xarr allK_iv num_iv calleeOf xread xeff xbin xint xnil xun xstr xload xconv xpart xfield xfieldAddr xindexAddr xindex bnd asInt? xslice xlen xmin xmax xbuild xfill xappend xapp2 xappstr xappmk xcap xcopy xcells eval_tmp eval_const put_at put_none fr0_at cells_agg cells_int cells_bool cells_string cells_ptr cells_slice notTuple tab iv_all hget_app hget_app0 hget_cons0 hget_cons set_app set_app0 setR setR_one QL_nil QL_cons QLc_val stepQ_t stepQ_f stepQC_n stepQC_s stepQX_s SL_nil SL_cons SLc_val stepS_t stepS_f ltT ltF leT leF eqT eqF ltTn ltFn leTn leFn eqTn eqFn beqT beqF bneT bneF wi64 wu64 wu32 wu16 wu8 tmodP tdivP hgetL hgetNe hgetEq setL nums_def nums_len Nat.succ_le_of_lt List.getElem?_cons_zero List.getElem?_cons_succ Option.getD_some Int.toNat_add Int.toNat_mul agM okM agB agI agS agP agL agA okB okI okS okP okSl okA nt_strG nt_boolG nt_aggG nt_intG nt_ptrG nt_slG XO_s XO_z XLk_val XLk_call headsO behind List.length_cons List.length_nil List.mem_cons List.not_mem_nil or_false forall_eq_or_imp forall_eq List.contains_cons List.contains_nil XOm
section
theorem gs_0 (n i : Nat) : (Array.replicate n false).getD i false = false := by
 rw [Array.getD_eq_getD_getElem?, Array.getElem?_replicate]
 split <;> rfl
theorem gs_eq {s : Array Bool} {i : Nat} (h : i < s.size) : (s.setIfInBounds i true).getD i false = true := by
 rw [Array.getD_eq_getD_getElem?, Array.getElem?_setIfInBounds_self_of_lt h]; rfl
theorem gs_ne {s : Array Bool} {i j : Nat} (h : i ≠ j) : (s.setIfInBounds i true).getD j false = s.getD j false := by
 rw [Array.getD_eq_getD_getElem?, Array.getElem?_setIfInBounds_ne h, ← Array.getD_eq_getD_getElem?]
theorem two32 {k l : List Int} (hk : k.length = 32) (hl : l.length = 32) : ∀ x ∈ [k, l], x.length = 32 := fun x hx => by
 simp only [List.mem_cons, List.not_mem_nil, or_false] at hx
 rcases hx with rfl | rfl
 ·exact hk
 ·exact hl
theorem twoBy {k l : List Int} (hk : By k) (hl : By l) : ∀ x ∈ [k, l], By x := fun x hx => by
 simp only [List.mem_cons, List.not_mem_nil, or_false] at hx
 rcases hx with rfl | rfl
 ·exact hk
 ·exact hl
end
end
section
def db32L : List Int := [0, 1, 28, 2, 29, 14, 24, 3, 30, 22, 20, 15, 25, 17, 4, 8, 31, 27, 13, 23, 21, 19, 16, 7, 26, 12, 18, 6, 11, 5, 10, 9]
def db64L : List Int := [0, 1, 56, 2, 57, 49, 28, 3, 61, 58, 42, 50, 38, 29, 17, 4, 62, 47, 59, 36, 45, 43, 51, 22, 53, 39, 33, 30, 24, 18, 12, 5, 63, 55, 48, 27, 60, 41, 37, 16, 46, 35, 44, 21, 52, 32, 23, 11, 54, 26, 40, 15, 34, 20, 31, 10, 25, 14, 19, 9, 13, 8, 7, 6]
end
section
attribute [local simp] wb_bool wb_undef with_lit XL_nil XL_cons XLc_val XLc_call step1_eq stepW_t stepW_f stepC_n stepC_s stepX_s stepX_n stepN_s calleeX xrecv oneV xop_eq xopR_s xopR_n wantedA_eq wantedG_n wantedG_s plain1_int plain1_bool plain1_string bits_i64 bits_u64 bits_u32 bits_u16 bits_u8 xeqA xagg xcmp xarr allK_iv num_iv calleeOf xread xeff xbin xint xnil xun xstr xload xconv xpart xfield xfieldAddr xindexAddr xindex bnd asInt? xslice xlen xmin xmax xbuild xfill xappend xapp2 xappstr xappmk xcap xcopy xcells eval_tmp eval_const put_at put_none fr0_at cells_agg cells_int cells_bool cells_string cells_ptr cells_slice notTuple tab iv_all hget_app hget_app0 hget_cons0 hget_cons set_app set_app0 setR setR_one QL_nil QL_cons QLc_val stepQ_t stepQ_f stepQC_n stepQC_s stepQX_s SL_nil SL_cons SLc_val stepS_t stepS_f ltT ltF leT leF eqT eqF ltTn ltFn leTn leFn eqTn eqFn beqT beqF bneT bneF wi64 wu64 wu32 wu16 wu8 tmodP tdivP hgetL hgetNe hgetEq setL nums_def nums_len Nat.succ_le_of_lt List.getElem?_cons_zero List.getElem?_cons_succ Option.getD_some Int.toNat_add Int.toNat_mul agM okM agB agI agS agP agL agA okB okI okS okP okSl okA nt_strG nt_boolG nt_aggG nt_intG nt_ptrG nt_slG XO_s XO_z XLk_val XLk_call headsO behind List.length_cons List.length_nil List.mem_cons List.not_mem_nil or_false forall_eq_or_imp forall_eq List.contains_cons List.contains_nil XOm
section
structure JT (ds : List (Option Nat)) (VP : Nat → Value → Prop) (β : Fm) (P : Array Bool → Fm → AH → Prop) (s : Array Bool) (α : Fm) (G : AH) : Prop where
 sz : s.size = ds.length
 lo : ∀ t, some t ∉ ds → α t = β t
 val : ∀ i t, ds[i]? = some (some t) → s.getD i false = true → VP i (α t)
 hp : P s α G
theorem JT.put {ds : List (Option Nat)} {VP : Nat → Value → Prop} {β : Fm} {P : Array Bool → Fm → AH → Prop} {s : Array Bool} {α : Fm} {G G' : AH} (h : JT ds VP β P s α G) (hnd : ∀ i j t : Nat, ds[i]? = some (some t) → ds[j]? = some (some t) → i = j) {i t : Nat} {v : Value}
  (hi : ds[i]? = some (some t)) (hv : VP i v) (hp : P (s.setIfInBounds i true) (α.put (some t) v) G') : JT ds VP β P (s.setIfInBounds i true) (α.put (some t) v) G' := by
 refine ⟨by simp [h.sz], fun t' ht => ?_, fun j t' hj hs => ?_, hp⟩
 ·have hm : some t ∈ ds := List.mem_of_getElem? hi
  have : t' ≠ t := fun e => ht (e ▸ hm)
  rw [← h.lo t' ht]
  simp [put_at, this]
 ·by_cases hij : i = j
  ·subst hij
   rw [hi] at hj
   cases hj
   simpa [put_at] using hv
  ·rw [gs_ne hij] at hs
   have : t' ≠ t := fun e => hij (hnd i j t hi (e ▸ hj))
   simpa [put_at, this] using h.val j t' hj hs
theorem JT.put0 {ds : List (Option Nat)} {VP : Nat → Value → Prop} {β : Fm} {P : Array Bool → Fm → AH → Prop} {s : Array Bool} {α : Fm} {G G' : AH} (h : JT ds VP β P s α G) {i : Nat} (hi : ds[i]? = some none) (hp : P (s.setIfInBounds i true) α G') : JT ds VP β P (s.setIfInBounds i true) α G' := by
 refine ⟨by simp [h.sz], h.lo, fun j t' hj hs => ?_, hp⟩
 have hij : i ≠ j := fun e => by rw [← e, hi] at hj; cases hj
 rw [gs_ne hij] at hs
 exact h.val j t' hj hs
end
section
def u3 (x : Int) : Int := IntKind.u32.wrap x
def smT (s : ByteArray) (n : Int) : Nat → Int
 | 0 => n
 | i + 1 => u3 (u3 (smT s n i * 31) + u3 (gb s i))
def smK (ks : List (List Int)) (n : Int) : Nat → Int
 | 0 => n
 | i + 1 => u3 (u3 (u3 (u3 (smK ks n i * 31) + u3 ((ks.getD i []).getD 7 0)) + u3 (256 * u3 ((ks.getD i []).getD 6 0))) + u3 ((ks.getD i []).getD 0 0))
def sm0 (x : TermD) : Int := u3 (u3 (x.kind : Int) + u3 (7 * u3 (x.text.size : Int)))
def sumR (x : TermD) : Int := smK x.keys (smT x.text (sm0 x) (min x.text.size 20)) x.keys.length
theorem KsV.cell {H : AH} {v : Value} {l : List (List Int)} (h : KsV H v l) (hl : ∀ k ∈ l, k.length = 32) {i : Nat} (hi : i < l.length) :
  ∃ j, xindexAddr Tryd.prog 34 v (.int .i64 (i : Nat)) = some (.pointer (some ⟨j, i * 32, none⟩)) ∧ ∀ c, c < 32 → ∀ G : AH, Low H.length H G → xload Tryd.prog 5 (.pointer (some ⟨j, i * 32 + c, none⟩)) G = some (.int .u8 ((l.getD i []).getD c 0)) := by
 obtain ⟨z, hz⟩ : ∃ z, l[i]? = some z := ⟨_, List.getElem?_eq_getElem hi⟩
 have hzl := hl z (List.mem_of_getElem? hz)
 obtain ⟨j, b, us, hv, hb, hle, hx, hus, hul, hle2, hc, hval⟩ := val_at (P := Tryd.prog) (t := 34) (e := 41) (sz := 32) h (by kernel_rfl) (by kernel_rfl) (by omega) (fun row hr => by
  obtain ⟨y, hy, rfl⟩ := List.mem_map.1 hr
  unfold kd
  rw [List.length_map]
  exact hl y hy) (i := i) (row := kd z) (by rw [List.getElem?_map, hz]; rfl)
 have hk : us = iv .u8 z := hval.key
 have hg : l.getD i [] = z := by rw [List.getD_eq_getElem?_getD, hz]; rfl
 have e1 : isAggD (und Tryd.prog 5) = false := by kernel_rfl
 have e2 : okD (und Tryd.prog 5) = true := by kernel_rfl
 refine ⟨j, hx, fun c hc32 G hG => ?_⟩
 have hbG : hget G j = some b := (hG.1 j (hget_lt hb)).trans hb
 have h1 := hc c hc32
 rw [hk, iv_getN _ _ _ (by omega)] at h1
 unfold xload
 simp only [hbG, e1, e2, h1, hg]
 simp
theorem key_at {j q c : Nat} (hc : c < 32) : xindexAddr Tryd.prog 41 (.pointer (some ⟨j, q, none⟩)) (.int .i64 (c : Nat)) = some (.pointer (some ⟨j, q + c, none⟩)) := by
 have h1 : und Tryd.prog 41 = .array 32 5 := by kernel_rfl
 have h2 : szt Tryd.prog 5 = 1 := by kernel_rfl
 unfold xindexAddr
 simp only [h1, h2]
 rw [if_pos ⟨by omega, by omega, by omega⟩]
 simp
theorem sum_rc {γ : Nat → Option Nat} {H : AH} {kv : Value} {x : TermD} (hv : KsV H kv x.keys) (hk : ∀ k ∈ x.keys, k.length = 32) (hs : x.text.size ≤ 9223372036854775807) (hm : x.keys.length ≤ maxLen) :
  AC Tryd.prog H.length γ 63 #[.agg (tmRow kv x).toArray] H (fun v' _ => v' = .int .u32 (sumR x)) := by
 obtain ⟨kind, s, ks⟩ := x
 have hm63 : ks.length ≤ 9223372036854775807 := by simp only [maxLen] at hm; omega
 have hsum : sumR ⟨kind, s, ks⟩ = smK ks (smT s (sm0 ⟨kind, s, ks⟩) (min s.size 20)) ks.length := rfl
 have h00 : sm0 ⟨kind, s, ks⟩ = u3 (u3 (kind : Int) + u3 (7 * u3 (s.size : Int))) := rfl
 rw [hsum]
 generalize sm0 ⟨kind, s, ks⟩ = n0 at *
 have hcs : ks.length = ks.length := rfl
 obtain ⟨hnt, hvc, hxl, _⟩ := hv.acc hk
 have hcell := fun i (hi : i < ks.length) => hv.cell hk hi
 have hrow : tmRow kv ⟨kind, s, ks⟩ = [.int .i64 (kind : Nat), .string s, kv] := rfl
 rw [hrow]
 refine ac_of_aw Tryd.func63 rfl Tryd.ntmps63 Tryd.results63 (by simp) ?_
 (refine aw_seq (aoo fun K hK => ?_); simp (disch := first | omega | (simp only [lnS]; try omega)) [-notTuple, hnt, hvc]; refine hK _ _ ?_; clear hK K)
 obtain ⟨B, hB⟩ : ∃ B : AH, B = H ++ [some ⟨[.int .i64 (kind : Nat), .string s, kv], 92, none⟩] := ⟨_, rfl⟩
 have hb : hget B H.length = some ⟨[.int .i64 (kind : Nat), .string s, kv], 92, none⟩ := by rw [hB, hget_app0]; rfl
 have hlb := hget_lt hb
 have lwB : Low H.length H B := by rw [hB]; exact Low.push (Nat.le_refl _) _
 rw [← hB]
 (refine aw_seq (aoo fun K hK => ?_); simp (disch := first | omega | (simp only [lnS]; try omega)) [hb, hlb, -notTuple, hnt, hvc, hs]; refine hK _ _ ?_; clear hK K)
 refine aw_seq (aw_seq ?_)
 (refine aoo fun K hK => ?_; simp (disch := first | omega | (simp only [lnS]; try omega)) []; refine hK _ _ ?_; clear hK K)
 refine aw_block ?_
 refine aw_loop (fun q α G => ∃ i : Nat, i + q = 20 ∧ i ≤ s.size ∧ α 1 = .pointer (some ⟨H.length, 0, none⟩) ∧ α 3 = .int .u32 (smT s n0 i) ∧ α 4 = .int .i64 (i : Nat) ∧ G = B) 20 ?_ ?_
 ·exact ⟨0, by omega, by omega, by (first | (simp; done) | rfl), by rw [show smT s n0 0 = n0 from rfl, h00]; (first | (simp; done) | rfl), by (first | (simp; done) | rfl), rfl⟩
 rintro q α G ⟨i, hiq, his, h1, h3, h4, rfl⟩
 refine aw_seq (aw_seq ?_)
 by_cases hi : i < s.size ∧ i < 20
 ·obtain ⟨hi1, hi2⟩ := hi
  have hi1' : (i : Int) < s.size := by omega
  have hi2' : (i : Int) < 20 := by omega
  have hT : smT s n0 (i + 1) = u3 (u3 (smT s n0 i * 31) + u3 (gb s i)) := rfl
  unfold u3 at hT
  (refine aoo fun K hK => ?_; simp (disch := first | omega | (simp only [lnS]; try omega)) [h1, h4, hb, hlb, hs, hi1', hi2']; refine hK _ _ ?_; clear hK K)
  refine aw_t (by (first | (simp; done) | (simp; omega))) (by kernel_rfl) ?_
  refine aw_skip (aw_seq ?_)
  refine aw_block ?_
  (refine aoo fun K hK => ?_; simp (disch := first | omega | (simp only [lnS]; try omega)) [h1, h3, h4, hb, hlb, hi1, hi1']; refine hK _ _ ?_; clear hK K)
  (refine aoo fun K hK => ?_; simp (disch := first | omega | (simp only [lnS]; try omega)) [h4, hi2']; refine hK _ _ ?_; clear hK K)
  exact ⟨q - 1, by omega, i + 1, by omega, by omega, by (first | (simp [h1]; done) | rfl), by rw [hT]; (first | (simp; done) | rfl), by (first | (simp; done) | rfl), rfl⟩
 ·have hmin : min s.size 20 = i := by omega
  rw [hmin]
  generalize smT s n0 i = n1 at *
  refine aw_cut (fun α G' => α 1 = .pointer (some ⟨H.length, 0, none⟩) ∧ α 3 = .int .u32 n1 ∧ α 23 = .bool false ∧ G' = G) ?_ ?_
  ·by_cases hi1 : i < s.size
   ·have hi1' : (i : Int) < s.size := by omega
    have hi2' : ¬ (i : Int) < 20 := by omega
    (refine aoo fun K hK => ?_; simp (disch := first | omega | (simp only [lnS]; try omega)) [h1, h4, hb, hlb, hs, hi1', hi2']; refine hK _ _ ?_; clear hK K)
    exact ⟨by (first | (simp [h1]; done) | rfl), by (first | (simp [h3]; done) | rfl), by (first | (simp; done) | rfl), rfl⟩
   ·have hi1' : ¬ (i : Int) < s.size := by omega
    (refine aoo fun K hK => ?_; simp (disch := first | omega | (simp only [lnS]; try omega)) [h1, h4, hb, hlb, hs, hi1']; refine hK _ _ ?_; clear hK K)
    exact ⟨by (first | (simp [h1]; done) | rfl), by (first | (simp [h3]; done) | rfl), by (first | (simp; done) | rfl), rfl⟩
  rintro α1 G' ⟨g1, g3, g23, rfl⟩
  clear h1 h3 h4
  refine aw_f (by (first | (simp [g23]; done) | (simp [g23]; omega))) (by kernel_rfl) ?_
  refine aw_exit ?_
  refine aw_seq (aw_seq ?_)
  (refine aoo fun K hK => ?_; simp (disch := first | omega | (simp only [lnS]; try omega)) []; refine hK _ _ ?_; clear hK K)
  refine aw_block ?_
  refine aw_loop (fun q α G => ∃ i : Nat, i + q = ks.length ∧ α 1 = .pointer (some ⟨H.length, 0, none⟩) ∧ α 3 = .int .u32 (smK ks n1 i) ∧ α 5 = .int .i64 (i : Nat) ∧ G = G') ks.length ?_ ?_
  ·exact ⟨0, by omega, by (first | (simp [g1]; done) | rfl), by rw [show smK ks n1 0 = n1 from rfl]; (first | (simp [g3]; done) | rfl), by (first | (simp; done) | rfl), rfl⟩
  clear g1 g3 g23 hiq his hmin hi hB hsum h00 hrow
  rintro q α G ⟨i, hiq, h1, h3, h5, rfl⟩
  refine aw_seq (aw_seq ?_)
  by_cases hi : i < ks.length
  ·have hi' : (i : Int) < ks.length := by omega
   obtain ⟨j, q1, q2⟩ := hcell i hi
   have hT : smK ks n1 (i + 1) = u3 (u3 (u3 (u3 (smK ks n1 i * 31) + u3 ((ks.getD i []).getD 7 0)) + u3 (256 * u3 ((ks.getD i []).getD 6 0))) + u3 ((ks.getD i []).getD 0 0)) := rfl
   have c7 := q2 7 (by omega) G lwB
   have c6 := q2 6 (by omega) G lwB
   have c0 := q2 0 (by omega) G lwB
   have k7 : xindexAddr Tryd.prog 41 (.pointer (some ⟨j, i * 32, none⟩)) (.int .i64 7) = some (.pointer (some ⟨j, i * 32 + 7, none⟩)) := key_at (c := 7) (by omega)
   have k6 : xindexAddr Tryd.prog 41 (.pointer (some ⟨j, i * 32, none⟩)) (.int .i64 6) = some (.pointer (some ⟨j, i * 32 + 6, none⟩)) := key_at (c := 6) (by omega)
   have k0 : xindexAddr Tryd.prog 41 (.pointer (some ⟨j, i * 32, none⟩)) (.int .i64 0) = some (.pointer (some ⟨j, i * 32 + 0, none⟩)) := key_at (c := 0) (by omega)
   have ld2 : xload Tryd.prog 34 (.pointer (some ⟨H.length, 2, none⟩)) G = some kv := by
    unfold xload
    have e1 : isAggD (und Tryd.prog 34) = false := by kernel_rfl
    have e2 : okD (und Tryd.prog 34) = true := by kernel_rfl
    simp only [hb, e1, e2]
    simp
   generalize smK ks n1 i = n2 at *
   generalize (ks.getD i []).getD 7 0 = x7 at *
   generalize (ks.getD i []).getD 6 0 = x6 at *
   generalize (ks.getD i []).getD 0 0 = x0 at *
   generalize i * 32 + 7 = o7 at *
   generalize i * 32 + 6 = o6 at *
   generalize i * 32 + 0 = o0 at *
   unfold u3 at hT
   (refine aoo fun K hK => ?_; simp (disch := first | omega | (simp only [lnS]; try omega)) [h1, h5, hb, hlb, -notTuple, hnt, hvc, -xlen, hxl, hi']; refine hK _ _ ?_; clear hK K)
   refine aw_t (by (first | (simp [hi']; done) | (simp [hi']; omega))) (by kernel_rfl) ?_
   refine aw_skip (aw_seq ?_)
   refine aw_block ?_
   (refine aw_plan [] [] [0, 1, 2, 3, 4, 5, 6, 7, 8, 9, 10, 11, 12, 13, 14, 15, 16, 17, 18, 19, 20, 21, 22, 23, 24, 25, 26, 27] 28 0 (by kernel_rfl) (by kernel_rfl) (by kernel_rfl) (fun K hK => ?_)); simp only [sel, List.getElem?_cons_succ, List.getElem?_cons_zero, List.drop_succ_cons, List.drop_zero]; simp (disch := first | omega | (simp only [lnS]; try omega)) [h1, h3, h5, -xload, ld2, c7, c6, c0, -xindexAddr, q1, k7, k6, k0, -notTuple, hnt, PL_nil, plainB_lit, PL_cons, PLc_val, PLc_new, stepP_t, stepP_f, stepPC_n, stepPC_s, stepPX_s, stepPX_n, stepPV_n, stepPV_s, stepPA_t, stepPA_c, stepPA_l, stepPN_s, allocOp, reloc_sl, reloc_ptr, List.map_cons, List.map_nil, List.nil_append, List.append_assoc, List.cons_append, Nat.add_assoc]
   refine hK _ _ ?_; clear hK K
   (refine aoo fun K hK => ?_; simp (disch := first | omega | (simp only [lnS]; try omega)) [h5]; refine hK _ _ ?_; clear hK K)
   exact ⟨q - 1, by omega, i + 1, by omega, by (first | (simp [h1]; done) | rfl), by rw [hT]; (first | (simp [h3]; done) | rfl), by (first | (simp; done) | rfl), rfl⟩
  ·obtain rfl : i = ks.length := by omega
   (refine aoo fun K hK => ?_; simp (disch := first | omega | (simp only [lnS]; try omega)) [h1, h5, hb, hlb, -notTuple, hnt, hvc, -xlen, hxl]; refine hK _ _ ?_; clear hK K)
   refine aw_f (by (first | (simp; done) | (simp; omega))) (by kernel_rfl) ?_
   refine aw_exit (aw_seq ?_)
   (refine aoo fun K hK => ?_; simp (disch := first | omega | (simp only [lnS]; try omega)) [h3]; refine hK _ _ ?_; clear hK K)
   (refine aw_ret ?_; simp (disch := first | omega | (simp only [lnS]; try omega)) [thenQ_ret, scopeQ_ret, inBlockQ_ret, RQ, resL, resV, h3])
end
section
structure RTblF (H : AH) (b : Nat) (tv sv : Value) (Ft Fs F : List Nat) (L : List (Value × TermD)) : Prop where
 hb : hget H b = some ⟨[tv, sv], 33, none⟩
 rows : OwnF H tv 92 3 (tmRows L) Ft
 sums : OwnF H sv 46 1 (iv .u32 (L.map fun p => sumR p.2)) Fs
 keys : ∀ p ∈ L, ∀ G : AH, (∀ j ∈ F, hget G j = hget H j) → KsV G p.1 p.2.keys
 wf : ∀ p ∈ L, p.2.Wf
 lt : ∀ j ∈ F, j < H.length
 bt : b ∉ Ft
 bs : b ∉ Fs
 bf : b ∉ F
 ts : ∀ j ∈ Ft, j ∉ Fs
 tf : ∀ j ∈ Ft, j ∉ F
 sf : ∀ j ∈ Fs, j ∉ F
def RTbl (H : AH) (b : Nat) (F : List Nat) (T : List TermD) : Prop := ∃ tv sv Ft Fs Fk L, T = L.map (·.2) ∧ RTblF H b tv sv Ft Fs Fk L ∧ F = b :: (Ft ++ Fs ++ Fk)
theorem RTblF.low {H G : AH} {b : Nat} {tv sv : Value} {Ft Fs F : List Nat} {L : List (Value × TermD)} (h : RTblF H b tv sv Ft Fs F L) (hl : ∀ j ∈ b :: (Ft ++ Fs ++ F), hget G j = hget H j) (hG : H.length ≤ G.length) : RTblF G b tv sv Ft Fs F L :=
 ⟨(hl b (by simp)).trans h.hb, h.rows.low (fun j hj => hl j (by simp [hj])), h.sums.low (fun j hj => hl j (by simp [hj])), fun p hp D hD => h.keys p hp D (fun j hj => (hD j hj).trans (hl j (by simp [hj]))), h.wf, fun j hj => by have := h.lt j hj; omega, h.bt, h.bs, h.bf, h.ts, h.tf, h.sf⟩
theorem RTblF.bound {H : AH} {b : Nat} {tv sv : Value} {Ft Fs F : List Nat} {L : List (Value × TermD)} (h : RTblF H b tv sv Ft Fs F L) : ∀ j ∈ b :: (Ft ++ Fs ++ F), j < H.length := fun j hj => by
 simp only [List.mem_cons, List.mem_append] at hj
 rcases hj with rfl | (hj | hj) | hj
 ·exact hget_lt h.hb
 ·exact h.rows.lt j hj
 ·exact h.sums.lt j hj
 ·exact h.lt j hj
theorem RTblF.at_ {H : AH} {b : Nat} {tv sv : Value} {Ft Fs F : List Nat} {L : List (Value × TermD)} (h : RTblF H b tv sv Ft Fs F L) {i : Nat} {p : Value × TermD} (hi : L[i]? = some p) :
  ∃ q, xindexAddr Tryd.prog 30 tv (.int .i64 (i : Nat)) = some q ∧ notTuple q = true ∧ xload Tryd.prog 92 q H = some (.agg (tmRow p.1 p.2).toArray) := by
 have hl := (List.getElem?_eq_some_iff.1 hi).1
 have hr := tmRows_len L
 rcases h.rows with ⟨_, h2, _⟩ | ⟨j, len, rfl, h2, h3, _⟩
 ·rw [h2] at hr
  simp at hr
  omega
 ·have : len = L.length := by omega
  subst this
  exact ⟨_, tm_addr hl, rfl, tm_load hi h2⟩
theorem RTblF.sat {H : AH} {b : Nat} {tv sv : Value} {Ft Fs F : List Nat} {L : List (Value × TermD)} (h : RTblF H b tv sv Ft Fs F L) {i : Nat} {p : Value × TermD} (hi : L[i]? = some p) :
  ∃ q, xindexAddr Tryd.prog 31 sv (.int .i64 (i : Nat)) = some q ∧ notTuple q = true ∧ xload Tryd.prog 46 q H = some (.int .u32 (sumR p.2)) := by
 have hl := (List.getElem?_eq_some_iff.1 hi).1
 rcases h.sums with ⟨_, h2, _⟩ | ⟨j, len, rfl, h2, h3, _⟩
 ·have := congrArg List.length h2
  simp at this
  rw [this] at hl
  simp at hl
 ·have h3' : L.length = len * 1 := by simpa using h3
  have h1 : und Tryd.prog 31 = .slice 46 := by kernel_rfl
  have h4 : szt Tryd.prog 46 = 1 := by kernel_rfl
  have e1 : isAggD (und Tryd.prog 46) = false := by kernel_rfl
  have e2 : okD (und Tryd.prog 46) = true := by kernel_rfl
  refine ⟨.pointer (some ⟨j, i, none⟩), ?_, rfl, ?_⟩
  ·unfold xindexAddr
   simp only [h1, h4]
   rw [if_pos ⟨by omega, by omega, by omega⟩]
   simp
  ·unfold xload
   simp only [h2, e1, e2]
   simp [iv, hi]
theorem RTblF.slen {H : AH} {b : Nat} {tv sv : Value} {Ft Fs F : List Nat} {L : List (Value × TermD)} (h : RTblF H b tv sv Ft Fs F L) : xlen Tryd.prog 31 sv = some (.int .i64 (L.length : Nat)) ∧ xlen Tryd.prog 30 tv = some (.int .i64 (L.length : Nat)) :=
 ⟨h.sums.len (by kernel_rfl) (n := L.length) (by simp) (by omega), h.rows.len (by kernel_rfl) (tmRows_len L) (by omega)⟩
def posI (x : TermD) (T : List TermD) : Int := match placeT x T with | some i => (i : Nat) | none => -1
theorem place_at {x : TermD} {T : List TermD} (hx : x.Wf) (hT : ∀ y ∈ T, y.Wf) {i : Nat} (hi : T[i]? = some x) (hp : ∀ k, k < i → ∀ y, T[k]? = some y → y ≠ x) : placeT x T = some i := by
 cases h : placeT x T with
 | none =>
  refine absurd ?_ (idxS_none h)
  exact List.mem_map.2 ⟨x, List.mem_of_getElem? hi, rfl⟩
 | some j =>
  have hj := place_some hx hT h
  rcases Nat.lt_trichotomy j i with hlt | rfl | hgt
  ·exact absurd rfl (hp j hlt x hj)
  ·rfl
  ·exfalso
   have : ∀ (L : List ByteArray) (s : ByteArray) (i j : Nat), idxS s L = some j → L[i]? = some s → j ≤ i := by
    intro L
    induction L with
    | nil => intro s i j h; cases h
    | cons y L ih =>
     intro s i j h hi
     unfold idxS at h
     by_cases e : s = y
     ·rw [if_pos e] at h; cases h; omega
     ·rw [if_neg e] at h
      cases hr : idxS s L with
      | none => rw [hr] at h; cases h
      | some j' =>
       rw [hr] at h
       cases h
       cases i with
       | zero => exact absurd (Option.some.inj hi).symm e
       | succ i => have := ih s i j' hr hi; show j' + 1 ≤ i + 1; omega
   have := this _ _ i j h (by rw [List.getElem?_map, hi]; rfl)
   omega
theorem place_no {x : TermD} {T : List TermD} (hx : x.Wf) (hT : ∀ y ∈ T, y.Wf) (hp : ∀ (k : Nat) (y : TermD), T[k]? = some y → y ≠ x) : placeT x T = none := by
 cases h : placeT x T with
 | none => rfl
 | some j => exact absurd rfl (hp j x (place_some hx hT h))
theorem rfind_ac {nro : Nat} {γ : Nat → Option Nat} {H : AH} {b : Nat} {tv sv : Value} {Ft Fs F : List Nat} {L : List (Value × TermD)} (h : RTblF H b tv sv Ft Fs F L) (hnH : nro ≤ H.length) {kv : Value} {x : TermD} (hx : x.Wf) (hv : KsV H kv x.keys) (hL : L.length ≤ 1000000) :
  AC Tryd.prog nro γ 47 #[.pointer (some ⟨b, 0, none⟩), .agg (tmRow kv x).toArray] H (fun v' H' => v' = .int .i64 (posI x (L.map (·.2))) ∧ Low H.length H H') := by
 obtain ⟨hsl, htl⟩ := h.slen
 obtain ⟨hnt, hvc⟩ := val_nt hv
 have hs1 := ownF_nt h.sums
 have hs2 := ownF_nt h.rows
 have hxt := hx.text
 have hxm : x.keys.length ≤ maxLen := by have := hx.many; simp only [maxLen]; omega
 have hsum := fun (G : AH) (hG : KsV G kv x.keys) => sum_rc (γ := γ) (H := G) hG hx.k32 (by omega) hxm
 have hbd := h.bound
 have hTw : ∀ y ∈ L.map (·.2), y.Wf := fun y hy => by
  obtain ⟨p, hp, rfl⟩ := List.mem_map.1 hy
  exact h.wf p hp
 have hrow : tmRow kv x = [.int .i64 (x.kind : Nat), .string x.text, kv] := rfl
 rw [hrow] at hsum ⊢
 obtain ⟨sx, hsx⟩ : ∃ sx, sx = sumR x := ⟨_, rfl⟩
 rw [← hsx] at hsum
 refine ac_of_aw Tryd.func47 rfl Tryd.ntmps47 Tryd.results47 (by simp) ?_
 (refine aw_seq (aoo fun K hK => ?_); simp (disch := first | omega | (simp only [lnS]; try omega)) [-notTuple, hnt, hvc]; refine hK _ _ ?_; clear hK K)
 obtain ⟨B, hB⟩ : ∃ B : AH, B = H ++ [some ⟨[.int .i64 (x.kind : Nat), .string x.text, kv], 92, none⟩] := ⟨_, rfl⟩
 have hgx : hget B H.length = some ⟨[.int .i64 (x.kind : Nat), .string x.text, kv], 92, none⟩ := by rw [hB, hget_app0]; rfl
 have hlx := hget_lt hgx
 have lwB : Low H.length H B := by rw [hB]; exact Low.push (Nat.le_refl _) _
 rw [← hB]
 clear hB
 have hvB : KsV B kv x.keys := CD.Val.low (fun j hj => lwB.1 j hj) hv
 refine aw_seq (aoo fun K hK => ?_)
 simp (disch := first | omega | (simp only [lnS]; try omega)) [hgx, hlx, -notTuple, hnt, hvc]
 refine ⟨by kernel_rfl, ac_of_rc (hsum _ hvB) (by simp [pv_iv, pv_int, pv_bool, pv_string, pv_tup2, pv_tup3, iv_plain, p2_int, p2_bool, p2_string]) ?_⟩
 try simp (disch := first | omega | (simp only [lnS]; try omega)) []
 refine hK _ _ ?_; clear hK K
 refine aw_seq (aw_seq ?_)
 (refine aoo fun K hK => ?_; simp (disch := first | omega | (simp only [lnS]; try omega)) []; refine hK _ _ ?_; clear hK K)
 refine aw_block ?_
 refine aw_loop (fun q α G => ∃ i : Nat, i + q = L.length ∧ Low B.length B G ∧ α 0 = .pointer (some ⟨b, 0, none⟩) ∧ α 3 = .pointer (some ⟨H.length, 0, none⟩) ∧ α 5 = .int .u32 sx ∧ α 6 = .int .i64 (i : Nat) ∧ ∀ (k : Nat), k < i → ∀ y, (L.map (·.2))[k]? = some y → y ≠ x) L.length ?_ ?_
 ·exact ⟨0, by omega, Low.refl (Nat.le_refl _), by (first | (simp; done) | rfl), by (first | (simp; done) | rfl), by (first | (simp; done) | rfl), by (first | (simp; done) | rfl), fun k hk => by omega⟩
 rintro q α G ⟨i, hiq, lwG, h0, h3, h5, h6, hpre⟩
 have lwH : Low H.length H G := ⟨fun j hj => (lwG.1 j (by have := lwB.2; omega)).trans (lwB.1 j hj), by have := lwB.2; have := lwG.2; omega⟩
 have hT := h.low (G := G) (fun j hj => lwH.1 j (hbd j hj)) lwH.2
 have hgb := hT.hb
 have hlb := hget_lt hgb
 have gx := (lwG.1 _ hlx).trans hgx
 have lx := hget_lt gx
 refine aw_seq (aw_seq ?_)
 by_cases hi : i < L.length
 ·have hi' : (i : Int) < L.length := by omega
  obtain ⟨⟨kv2, y⟩, hy⟩ : ∃ p, L[i]? = some p := ⟨_, List.getElem?_eq_getElem hi⟩
  have hyT : (L.map (·.2))[i]? = some y := by rw [List.getElem?_map, hy]; rfl
  have hym := List.mem_of_getElem? hy
  obtain ⟨a1, a2, a3, a4⟩ := hT.at_ hy
  obtain ⟨b1, b2, b3, b4⟩ := hT.sat hy
  have hv2 := hT.keys _ hym
  have hwy := hT.wf _ hym
  have hvy : KsV G kv2 y.keys := hv2 G (fun _ _ => rfl)
  have hvx : KsV G kv x.keys := CD.Val.low (fun j hj => lwG.1 j hj) hvB
  obtain ⟨hnt2, hvc2⟩ := val_nt hvy
  have ldt : xload Tryd.prog 30 (.pointer (some ⟨b, 0, none⟩)) G = some tv := by simp [xload, hgb]
  have lds : xload Tryd.prog 31 (.pointer (some ⟨b, 1, none⟩)) G = some sv := by simp [xload, hgb]
  simp only at b4 a4
  (refine aoo fun K hK => ?_; simp (disch := first | omega | (simp only [lnS]; try omega)) [h0, h6, -xload, lds, -notTuple, hs1.1, hs1.2, -xlen, hsl, hi']; refine hK _ _ ?_; clear hK K)
  refine aw_t (by (first | (simp [hi']; done) | (simp [hi']; omega))) (by kernel_rfl) ?_
  refine aw_skip (aw_seq ?_)
  refine aw_block ?_
  refine aw_seq (aw_seq ?_)
  have hnext : y ≠ x → ∀ (k : Nat), k < i + 1 → ∀ y', (L.map (·.2))[k]? = some y' → y' ≠ x := fun hyx k hk y' hy' => by
   rcases Nat.lt_succ_iff_lt_or_eq.1 hk with hk | rfl
   ·exact hpre k hk y' hy'
   ·rw [hyT] at hy'
    cases hy'
    exact hyx
  obtain ⟨sy, hsy⟩ : ∃ sy, sy = sumR y := ⟨_, rfl⟩
  rw [← hsy] at b4
  by_cases hse : sy = sx
  case neg =>
   have hyx : y ≠ x := fun e => hse (by rw [hsy, hsx, e])
   (refine aoo fun K hK => ?_; simp (disch := first | omega | (simp only [lnS]; try omega)) [h0, h5, h6, -xload, lds, b4, -xindexAddr, b2, b3, -notTuple, hs1.1, hs1.2, hse]; refine hK _ _ ?_; clear hK K)
   refine aw_t (by (first | (simp [hse]; done) | (simp [hse]; omega))) (by kernel_rfl) ?_
   refine aw_exit ?_
   (refine aoo fun K hK => ?_; simp (disch := first | omega | (simp only [lnS]; try omega)) [h6]; refine hK _ _ ?_; clear hK K)
   exact ⟨q - 1, by omega, i + 1, by omega, lwG, by (first | (simp [h0]; done) | rfl), by (first | (simp [h3]; done) | rfl), by (first | (simp [h5]; done) | rfl), by (first | (simp; done) | rfl), hnext hyx⟩
  (refine aoo fun K hK => ?_; simp (disch := first | omega | (simp only [lnS]; try omega)) [h0, h5, h6, -xload, lds, b4, -xindexAddr, b2, b3, -notTuple, hs1.1, hs1.2, hse]; refine hK _ _ ?_; clear hK K)
  refine aw_f (by (first | (simp [hse]; done) | (simp [hse]; omega))) (by kernel_rfl) ?_
  refine aw_skip (aw_seq ?_)
  have hrow2 : tmRow kv2 y = [.int .i64 (y.kind : Nat), .string y.text, kv2] := rfl
  rw [hrow2] at a4
  have hGl : H.length < G.length := hget_lt gx
  have p1 : plain1 (.slice none 0 0) = true := rfl
  have r3 : List.range 3 = [0, 1, 2] := rfl
  have hnG : nro ≤ G.length := by omega
  (refine aoo fun K hK => ?_; simp (disch := first | omega | (simp only [lnS]; try omega)) [h0, h6, -xload, ldt, a4, -xindexAddr, a2, a3, -notTuple, hs2.1, hs2.2, hnt2, hvc2, hnG, p1, r3]; refine hK _ _ ?_; clear hK K)
  obtain ⟨G2, hG2⟩ : ∃ G2 : AH, G2 = G ++ [some ⟨[.int .i64 (y.kind : Nat), .string y.text, kv2], 92, none⟩] := ⟨_, rfl⟩
  have lw2 : Low G.length G G2 := by rw [hG2]; exact Low.push (Nat.le_refl _) _
  have gy2 : hget G2 G.length = some ⟨[.int .i64 (y.kind : Nat), .string y.text, kv2], 92, none⟩ := by rw [hG2, hget_app0]; rfl
  have gx2 := (lw2.1 _ lx).trans gx
  have ly2 := hget_lt gy2
  have lx2 := hget_lt gx2
  rw [← hG2]
  clear hG2
  have hvy : KsV G2 kv2 y.keys := CD.Val.low (fun j hj => lw2.1 j hj) hvy
  have hvx : KsV G2 kv x.keys := CD.Val.low (fun j hj => lw2.1 j hj) hvx
  have hsk := sameKeys_rc (γ := γ) hvx hvy hx.k32 hwy.k32 hxm
  have lwB2 : Low B.length B G2 := ⟨fun j hj => (lw2.1 j (by have := lwG.2; omega)).trans (lwG.1 j hj), by have := lwG.2; have := lw2.2; omega⟩
  have lwH2 : Low H.length H G2 := ⟨fun j hj => (lwB2.1 j (by have := lwB.2; omega)).trans (lwB.1 j hj), by have := lwB.2; have := lwB2.2; omega⟩
  have hkb : (((y.kind : Nat) : Int) == ((x.kind : Nat) : Int)) = decide (y.kind = x.kind) := by rw [Bool.eq_iff_iff]; simp; omega
  have htb : (y.text.toList == x.text.toList) = decide (y.text = x.text) := tl_beq _ _
  refine aw_seq ?_
  refine aw_cut (fun α' G' => α' 0 = .pointer (some ⟨b, 0, none⟩) ∧ α' 3 = .pointer (some ⟨H.length, 0, none⟩) ∧ α' 5 = .int .u32 sx ∧ α' 6 = .int .i64 (i : Nat) ∧ α' 53 = .bool (sameT y x) ∧ G' = G2) ?_ ?_
  ·by_cases k1 : y.kind = x.kind
   ·rw [decide_eq_true k1] at hkb
    have k1i : (y.kind : Int) = x.kind := by omega
    by_cases k2 : y.text = x.text
    ·rw [decide_eq_true k2] at htb
     have hs3 : sameT y x = decide (x.keys = y.keys) := by
      unfold sameT
      rw [decide_eq_true k1, decide_eq_true k2, Bool.true_and, Bool.true_and]
      exact decide_eq_decide.2 eq_comm
     rw [hs3]
     refine aoo fun K hK => ?_
     simp (disch := first | omega | (simp only [lnS]; try omega)) [h3, gx2, lx2, gy2, ly2, -notTuple, hnt, hvc, hnt2, hvc2, hkb, k1i, htb, k2]
     refine ⟨by kernel_rfl, ac_of_rc hsk (by simp [pv_iv, pv_int, pv_bool, pv_string, pv_tup2, pv_tup3, iv_plain, p2_int, p2_bool, p2_string]) ?_⟩
     try simp (disch := first | omega | (simp only [lnS]; try omega)) []
     refine hK _ _ ?_; clear hK K
     exact ⟨by (first | (simp [h0]; done) | rfl), by (first | (simp [h3]; done) | rfl), by (first | (simp [h5]; done) | rfl), by (first | (simp [h6]; done) | rfl), by (first | (simp; done) | rfl), rfl⟩
    ·rw [decide_eq_false k2] at htb
     have hs3 : sameT y x = false := by
      unfold sameT
      rw [decide_eq_false k2, Bool.false_and, Bool.and_false]
     rw [hs3]
     refine aoo fun K hK => ?_
     simp (disch := first | omega | (simp only [lnS]; try omega)) [h3, gx2, lx2, gy2, ly2, -notTuple, hnt, hvc, hnt2, hvc2, hkb, k1i, htb, k2]
     refine hK _ _ ?_; clear hK K
     exact ⟨by (first | (simp [h0]; done) | rfl), by (first | (simp [h3]; done) | rfl), by (first | (simp [h5]; done) | rfl), by (first | (simp [h6]; done) | rfl), by (first | (simp; done) | rfl), rfl⟩
   ·rw [decide_eq_false k1] at hkb
    have k1i : ¬ (y.kind : Int) = x.kind := by omega
    have hs3 : sameT y x = false := by
     unfold sameT
     rw [decide_eq_false k1, Bool.false_and]
    rw [hs3]
    refine aoo fun K hK => ?_
    simp (disch := first | omega | (simp only [lnS]; try omega)) [h3, gx2, lx2, gy2, ly2, -notTuple, hnt, hvc, hnt2, hvc2, hkb, k1i]
    refine hK _ _ ?_; clear hK K
    exact ⟨by (first | (simp [h0]; done) | rfl), by (first | (simp [h3]; done) | rfl), by (first | (simp [h5]; done) | rfl), by (first | (simp [h6]; done) | rfl), by (first | (simp; done) | rfl), rfl⟩
  rintro α' G' ⟨h0, h3, h5, h6, h53, rfl⟩
  by_cases hyx : y = x
  ·have hsT : sameT y x = true := sameT_iff.2 hyx
   rw [hsT] at h53
   refine aw_t (by (first | (simp [h53]; done) | (simp [h53]; omega))) (by kernel_rfl) ?_
   (refine aw_seq (aoo fun K hK => ?_); simp (disch := first | omega | (simp only [lnS]; try omega)) [h6]; refine hK _ _ ?_; clear hK K)
   have hat : placeT x (L.map (·.2)) = some i := place_at hx hTw (by rw [hyT, hyx]) (fun k hk y' hy' => hpre k hk y' hy')
   unfold posI
   rw [hat]
   (refine aw_ret ?_; simp (disch := first | omega | (simp only [lnS]; try omega)) [thenQ_ret, scopeQ_ret, inBlockQ_ret, RQ, resL, resV])
   exact lwH2
  ·have hsT : sameT y x = false := by
    cases hh : sameT y x with
    | false => rfl
    | true => exact absurd (sameT_iff.1 hh) hyx
   rw [hsT] at h53
   refine aw_f (by (first | (simp [h53]; done) | (simp [h53]; omega))) (by kernel_rfl) ?_
   refine aw_skip ?_
   (refine aoo fun K hK => ?_; simp (disch := first | omega | (simp only [lnS]; try omega)) [h6]; refine hK _ _ ?_; clear hK K)
   exact ⟨q - 1, by omega, i + 1, by omega, lwB2, by (first | (simp [h0]; done) | rfl), by (first | (simp [h3]; done) | rfl), by (first | (simp [h5]; done) | rfl), by (first | (simp; done) | rfl), hnext hyx⟩
 ·obtain rfl : i = L.length := by omega
  have lds : xload Tryd.prog 31 (.pointer (some ⟨b, 1, none⟩)) G = some sv := by simp [xload, hgb]
  (refine aoo fun K hK => ?_; simp (disch := first | omega | (simp only [lnS]; try omega)) [h0, h6, -xload, lds, -notTuple, hs1.1, hs1.2, -xlen, hsl]; refine hK _ _ ?_; clear hK K)
  refine aw_f (by (first | (simp; done) | (simp; omega))) (by kernel_rfl) ?_
  refine aw_exit (aw_seq ?_)
  (refine aoo fun K hK => ?_; simp (disch := first | omega | (simp only [lnS]; try omega)) []; refine hK _ _ ?_; clear hK K)
  have hno : placeT x (L.map (·.2)) = none := place_no hx hTw (fun k y hk => hpre k (by have := (List.getElem?_eq_some_iff.1 hk).1; simpa using this) y hk)
  unfold posI
  rw [hno]
  (refine aw_ret ?_; simp (disch := first | omega | (simp only [lnS]; try omega)) [thenQ_ret, scopeQ_ret, inBlockQ_ret, RQ, resL, resV])
  exact lwH
end
section
theorem radd_ac {nro : Nat} {γ : Nat → Option Nat} {H : AH} {b : Nat} {tv sv : Value} {Ft Fs F : List Nat} {L : List (Value × TermD)} (h : RTblF H b tv sv Ft Fs F L) (hnH : nro ≤ H.length) (hnro : ∀ j ∈ b :: (Ft ++ Fs), nro ≤ j) {kv : Value} {x : TermD} (hx : x.Wf) {Fx : List Nat} (hkv : ∀ G : AH, (∀ j ∈ Fx, hget G j = hget H j) → KsV G kv x.keys) (hFx : ∀ j ∈ Fx, j < H.length ∧ j ≠ b ∧ j ∉ Ft ∧ j ∉ Fs) (hL : L.length ≤ 1000000) :
  AC Tryd.prog nro γ 48 #[.pointer (some ⟨b, 0, none⟩), .agg (tmRow kv x).toArray] H (fun v' H' => v' = .tuple #[] ∧ H.length ≤ H'.length ∧ (∀ j, j < H.length → j ≠ b → j ∉ Ft → j ∉ Fs → hget H' j = hget H j) ∧ ∃ tv' sv' Ft' Fs', RTblF H' b tv' sv' Ft' Fs' (F ++ Fx) (L ++ [(kv, x)]) ∧ ∀ j ∈ Ft' ++ Fs', H.length ≤ j) := by
 obtain ⟨hsl, htl⟩ := h.slen
 have hv : KsV H kv x.keys := hkv H (fun _ _ => rfl)
 obtain ⟨hnt, hvc⟩ := val_nt hv
 have hs1 := ownF_nt h.sums
 have hs2 := ownF_nt h.rows
 have hxt := hx.text
 have hxm : x.keys.length ≤ maxLen := by have := hx.many; simp only [maxLen]; omega
 have hsum := fun (G : AH) (hG : KsV G kv x.keys) => sum_rc (γ := γ) (H := G) hG hx.k32 (by omega) hxm
 have hrow : tmRow kv x = [.int .i64 (x.kind : Nat), .string x.text, kv] := rfl
 have hgb := h.hb
 have hlb := hget_lt hgb
 have hFtl := h.rows.lt
 have hFsl := h.sums.lt
 rw [hrow] at hsum ⊢
 refine ac_of_aw Tryd.func48 rfl Tryd.ntmps48 Tryd.results48 (by simp) ?_
 (refine aw_seq (aoo fun K hK => ?_); simp (disch := first | omega | (simp only [lnS]; try omega)) [-notTuple, hnt, hvc]; refine hK _ _ ?_; clear hK K)
 obtain ⟨B, hB⟩ : ∃ B : AH, B = H ++ [some ⟨[.int .i64 (x.kind : Nat), .string x.text, kv], 92, none⟩] := ⟨_, rfl⟩
 have hgx : hget B H.length = some ⟨[.int .i64 (x.kind : Nat), .string x.text, kv], 92, none⟩ := by rw [hB, hget_app0]; rfl
 have hlx := hget_lt hgx
 have hBl : B.length = H.length + 1 := by rw [hB]; simp
 have lwB : ∀ j, j < H.length → hget B j = hget H j := fun j hj => by rw [hB]; exact hget_left hj
 rw [← hB]
 clear hB
 have hgB := (lwB b hlb).trans hgb
 have hlB := hget_lt hgB
 obtain ⟨R, hR⟩ : ∃ R : Option Blk, R = some ⟨[.int .i64 (x.kind : Nat), .string x.text, kv], 92, some 3⟩ := ⟨_, rfl⟩
 have hxc : xcells 3 (.slice (some ⟨B.length, 0, none⟩) 1 1) (B ++ [R]) = some (tmRow kv x) := by
  unfold xcells
  simp only [hget_app0]
  rw [hR]
  rfl
 obtain ⟨tv', G3, hap, ho2, hl3, hk3⟩ := ownF_append (P := Tryd.prog) (nro := nro) (t := 30) (e := 92) (H := B ++ [R]) (v := tv) (x := .slice (some ⟨B.length, 0, none⟩) 1 1) (sz := 3) (cells := tmRows L) (news := tmRow kv x) (F := Ft) (by kernel_rfl) (by kernel_rfl) (by omega) (by kernel_rfl)
  (h.rows.low (fun j hj => (hget_left (by have := hFtl j hj; omega)).trans (lwB j (hFtl j hj)))) (fun j hj => hnro j (by simp [hj])) (fun s e => by cases e) hxc (by simp [tmRow]) (by simp [tmRow]) (by rw [tmRows_len]; show (L.length * 3 + 3) * byt Tryd.prog 92 ≤ _; rw [show byt Tryd.prog 92 = 48 by kernel_rfl]; omega) (by rw [tmRows_len]; show L.length * 3 + 3 ≤ _; simp [maxLen]; omega)
 have hl2 : (B ++ [R]).length = B.length + 1 := by simp
 rw [hl2] at ho2 hl3 hk3
 obtain ⟨n1, n2⟩ := ownF_nt ho2
 have k3 : ∀ j, j < B.length → j ∉ Ft → hget G3 j = hget B j := fun j hj hn => (hk3 j (by omega) hn).trans (hget_left hj)
 have g3b := (k3 b hlB h.bt).trans hgB
 have l3b := hget_lt g3b
 have hnb : nro ≤ b := hnro b (by simp)
 have hBt : ∀ G : AH, hget G b = some ⟨[tv, sv], 33, none⟩ → xload Tryd.prog 30 (.pointer (some ⟨b, 0, none⟩)) G = some tv := fun G hG => by simp [xload, hG]
 have r1 : List.range 3 = [0, 1, 2] := rfl
 have p1 : plain1 (.slice none 0 0) = true := rfl
 subst hR
 obtain ⟨A, hA⟩ : ∃ A : AH, A = G3.set b (some ⟨[tv', sv], 33, none⟩) := ⟨_, rfl⟩
 refine aw_seq ?_
 refine aw_cut (fun α G' => α 0 = .pointer (some ⟨b, 0, none⟩) ∧ α 3 = .pointer (some ⟨H.length, 0, none⟩) ∧ G' = A) ?_ ?_
 ·rw [hA]
  (refine aw_ptree [0, 1, 2, 3] 7 [[4, 5, 6, 7, 8, 9, 10], [5, 4, 6, 7, 8, 9, 10], [5, 6, 4, 7, 8, 9, 10]] (by kernel_rfl) (by kernel_rfl) (by kernel_rfl) (fun K hK => ?_)); simp only [sel, List.getElem?_cons_succ, List.getElem?_cons_zero]; simp (disch := first | omega | (simp only [lnS]; try omega)) [hgB, hlB, hgx, hlx, -notTuple, hnt, hvc, hs2.1, hs2.2, p1, r1, -xappend, hap, g3b, l3b, hnb, n1, n2]
  refine ⟨?_, ?_, ?_⟩
  all_goals
   refine hK _ _ ?_; clear hK K
   exact ⟨by (first | (simp; done) | rfl), by (first | (simp; done) | rfl), rfl⟩
 rintro α G' ⟨h0, h3, rfl⟩
 obtain ⟨A, hAG⟩ : ∃ A, A = G' := ⟨_, rfl⟩
 rw [← hAG] at hA ⊢
 clear hAG
 have hgA : hget A b = some ⟨[tv', sv], 33, none⟩ := by rw [hA, hget_set_eq l3b]
 have hAl : A.length = H.length + 3 := by rw [hA, List.length_set]; omega
 have hAj : ∀ j, j < B.length → j ≠ b → j ∉ Ft → hget A j = hget B j := fun j hj h1 h2 => by rw [hA, hget_set_ne (Ne.symm h1)]; exact k3 j hj h2
 have hAH : ∀ j, j < H.length → j ≠ b → j ∉ Ft → hget A j = hget H j := fun j hj h1 h2 => (hAj j (by omega) h1 h2).trans (lwB j hj)
 have hgxA := (hAj H.length hlx (by omega) (fun e => by have := hFtl _ e; omega)).trans hgx
 have ho2A : OwnF A tv' 92 3 (tmRows L ++ tmRow kv x) [B.length + 1] := ho2.low (fun j hj => by rw [hA, hget_set_ne (by have := List.mem_singleton.1 hj; omega)])
 clear hA hap k3 hk3 g3b l3b hgB hlB hgx hlx ho2 hxc lwB hAj hl3 hl2
 have hlA := hget_lt hgA
 have hlxA := hget_lt hgxA
 have hvA : KsV A kv x.keys := hkv A (fun j hj => hAH j (hFx j hj).1 (hFx j hj).2.1 (hFx j hj).2.2.1)
 have hsA : OwnF A sv 46 1 (iv .u32 (L.map fun p => sumR p.2)) Fs := h.sums.low (fun j hj => hAH j (hFsl j hj) (fun e => h.bs (e ▸ hj)) (fun e => h.ts j e hj))
 obtain ⟨sx, hsx⟩ : ∃ sx, sx = sumR x := ⟨_, rfl⟩
 rw [← hsx] at hsum
 have hxc : xcells 1 (.slice (some ⟨A.length, 0, none⟩) 1 1) (A ++ [some ⟨[.int .u32 sx], 46, some 1⟩]) = some [.int .u32 sx] := by
  unfold xcells
  simp only [hget_app0]
  rfl
 obtain ⟨sv', G4, hap, ho4, hl4, hk4⟩ := ownF_append (P := Tryd.prog) (nro := nro) (t := 31) (e := 46) (H := A ++ [some ⟨[.int .u32 sx], 46, some 1⟩]) (v := sv) (x := .slice (some ⟨A.length, 0, none⟩) 1 1) (sz := 1) (cells := iv .u32 (L.map fun p => sumR p.2)) (news := [.int .u32 sx]) (F := Fs) (by kernel_rfl) (by kernel_rfl) (by omega) (by kernel_rfl)
  (hsA.low (fun j hj => hget_left (by have := hFsl j hj; omega))) (fun j hj => hnro j (by simp [hj])) (fun s e => by cases e) hxc (by simp) (by simp) (by rw [iv_length, List.length_map]; show (L.length + 1) * byt Tryd.prog 46 ≤ _; rw [show byt Tryd.prog 46 = 4 by kernel_rfl]; omega) (by rw [iv_length, List.length_map]; show L.length + 1 ≤ _; simp [maxLen]; omega)
 have hl5 : (A ++ [(some ⟨[.int .u32 sx], 46, some 1⟩ : Option Blk)]).length = A.length + 1 := by simp
 rw [hl5] at ho4 hl4 hk4
 obtain ⟨n3, n4⟩ := ownF_nt ho4
 have k4 : ∀ j, j < A.length → j ∉ Fs → hget G4 j = hget A j := fun j hj hn => (hk4 j (by omega) hn).trans (hget_left hj)
 have g4b := (k4 b hlA h.bs).trans hgA
 have l4b := hget_lt g4b
 have r1 : List.range 1 = [0] := rfl
 have fin : H.length ≤ (G4.set b (some ⟨[tv', sv'], 33, none⟩)).length ∧ (∀ j, j < H.length → j ≠ b → j ∉ Ft → j ∉ Fs → hget (G4.set b (some ⟨[tv', sv'], 33, none⟩)) j = hget H j) ∧ ∃ tv2 sv2 Ft2 Fs2, RTblF (G4.set b (some ⟨[tv', sv'], 33, none⟩)) b tv2 sv2 Ft2 Fs2 (F ++ Fx) (L ++ [(kv, x)]) ∧ ∀ j ∈ Ft2 ++ Fs2, H.length ≤ j := by
  obtain ⟨M, hM⟩ : ∃ M : AH, M = G4.set b (some ⟨[tv', sv'], 33, none⟩) := ⟨_, rfl⟩
  rw [← hM]
  have hMb : hget M b = some ⟨[tv', sv'], 33, none⟩ := by rw [hM, hget_set_eq l4b]
  have hMl : M.length = H.length + 5 := by rw [hM, List.length_set]; omega
  have hMj : ∀ j, j ≠ b → hget M j = hget G4 j := fun j hj => by rw [hM, hget_set_ne (Ne.symm hj)]
  have hMH : ∀ j, j < H.length → j ≠ b → j ∉ Ft → j ∉ Fs → hget M j = hget H j := fun j hj h1 h2 h3 => (hMj j h1).trans ((k4 j (by omega) h3).trans (hAH j hj h1 h2))
  refine ⟨by omega, hMH, tv', sv', [B.length + 1], [A.length + 1], ⟨hMb, ?_, ?_, ?_, ?_, ?_, ?_, ?_, ?_, ?_, ?_, ?_⟩, ?_⟩
  ·rw [tmRows_snoc]
   exact ho2A.low (fun j hj => by
    have := List.mem_singleton.1 hj
    exact (hMj j (by omega)).trans (k4 j (by omega) (fun e => by have := hFsl j e; omega)))
  ·rw [List.map_append, show iv .u32 ((L.map fun p => sumR p.2) ++ [(kv, x)].map fun p => sumR p.2) = iv .u32 (L.map fun p => sumR p.2) ++ [.int .u32 sx] by simp [iv, hsx]]
   exact ho4.low (fun j hj => hMj j (by have := List.mem_singleton.1 hj; omega))
  ·intro p hp D hD
   rcases List.mem_append.1 hp with hp | hp
   ·exact h.keys p hp D (fun j hj => (hD j (by simp [hj])).trans (hMH j (h.lt j hj) (fun e => h.bf (e ▸ hj)) (fun e => h.tf j e hj) (fun e => h.sf j e hj)))
   ·rw [List.mem_singleton.1 hp]
    exact hkv D (fun j hj => (hD j (by simp [hj])).trans (hMH j (hFx j hj).1 (hFx j hj).2.1 (hFx j hj).2.2.1 (hFx j hj).2.2.2))
  ·intro p hp
   rcases List.mem_append.1 hp with hp | hp
   ·exact h.wf p hp
   ·rw [List.mem_singleton.1 hp]; exact hx
  ·intro j hj
   rcases List.mem_append.1 hj with hj | hj
   ·have := h.lt j hj; omega
   ·have := (hFx j hj).1; omega
  ·rw [List.mem_singleton]; omega
  ·rw [List.mem_singleton]; omega
  ·intro e
   rcases List.mem_append.1 e with e | e
   ·exact h.bf e
   ·exact (hFx b e).2.1 rfl
  ·intro j hj e
   have := List.mem_singleton.1 hj
   have := List.mem_singleton.1 e
   omega
  ·intro j hj e
   have h1 := List.mem_singleton.1 hj
   rcases List.mem_append.1 e with e | e
   ·have := h.lt j e; omega
   ·have := (hFx j e).1; omega
  ·intro j hj e
   have h1 := List.mem_singleton.1 hj
   rcases List.mem_append.1 e with e | e
   ·have := h.lt j e; omega
   ·have := (hFx j e).1; omega
  ·intro j hj
   simp only [List.mem_append, List.mem_singleton] at hj
   omega
 (refine aw_ptree [0, 1, 2, 3] 8 [[4, 5, 6, 7, 8, 9, 10, 11], [5, 4, 6, 7, 8, 9, 10, 11], [5, 6, 4, 7, 8, 9, 10, 11], [5, 6, 7, 4, 8, 9, 10, 11]] (by kernel_rfl) (by kernel_rfl) (by kernel_rfl) (fun K hK => ?_)); simp only [sel, List.getElem?_cons_succ, List.getElem?_cons_zero]; simp (disch := first | omega | (simp only [lnS]; try omega)) [h0, h3, hgA, hlA, hgxA, hlxA, -notTuple, hnt, hvc, hs1.1, hs1.2, n1, n2, p1, r1, -xappend, hap, g4b, l4b, hnb, n3, n4]
 refine ⟨⟨by kernel_rfl, ac_of_rc (hsum _ hvA) (by simp [pv_iv, pv_int, pv_bool, pv_string, pv_tup2, pv_tup3, iv_plain, p2_int, p2_bool, p2_string]) ?_⟩, ⟨by kernel_rfl, ac_of_rc (hsum _ hvA) (by simp [pv_iv, pv_int, pv_bool, pv_string, pv_tup2, pv_tup3, iv_plain, p2_int, p2_bool, p2_string]) ?_⟩, by kernel_rfl, ac_of_rc (hsum _ hvA) (by simp [pv_iv, pv_int, pv_bool, pv_string, pv_tup2, pv_tup3, iv_plain, p2_int, p2_bool, p2_string]) ?_⟩
 all_goals try simp (disch := first | omega | (simp only [lnS]; try omega)) [h0, h3, hgA, hlA, hgxA, hlxA, -notTuple, hnt, hvc, hs1.1, hs1.2, n1, n2, p1, r1, -xappend, hap, g4b, l4b, hnb, n3, n4]
 ·refine hK _ _ ?_; clear hK K
  exact ⟨[], _, rfl, rfl, rfl, fin⟩
 ·refine hK _ _ ?_; clear hK K
  exact ⟨[], _, rfl, rfl, rfl, fin⟩
 ·refine ⟨?_, ?_⟩
  all_goals
   refine hK _ _ ?_; clear hK K
   exact ⟨[], _, rfl, rfl, rfl, fin⟩
end
section
theorem ownF_appQ {P : Program} {nro : Nat} {t e : TypeId} {H : AH} {v x : Value} {sz : Nat} {cells news : List Value} {F : List Nat} (hu : und P t = .slice e) (hs : szt P e = sz) (h0 : 0 < sz) (hz : (zer P e).map (·.cells.size) = some sz)
  (hv : OwnF H v e sz cells F) (hnro : ∀ j ∈ F, nro ≤ j) (hstr : ∀ s, x ≠ .string s) (hx : xcells sz x H = some news) (hd : news.length % sz = 0) (hb : (cells.length + news.length) * byt P e ≤ 140737488355328) (hm : cells.length + news.length ≤ maxLen) :
  ∃ v' H' F', xappend P nro t v x H = some (v', H') ∧ OwnF H' v' e sz (cells ++ news) F' ∧ H.length ≤ H'.length ∧ (∀ j, j < H.length → j ∉ F → hget H' j = hget H j) ∧ ∀ j ∈ F', H.length ≤ j := by
 by_cases hn : news = []
 ·subst hn
  rcases hv with ⟨rfl, rfl, rfl⟩ | ⟨j, len, rfl, h3, h4, rfl⟩
  ·refine ⟨.slice none 0 0, H, [], ?_, .inl ⟨rfl, rfl, rfl⟩, Nat.le_refl _, fun _ _ _ => rfl, fun j hj => (by cases hj)⟩
   subst hs
   unfold xappend
   cases x <;> first | (exact absurd rfl (hstr _)) | (simp only [hu, hx]; rw [if_pos ⟨h0, hz, by simp, by simp⟩]; first | rw [if_pos rfl] | rw [if_pos trivial])
  ·subst hs
   have hj := hget_lt h3
   refine ⟨.slice (some ⟨H.length, 0, none⟩) len len, H.set j none ++ [some ⟨cells, e, some (szt P e)⟩], [H.length], ?_, .inr ⟨H.length, len, rfl, ?_, by simpa using h4, rfl⟩, by simp, fun i hi hni => ?_, fun j hj => by simp at hj; omega⟩
   ·have hc : True ∧ 0 < szt P e ∧ (zer P e).map (·.cells.size) = some (szt P e) ∧ nro ≤ j ∧ True ∧ True ∧ len * szt P e ≤ cells.length ∧ (len * szt P e + 0) * byt P e ≤ 140737488355328 ∧ len * szt P e + 0 ≤ maxLen :=
     ⟨trivial, h0, hz, hnro j (by simp), trivial, trivial, by omega, by rw [← h4]; exact hb, by rw [← h4]; exact hm⟩
    have e2 : cells.take (len * szt P e) = cells := List.take_of_length_le (by omega)
    unfold xappend
    cases x <;> first | (exact absurd rfl (hstr _)) | (simp only [hu, hx, h3, List.length_nil]; rw [if_pos hc, e2]; simp)
   ·have : (H.set j none).length = H.length := by simp
    rw [← this, hget_app0, hget_cons0, List.append_nil]
   ·rw [hget_left (by simp; omega), hget_set_ne (fun e => hni (by simp [e]))]
 ·obtain ⟨v', H', h1, h2, h3, h4⟩ := ownF_append (P := P) (nro := nro) (t := t) hu hs h0 hz hv hnro hstr hx hn hd hb hm
  exact ⟨v', H', _, h1, h2, by omega, h4, fun j hj => by simp at hj; omega⟩
def RMkQ (H : AH) (b : Nat) (Ft Fs F : List Nat) (L : List (Value × TermD)) (x : TermD) (v' : Value) (H' : AH) : Prop :=
 v' = .agg (iv .u8 (nmL (nameT x (L.map (·.2)) : Nat))).toArray ∧ H.length ≤ H'.length ∧ (∀ j, j < H.length → j ≠ b → j ∉ Ft → j ∉ Fs → hget H' j = hget H j) ∧ ∃ tv' sv' Ft' Fs' F' L', RTblF H' b tv' sv' Ft' Fs' F' L' ∧ L'.map (·.2) = addT x (L.map (·.2)) ∧ ∀ j ∈ Ft' ++ Fs' ++ F', j ∈ Ft ++ Fs ++ F ∨ H.length ≤ j
theorem rmake_ac {nro : Nat} {γ : Nat → Option Nat} {H : AH} {b : Nat} {tv sv : Value} {Ft Fs F : List Nat} {L : List (Value × TermD)} (h : RTblF H b tv sv Ft Fs F L) (hnH : nro ≤ H.length) (hnro : ∀ j ∈ b :: (Ft ++ Fs), nro ≤ j) {x : TermD} (hx : x.Wf) {v : Value} (hv : KsV H v x.keys) (hL : L.length ≤ 900000) :
  AC Tryd.prog nro γ 25 #[.pointer (some ⟨b, 0, none⟩), .int .i64 (x.kind : Nat), .string x.text, v] H (RMkQ H b Ft Fs F L x) := by
 obtain ⟨hnt, hvc⟩ := val_nt hv
 have hFb := h.bound
 have hlb := hget_lt h.hb
 have hstr : ∀ s, v ≠ .string s := fun s e => by
  have hv' : CD.Val H (.sl (x.keys.map kd)) v := hv
  generalize x.keys.map kd = rows at hv'
  rw [e] at hv'
  cases hv'
 obtain ⟨G0, hG0⟩ : ∃ G0 : AH, G0 = H ++ [some ⟨iv .u8 (zl 32), 41, none⟩, some ⟨[], 41, some 32⟩] := ⟨_, rfl⟩
 have g00 : hget G0 H.length = some ⟨iv .u8 (zl 32), 41, none⟩ := by rw [hG0, hget_app0]; rfl
 have g01 : hget G0 (H.length + 1) = some ⟨[], 41, some 32⟩ := by rw [hG0, hget_app]; rfl
 have hG0l : G0.length = H.length + 2 := by rw [hG0]; simp
 have hG0j : ∀ j, j < H.length → hget G0 j = hget H j := fun j hj => by rw [hG0]; exact hget_left hj
 have hxc : xcells 32 v G0 = some (ksC x.keys) := val_cells (by omega) (CD.Val.low (fun j hj => hG0j j hj) hv) (kd_len hx.k32) (kd_flat _)
 have hkl := ksC_len hx.k32
 have hmany := hx.many
 obtain ⟨v1, G1, F1, hap, ho1, hl1, hk1, hF1⟩ := ownF_appQ (P := Tryd.prog) (nro := nro) (t := 34) (e := 41) (H := G0) (v := .slice (some ⟨H.length + 1, 0, none⟩) 0 0) (x := v) (sz := 32) (cells := []) (news := ksC x.keys) (F := [H.length + 1]) (by kernel_rfl) (by kernel_rfl) (by omega) (by kernel_rfl)
  (.inr ⟨H.length + 1, 0, rfl, g01, rfl, rfl⟩) (fun j hj => by have := List.mem_singleton.1 hj; omega) hstr hxc (by rw [hkl]; omega) (by rw [hkl]; show (0 + x.keys.length * 32) * byt Tryd.prog 41 ≤ _; rw [show byt Tryd.prog 41 = 32 by kernel_rfl]; omega) (by rw [hkl]; show 0 + _ ≤ _; simp only [maxLen]; omega)
 obtain ⟨n1, n2⟩ := ownF_nt ho1
 have g10 := (hk1 H.length (by omega) (by simp)).trans g00
 have hG1j : ∀ j, j < H.length → hget G1 j = hget H j := fun j hj => (hk1 j (by omega) (by simp; omega)).trans (hG0j j hj)
 have p1 : plain1 (.slice none 0 0) = true := rfl
 have r3 : List.range 3 = [0, 1, 2] := rfl
 have hn1 : nro ≤ G1.length := by omega
 subst hG0
 refine ac_of_aw Tryd.func25 rfl Tryd.ntmps25 Tryd.results25 (by simp) ?_
 (refine aw_seq (aoo fun K hK => ?_); simp (disch := first | omega | (simp only [lnS]; try omega)) []; refine hK _ _ ?_; clear hK K)
 (refine aw_seq (aoo fun K hK => ?_); simp (disch := first | omega | (simp only [lnS]; try omega)) [-notTuple, hnt, hvc, n1, n2, hn1, p1, r3, -xappend, hap, List.range_zero, List.map_nil]; refine hK _ _ ?_; clear hK K)
 obtain ⟨G2, hG2⟩ : ∃ G2 : AH, G2 = G1 ++ [some ⟨[.int .i64 (x.kind : Nat), .string x.text, v1], 92, none⟩] := ⟨_, rfl⟩
 have gx2 : hget G2 G1.length = some ⟨[.int .i64 (x.kind : Nat), .string x.text, v1], 92, none⟩ := by rw [hG2, hget_app0]; rfl
 have k2 : ∀ j, j < G1.length → hget G2 j = hget G1 j := fun j hj => by rw [hG2]; exact hget_left hj
 have hG2l : G2.length = G1.length + 1 := by rw [hG2]; simp
 rw [← hG2]
 clear hG2
 have hF1l := ho1.lt
 have ho2 : OwnF G2 v1 41 32 (kr x.keys) F1 := by
  rw [← ksC_kr]
  exact ho1.low (fun j hj => k2 j (hF1l j hj))
 have hT2 : RTblF G2 b tv sv Ft Fs F L := h.low (fun j hj => (k2 j (by have := hFb j hj; omega)).trans (hG1j j (hFb j hj))) (by omega)
 have g20 := (k2 H.length (by omega)).trans g10
 have lx2 := hget_lt gx2
 have hrow : tmRow v1 x = [.int .i64 (x.kind : Nat), .string x.text, v1] := rfl
 have hfd := rfind_ac (nro := nro) (γ := γ) hT2 (by omega) hx (kr_ksv ho2 hx.k32) (by omega)
 rw [hrow] at hfd
 refine aw_seq (aoo fun K hK => ?_)
 simp (disch := first | omega | (simp only [lnS]; try omega)) [gx2, lx2, -notTuple, n1, n2]
 refine ⟨by kernel_rfl, AC.mono hfd ?_⟩
 rintro _ G3 ⟨rfl, lw3⟩
 try simp (disch := first | omega | (simp only [lnS]; try omega)) []
 refine hK _ _ ?_; clear hK K
 have hl3 := lw3.2
 have gx3 := (lw3.1 _ lx2).trans gx2
 have g30 := (lw3.1 _ (hget_lt g20)).trans g20
 have hT3 : RTblF G3 b tv sv Ft Fs F L := hT2.low (fun j hj => lw3.1 j (by have := hFb j hj; omega)) (by omega)
 have hH3 : ∀ j, j < H.length → hget G3 j = hget H j := fun j hj => (lw3.1 j (by omega)).trans ((k2 j (by omega)).trans (hG1j j hj))
 have ho3 : OwnF G3 v1 41 32 (kr x.keys) F1 := ho2.low (fun j hj => lw3.1 j (by have := hF1l j hj; omega))
 clear hfd lw3 hT2 ho2 g20 gx2 lx2 k2 hap hk1 ho1 g10 g01 hxc hkl
 have lx3 := hget_lt gx3
 have l30 := hget_lt g30
 refine aw_seq (aw_seq ?_)
 unfold posI
 have hnm := fun (G : AH) (hle : nameT x (L.map (·.2)) ≤ L.length) => rname_rc (γ := γ) (H := G) (n := (nameT x (L.map (·.2)) : Nat)) ⟨by omega, by omega⟩
 have hnn : nro ≤ H.length := hnH
 cases hf : placeT x (L.map (·.2)) with
 | some i =>
  have hnm1 : nameT x (L.map (·.2)) = i := by unfold nameT; rw [hf]
  have had : addT x (L.map (·.2)) = L.map (·.2) := by unfold addT; rw [hf]
  have hil : i ≤ L.length := by
   have := (List.getElem?_eq_some_iff.1 (idxS_some hf)).1
   simp at this
   omega
  rw [hnm1] at hnm
  have h0 : ¬ ((i : Nat) : Int) < 0 := by omega
  (refine aoo fun K hK => ?_; simp (disch := first | omega | (simp only [lnS]; try omega)) [h0]; refine hK _ _ ?_; clear hK K)
  refine aw_f (by (first | (simp [h0]; done) | (simp [h0]; omega))) (by kernel_rfl) ?_
  refine aw_skip (aw_seq ?_)
  refine aoo fun K hK => ?_
  simp (disch := first | omega | (simp only [lnS]; try omega)) []
  refine ⟨by kernel_rfl, ac_of_rc (hnm _ hil) (by simp [pv_iv]) ?_⟩
  have lN : (nmL (i : Nat)).length = 32 := rfl
  obtain ⟨N, hN⟩ : ∃ N : List Int, N = nmL (i : Nat) := ⟨_, rfl⟩
  rw [← hN] at lN ⊢
  have htN : (iv .u8 N).take 32 = iv .u8 N := List.take_of_length_le (by simp [lN])
  have hsN : setR (iv .u8 (zl 32)) 0 (iv .u8 N) = iv .u8 N := setR_all _ _ (by simp [lN])
  have fin : RMkQ H b Ft Fs F L x (.agg (iv .u8 N).toArray) (G3.set H.length (some ⟨iv .u8 N, 41, none⟩)) := by
   refine ⟨by rw [hnm1, ← hN], by simp; omega, fun j hj _ _ _ => (hget_set_ne (by omega)).trans (hH3 j hj), tv, sv, Ft, Fs, F, L, hT3.low (fun j hj => hget_set_ne (by have := hFb j hj; omega)) (by simp), had.symm, fun j hj => .inl hj⟩
  try simp (disch := first | omega | (simp only [lnS]; try omega)) [lN, htN, hsN, g30, l30, hnn]
  refine hK _ _ ?_; clear hK K
  (refine aw_ret ?_; simp (disch := first | omega | (simp only [lnS]; try omega)) [thenQ_ret, scopeQ_ret, inBlockQ_ret, RQ, resL, resV, lN, htN, l30])
  exact fin
 | none =>
  have hnm1 : nameT x (L.map (·.2)) = L.length := by unfold nameT; rw [hf, List.length_map]
  have had : addT x (L.map (·.2)) = (L ++ [(v1, x)]).map (·.2) := by unfold addT; rw [hf]; simp
  rw [hnm1] at hnm
  have hF3 : ∀ j ∈ F1, j < G3.length ∧ j ≠ b ∧ j ∉ Ft ∧ j ∉ Fs := fun j hj => by
   have h1 := hF1 j hj
   have h2 := hF1l j hj
   refine ⟨by omega, by omega, fun e => ?_, fun e => ?_⟩
   ·have := hFb j (by simp [e]); omega
   ·have := hFb j (by simp [e]); omega
  have hadd := radd_ac (nro := nro) (γ := γ) hT3 (by omega) hnro hx (Fx := F1) (fun D hD => kr_ksv (ho3.low hD) hx.k32) hF3 (by omega)
  rw [hrow] at hadd
  (refine aoo fun K hK => ?_; simp (disch := first | omega | (simp only [lnS]; try omega)) []; refine hK _ _ ?_; clear hK K)
  refine aw_t (by (first | (simp; done) | (simp; omega))) (by kernel_rfl) ?_
  refine aw_seq (aoo fun K hK => ?_)
  simp (disch := first | omega | (simp only [lnS]; try omega)) [gx3, lx3, -notTuple, n1, n2]
  refine ⟨by kernel_rfl, AC.mono hadd ?_⟩
  rintro _ G4 ⟨rfl, hl4, hk4, tv', sv', Ft', Fs', hT4, hF4⟩
  try simp (disch := first | omega | (simp only [lnS]; try omega)) []
  refine hK _ _ ?_; clear hK K
  have hbH : H.length ≠ b := by omega
  have hHt : H.length ∉ Ft := fun e => by have := hFb _ (show H.length ∈ b :: (Ft ++ Fs ++ F) by simp [e]); omega
  have hHs : H.length ∉ Fs := fun e => by have := hFb _ (show H.length ∈ b :: (Ft ++ Fs ++ F) by simp [e]); omega
  have g40 := (hk4 H.length (by omega) hbH hHt hHs).trans g30
  have l40 := hget_lt g40
  have hgb4 := hT4.hb
  have hlb4 := hget_lt hgb4
  obtain ⟨_, htl4⟩ := hT4.slen
  have hlen : (L ++ [(v1, x)]).length = L.length + 1 := by simp
  rw [hlen] at htl4
  have ht4 := ownF_nt hT4.rows
  have ldt : xload Tryd.prog 30 (.pointer (some ⟨b, 0, none⟩)) G4 = some tv' := by simp [xload, hgb4]
  have hw : IntKind.i64.wrap (((L.length + 1 : Nat) : Int) - 1) = (L.length : Nat) := by
   rw [show ((L.length + 1 : Nat) : Int) - 1 = (L.length : Nat) by omega]
   exact w64 (by omega)
  (refine aoo fun K hK => ?_; simp (disch := first | omega | (simp only [lnS]; try omega)) [hgb4, hlb4, -xload, ldt, -notTuple, ht4.1, ht4.2, -xlen, htl4, hw]; refine hK _ _ ?_; clear hK K)
  refine aw_seq (aoo fun K hK => ?_)
  simp (disch := first | omega | (simp only [lnS]; try omega)) []
  refine ⟨by kernel_rfl, ac_of_rc (hnm _ (Nat.le_refl _)) (by simp [pv_iv]) ?_⟩
  have lN : (nmL (L.length : Nat)).length = 32 := rfl
  obtain ⟨N, hN⟩ : ∃ N : List Int, N = nmL (L.length : Nat) := ⟨_, rfl⟩
  rw [← hN] at lN ⊢
  have htN : (iv .u8 N).take 32 = iv .u8 N := List.take_of_length_le (by simp [lN])
  have hsN : setR (iv .u8 (zl 32)) 0 (iv .u8 N) = iv .u8 N := setR_all _ _ (by simp [lN])
  have hb4 := hT4.bound
  have fin : RMkQ H b Ft Fs F L x (.agg (iv .u8 N).toArray) (G4.set H.length (some ⟨iv .u8 N, 41, none⟩)) := by
   refine ⟨by rw [hnm1, ← hN], by simp; omega, fun j hj h1 h2 h3 => (hget_set_ne (by omega)).trans ((hk4 j (by omega) h1 h2 h3).trans (hH3 j hj)), tv', sv', Ft', Fs', F ++ F1, L ++ [(v1, x)], hT4.low (fun j hj => hget_set_ne (fun e => ?_)) (by simp), had.symm, fun j hj => ?_⟩
   ·rw [← e] at hj
    simp only [List.mem_cons, List.mem_append] at hj
    rcases hj with hj | (hj | hj) | hj | hj
    ·exact hbH hj
    ·have := hF4 _ (List.mem_append.2 (.inl hj)); omega
    ·have := hF4 _ (List.mem_append.2 (.inr hj)); omega
    ·have := hFb _ (show H.length ∈ b :: (Ft ++ Fs ++ F) by simp [hj]); omega
    ·have := hF1 _ hj; omega
   ·simp only [List.mem_append] at hj ⊢
    rcases hj with (hj | hj) | hj | hj
    ·have := hF4 _ (List.mem_append.2 (.inl hj)); exact .inr (by omega)
    ·have := hF4 _ (List.mem_append.2 (.inr hj)); exact .inr (by omega)
    ·exact .inl (.inr hj)
    ·have := hF1 _ hj; exact .inr (by omega)
  try simp (disch := first | omega | (simp only [lnS]; try omega)) [lN, htN, hsN, g40, l40, hnn]
  refine hK _ _ ?_; clear hK K
  (refine aw_ret ?_; simp (disch := first | omega | (simp only [lnS]; try omega)) [thenQ_ret, scopeQ_ret, inBlockQ_ret, RQ, resL, resV, lN, htN, l40])
  exact fin
end
section
def RLookQ (H : AH) (x : TermD) (v' : Value) (H' : AH) : Prop := ∃ kv, v' = .agg (tmRow kv x).toArray ∧ Low H.length H H' ∧ KsV H' kv x.keys
theorem num_at {T : List TermD} {k : List Int} (hb : By k) : (∃ (i : Nat) (y : TermD), T[i]? = some y ∧ numR T.length k = (i : Nat) ∧ lookT T k = y) ∨ (numR T.length k = -1 ∧ lookT T k = ⟨0, ⟨#[]⟩, [k]⟩) := by
 have hp0 : 0 ≤ plN k := by
  have b4 := hb.get 4
  have b5 := hb.get 5
  have b6 := hb.get 6
  have b7 := hb.get 7
  unfold plN
  omega
 unfold numR lookT findT
 by_cases h1 : nmL (plN k) = k
 ·by_cases h2 : plN k < T.length
  ·have hi : (plN k).toNat < T.length := by omega
   refine .inl ⟨(plN k).toNat, T[(plN k).toNat], List.getElem?_eq_getElem hi, ?_, ?_⟩
   ·rw [if_pos (by simp [h1, h2])]; omega
   ·rw [if_pos (by simp [h1, h2]), List.getElem?_eq_getElem hi]
  ·exact .inr ⟨by rw [if_neg (by simp [h2])], by rw [if_neg (by simp [h2])]⟩
 ·exact .inr ⟨by rw [if_neg (by simp [h1])], by rw [if_neg (by simp [h1])]⟩
theorem rlook_ac {nro : Nat} {γ : Nat → Option Nat} {H : AH} {b : Nat} {tv sv : Value} {Ft Fs F : List Nat} {L : List (Value × TermD)} (h : RTblF H b tv sv Ft Fs F L) (hnH : nro ≤ H.length) {k : List Int} (hk : k.length = 32) (hb : By k) :
  AC Tryd.prog nro γ 64 #[.pointer (some ⟨b, 0, none⟩), .agg (iv .u8 k).toArray] H (RLookQ H (lookT (L.map (·.2)) k)) := by
 obtain ⟨hsl, htl⟩ := h.slen
 have hs2 := ownF_nt h.rows
 have hFb := h.bound
 have hlb := hget_lt h.hb
 have htk : (iv .u8 k).take 32 = iv .u8 k := List.take_of_length_le (by simp [hk])
 have p1 : plain1 (.slice none 0 0) = true := rfl
 have r3 : List.range 3 = [0, 1, 2] := rfl
 have hrow1 : setR (List.map (fun j => (iv .u8 (zl 32))[j % 32]?.getD undef) (List.range 32)) 0 (iv .u8 k) = iv .u8 k := setR_all _ _ (by simp [hk])
 have hcase := num_at (T := L.map (·.2)) hb
 rw [List.length_map] at hcase
 obtain ⟨G0, hG0⟩ : ∃ G0 : AH, G0 = H ++ [some ⟨iv .u8 k, 41, none⟩, some ⟨[.int .i64 0, .string ByteArray.empty, .slice none 0 0], 92, none⟩] := ⟨_, rfl⟩
 have hT0 : RTblF G0 b tv sv Ft Fs F L := h.low (fun j hj => by rw [hG0]; exact hget_left (hFb j hj)) (by rw [hG0]; simp)
 have hgb0 := hT0.hb
 have ldt : xload Tryd.prog 30 (.pointer (some ⟨b, 0, none⟩)) G0 = some tv := by simp [xload, hgb0]
 have gk : hget G0 H.length = some ⟨iv .u8 k, 41, none⟩ := by rw [hG0, hget_app0]; rfl
 have gz : hget G0 (H.length + 1) = some ⟨[.int .i64 0, .string ByteArray.empty, .slice none 0 0], 92, none⟩ := by rw [hG0, hget_app]; rfl
 have lk := hget_lt gk
 have lz := hget_lt gz
 have hn1 : nro ≤ H.length + 1 := by omega
 refine ac_of_aw Tryd.func64 rfl Tryd.ntmps64 Tryd.results64 (by simp) ?_
 (refine aw_seq (aoo fun K hK => ?_); simp (disch := first | omega | (simp only [lnS]; try omega)) [-getElem?_pos, -getElem?_neg, htk]; refine hK _ _ ?_; clear hK K)
 rw [← hG0]
 have hG0l : G0.length = H.length + 2 := by rw [hG0]; simp
 have hG0j : ∀ j, j < H.length → hget G0 j = hget H j := fun j hj => by rw [hG0]; exact hget_left hj
 clear hG0
 have hnum := rnum_rc (γ := γ) (H := G0) hgb0 htl hs2.1 hs2.2 hk hb
 refine aw_seq (aoo fun K hK => ?_)
 simp (disch := first | omega | (simp only [lnS]; try omega)) [-getElem?_pos, -getElem?_neg, gk, lk, htk]
 refine ⟨by kernel_rfl, ac_of_rc hnum (by simp [pv_iv, pv_int, pv_bool, pv_string, pv_tup2, pv_tup3, iv_plain, p2_int, p2_bool, p2_string]) ?_⟩
 try simp (disch := first | omega | (simp only [lnS]; try omega)) [-getElem?_pos, -getElem?_neg]
 refine hK _ _ ?_; clear hK K
 generalize lookT (L.map (·.2)) k = y at *
 refine aw_seq (aw_seq ?_)
 rcases hcase with ⟨i, y', hi, hn, rfl⟩ | ⟨hn, rfl⟩
 ·rw [hn]
  rw [List.getElem?_map] at hi
  cases hp : L[i]? with
  | none => rw [hp] at hi; cases hi
  | some p =>
   rw [hp] at hi
   obtain rfl := Option.some.inj hi
   obtain ⟨kv, y⟩ := p
   have hym := List.mem_of_getElem? hp
   obtain ⟨a1, a2, a3, a4⟩ := hT0.at_ hp
   have hvy : KsV G0 kv y.keys := hT0.keys _ hym G0 (fun _ _ => rfl)
   obtain ⟨hnt2, hvc2⟩ := val_nt hvy
   simp only at a4
   have hrow2 : tmRow kv y = [.int .i64 (y.kind : Nat), .string y.text, kv] := rfl
   rw [hrow2] at a4
   have h0 : ¬ ((i : Nat) : Int) < 0 := by omega
   have fin : RLookQ H y (.agg (tmRow kv y).toArray) (G0.set (H.length + 1) (some ⟨[.int .i64 (y.kind : Nat), .string y.text, kv], 92, none⟩)) :=
    ⟨kv, rfl, ⟨fun j hj => (hget_set_ne (by omega)).trans (hG0j j hj), by simp; omega⟩, h.keys _ hym _ (fun j hj => (hget_set_ne (by have := h.lt j hj; omega)).trans (hG0j j (h.lt j hj)))⟩
   (refine aoo fun K hK => ?_; simp (disch := first | omega | (simp only [lnS]; try omega)) [-getElem?_pos, -getElem?_neg, h0]; refine hK _ _ ?_; clear hK K)
   refine aw_f (by (first | (simp [h0]; done) | (simp [h0]; omega))) (by kernel_rfl) ?_
   refine aw_skip (aw_seq ?_)
   (refine aoo fun K hK => ?_; simp (disch := first | omega | (simp only [lnS]; try omega)) [-getElem?_pos, -getElem?_neg, -notTuple, hs2.1, hs2.2, hnt2, hvc2, -xload, ldt, a4, -xindexAddr, a2, a3, gz, lz, hn1, p1, r3]; refine hK _ _ ?_; clear hK K)
   (refine aw_ret ?_; simp (disch := first | omega | (simp only [lnS]; try omega)) [-getElem?_pos, -getElem?_neg, thenQ_ret, scopeQ_ret, inBlockQ_ret, RQ, resL, resV, hnt2, hvc2, lz])
   exact fin
 ·rw [hn]
  (refine aoo fun K hK => ?_; simp (disch := first | omega | (simp only [lnS]; try omega)) [-getElem?_pos, -getElem?_neg]; refine hK _ _ ?_; clear hK K)
  refine aw_t (by (first | (simp; done) | (simp; omega))) (by kernel_rfl) ?_
  refine aw_seq ?_
  obtain ⟨G1, hG1⟩ : ∃ G1 : AH, G1 = G0 ++ [some ⟨iv .u8 k, 41, some 32⟩] := ⟨_, rfl⟩
  have gz1 : hget G1 (H.length + 1) = some ⟨[.int .i64 0, .string ByteArray.empty, .slice none 0 0], 92, none⟩ := by rw [hG1]; exact (hget_left lz).trans gz
  have lz1 := hget_lt gz1
  have gr : hget G1 G0.length = some ⟨iv .u8 k, 41, some 32⟩ := by rw [hG1, hget_app0]; rfl
  have fin : RLookQ H ⟨0, ⟨#[]⟩, [k]⟩ (.agg (tmRow (.slice (some ⟨G0.length, 0, none⟩) 1 1) ⟨0, ⟨#[]⟩, [k]⟩).toArray) (G1.set (H.length + 1) (some ⟨[.int .i64 0, .string ByteArray.empty, .slice (some ⟨G0.length, 0, none⟩) 1 1], 92, none⟩)) :=
   ⟨_, rfl, ⟨fun j hj => (hget_set_ne (by omega)).trans (by rw [hG1]; exact (hget_left (by omega)).trans (hG0j j hj)), by rw [List.length_set, hG1]; simp; omega⟩, keys1 hk ((hget_set_ne (by omega)).trans gr)⟩
  have lz2 : H.length + 1 < G0.length + 1 := by omega
  have hgs := hget_set_eq (x := some ⟨[.int .i64 0, .string ByteArray.empty, .slice (some ⟨G0.length, 0, none⟩) 1 1], 92, none⟩) lz1
  subst hG1
  (refine aoo fun K hK => ?_; simp (disch := first | omega | (simp only [lnS]; try omega)) [-getElem?_pos, -getElem?_neg, gk, lk, htk, hrow1, hn1, p1, r3, gz1, lz1, lz2, List.range_one]; refine hK _ _ ?_; clear hK K)
  (refine aw_ret ?_; simp (disch := first | omega | (simp only [lnS]; try omega)) [-getElem?_pos, -getElem?_neg, thenQ_ret, scopeQ_ret, inBlockQ_ret, RQ, resL, resV, lz1, lz2, hgs])
  rw [List.set_append_left _ _ lz] at fin
  exact fin
end
section
theorem RMkQ.up {H G A A' : AH} {b : Nat} {Ft Fs F : List Nat} {L : List (Value × TermD)} {x : TermD} {v : Value} (h : RMkQ G b Ft Fs F L x v A) (lw : Low H.length H G) (la : Low A.length A A') : RMkQ H b Ft Fs F L x v A' := by
 obtain ⟨h1, h2, h3, tv', sv', Ft', Fs', F', L', h4, h5, h6⟩ := h
 have e1 := lw.2
 have e2 := la.2
 exact ⟨h1, by omega, fun j hj a b c => (la.1 j (by omega)).trans ((h3 j (by omega) a b c).trans (lw.1 j hj)), tv', sv', Ft', Fs', F', L', h4.low (fun j hj => la.1 j (h4.bound j hj)) e2, h5, fun j hj => (h6 j hj).imp id (fun h => by omega)⟩
def RSealQ (H : AH) (b : Nat) (Ft Fs F : List Nat) (L : List (Value × TermD)) (x : TermD) (v' : Value) (H' : AH) : Prop :=
 v' = .string (strOfNums (nmL (nameT x (L.map (·.2)) : Nat))) ∧ RMkQ H b Ft Fs F L x (.agg (iv .u8 (nmL (nameT x (L.map (·.2)) : Nat))).toArray) H'
theorem rseal_ac {nro : Nat} {γ : Nat → Option Nat} {H : AH} {b : Nat} {tv sv : Value} {Ft Fs F : List Nat} {L : List (Value × TermD)} (h : RTblF H b tv sv Ft Fs F L) (hnH : nro ≤ H.length) (hnro : ∀ j ∈ b :: (Ft ++ Fs), nro ≤ j) {k y : List Int} (hk : k.length = 32) (hy : y.length = 32) {s : ByteArray} {ks : List (List Int)} (hx : TermD.Wf ⟨6, s, k :: y :: ks⟩) {v : Value} (hv : KsV H v ks) (hL : L.length ≤ 900000) :
  AC Tryd.prog nro γ 28 #[.pointer (some ⟨b, 0, none⟩), .agg (iv .u8 k).toArray, .agg (iv .u8 y).toArray, .string s, v] H (RSealQ H b Ft Fs F L ⟨6, s, k :: y :: ks⟩) := by
 unfold RSealQ
 obtain ⟨hnt, hvc⟩ := val_nt hv
 have hFb := h.bound
 have hlb := hget_lt h.hb
 have hks : ∀ z ∈ ks, z.length = 32 := fun z hz => hx.k32 z (by simp [hz])
 have hmany := hx.many
 have hmk : ks.length + 2 ≤ 1000000 := hmany
 have hstr : ∀ s, v ≠ .string s := fun s e => by
  have hv' : CD.Val H (.sl (ks.map kd)) v := hv
  generalize ks.map kd = rows at hv'
  rw [e] at hv'
  cases hv'
 have htk : (iv .u8 k).take 32 = iv .u8 k := List.take_of_length_le (by simp [hk])
 have hty : (iv .u8 y).take 32 = iv .u8 y := List.take_of_length_le (by simp [hy])
 have hrow2 : setR (setR (List.map (fun j => (iv .u8 (zl 32))[j % 32]?.getD undef) (List.range 64)) 0 (iv .u8 k)) 32 (iv .u8 y) = iv .u8 k ++ iv .u8 y := row2 (by simp) (by simp [hk]) (by simp [hy])
 obtain ⟨G0, hG0⟩ : ∃ G0 : AH, G0 = H ++ [some ⟨iv .u8 k, 41, none⟩, some ⟨iv .u8 y, 41, none⟩] := ⟨_, rfl⟩
 have gk : hget G0 H.length = some ⟨iv .u8 k, 41, none⟩ := by rw [hG0, hget_app0]; rfl
 have gy : hget G0 (H.length + 1) = some ⟨iv .u8 y, 41, none⟩ := by rw [hG0, hget_app]; rfl
 have hG0l : G0.length = H.length + 2 := by rw [hG0]; simp
 have hG0j : ∀ j, j < H.length → hget G0 j = hget H j := fun j hj => by rw [hG0]; exact hget_left hj
 have lk := hget_lt gk
 have ly := hget_lt gy
 obtain ⟨R, hR⟩ : ∃ R : Option Blk, R = some ⟨iv .u8 k ++ iv .u8 y, 41, some 32⟩ := ⟨_, rfl⟩
 have hxc : xcells 32 (.slice (some ⟨G0.length, 0, none⟩) 2 2) (G0 ++ [R]) = some (iv .u8 k ++ iv .u8 y) := by
  have ht : (iv .u8 k ++ iv .u8 y).take 64 = iv .u8 k ++ iv .u8 y := List.take_of_length_le (by simp [hk, hy])
  rw [hR]
  simp [xcells, hget_app0, hk, hy, ht]
 obtain ⟨v1, G1, F1, hap, ho1, hl1, hk1, hF1⟩ := ownF_appQ (P := Tryd.prog) (nro := nro) (t := 34) (e := 41) (H := G0 ++ [R]) (v := .slice none 0 0) (x := .slice (some ⟨G0.length, 0, none⟩) 2 2) (sz := 32) (cells := []) (news := iv .u8 k ++ iv .u8 y) (F := []) (by kernel_rfl) (by kernel_rfl) (by omega) (by kernel_rfl)
  (.inl ⟨rfl, rfl, rfl⟩) (fun j hj => by cases hj) (fun s e => by cases e) hxc (by simp [hk, hy]) (by show (0 + (iv .u8 k ++ iv .u8 y).length) * byt Tryd.prog 41 ≤ _; rw [show byt Tryd.prog 41 = 32 by kernel_rfl]; simp [hk, hy]) (by simp [hk, hy, maxLen])
 have hRl : (G0 ++ [R]).length = G0.length + 1 := by simp
 rw [hRl] at hl1 hk1 hF1
 have hG1j : ∀ j, j < H.length → hget G1 j = hget H j := fun j hj => (hk1 j (by omega) (by simp)).trans ((hget_left (by omega)).trans (hG0j j hj))
 have hv1 : KsV G1 v ks := CD.Val.low (fun j hj => hG1j j hj) hv
 have hxc2 : xcells 32 v G1 = some (ksC ks) := val_cells (by omega) hv1 (kd_len hks) (kd_flat _)
 have hkl := ksC_len hks
 have hF1l := ho1.lt
 obtain ⟨v2, G2, F2, hap2, ho2, hl2, hk2, hF2⟩ := ownF_appQ (P := Tryd.prog) (nro := nro) (t := 34) (e := 41) (H := G1) (v := v1) (x := v) (sz := 32) (cells := [] ++ (iv .u8 k ++ iv .u8 y)) (news := ksC ks) (F := F1) (by kernel_rfl) (by kernel_rfl) (by omega) (by kernel_rfl)
  ho1 (fun j hj => by have := hF1 j hj; omega) hstr hxc2 (by rw [hkl]; omega) (by rw [hkl]; simp only [List.nil_append, List.length_append, iv_length, hk, hy]; rw [show byt Tryd.prog 41 = 32 by kernel_rfl]; omega) (by rw [hkl]; simp only [List.nil_append, List.length_append, iv_length, hk, hy, maxLen]; omega)
 have hG2j : ∀ j, j < H.length → hget G2 j = hget H j := fun j hj => (hk2 j (by omega) (fun e => by have := hF1 j e; omega)).trans (hG1j j hj)
 have lw2 : Low H.length H G2 := ⟨hG2j, by omega⟩
 have hv2 : KsV G2 v2 (k :: y :: ks) := kr_ksv (F := F2) (by rw [show kr (k :: y :: ks) = [] ++ (iv .u8 k ++ iv .u8 y) ++ ksC ks by rw [ksC_kr]; simp [kr]]; exact ho2) hx.k32
 have hmk := rmake_ac (nro := nro) (γ := γ) (h.low (fun j hj => hG2j j (hFb j hj)) (by omega)) (by omega) hnro hx hv2 hL
 obtain ⟨n1, n2⟩ := ownF_nt ho1
 obtain ⟨n3, n4⟩ := ownF_nt ho2
 subst hR
 clear hxc hxc2
 refine ac_of_aw Tryd.func28 rfl Tryd.ntmps28 Tryd.results28 (by simp) ?_
 (refine aw_seq (aoo fun K hK => ?_); simp (disch := first | omega | (simp only [lnS]; try omega)) [-getElem?_pos, -getElem?_neg, htk, hty]; refine hK _ _ ?_; clear hK K)
 rw [← hG0]
 clear hG0
 (refine aw_seq (aoo fun K hK => ?_); simp (disch := first | omega | (simp only [lnS]; try omega)) [-getElem?_pos, -getElem?_neg]; refine hK _ _ ?_; clear hK K)
 (refine aw_seq (aoo fun K hK => ?_); simp (disch := first | omega | (simp only [lnS]; try omega)) [-getElem?_pos, -getElem?_neg, gk, gy, lk, ly, htk, hty, hrow2, -notTuple, n1, n2, -xappend, hap]; refine hK _ _ ?_; clear hK K)
 (refine aw_seq (aoo fun K hK => ?_); simp (disch := first | omega | (simp only [lnS]; try omega)) [-getElem?_pos, -getElem?_neg, -notTuple, hnt, hvc, n1, n2, n3, n4, -xappend, hap2]; refine hK _ _ ?_; clear hK K)
 refine aw_seq (aoo fun K hK => ?_)
 simp (disch := first | omega | (simp only [lnS]; try omega)) [-getElem?_pos, -getElem?_neg, -notTuple, n3, n4]
 refine ⟨by kernel_rfl, AC.mono hmk ?_⟩
 intro v3 G3 hQ
 have hv3 := hQ.1
 have hn3 : nro ≤ G3.length := by have := hQ.2.1; omega
 have fin := fun (N : AH) => hQ.up lw2 (A' := G3 ++ N) (Low.push (Nat.le_refl _) N)
 subst hv3
 have lN : (nmL (nameT ⟨6, s, k :: y :: ks⟩ (L.map (·.2)) : Nat)).length = 32 := rfl
 generalize nmL (nameT ⟨6, s, k :: y :: ks⟩ (L.map (·.2)) : Nat) = N at *
 have htN : (iv .u8 N).take 32 = iv .u8 N := List.take_of_length_le (by simp [lN])
 have hsN : setR (iv .u8 (zl 32)) 0 (iv .u8 N) = iv .u8 N := setR_all _ _ (by simp [lN])
 try simp (disch := first | omega | (simp only [lnS]; try omega)) [-getElem?_pos, -getElem?_neg, hn3, lN, htN, hsN]
 refine hK _ _ ?_; clear hK K
 refine aw_seq ?_
 have hbl := byteList_iv N
 (refine aoo fun K hK => ?_; simp (disch := first | omega | (simp only [lnS]; try omega)) [-getElem?_pos, -getElem?_neg, lN, htN, hbl]; refine hK _ _ ?_; clear hK K)
 (refine aw_ret ?_; simp (disch := first | omega | (simp only [lnS]; try omega)) [-getElem?_pos, -getElem?_neg, thenQ_ret, scopeQ_ret, inBlockQ_ret, RQ, resL, resV])
 exact fin _
end
section
theorem rmark1_ac {nro : Nat} {γ : Nat → Option Nat} {H : AH} {b : Nat} {tv sv : Value} {Ft Fs F : List Nat} {L : List (Value × TermD)} (h : RTblF H b tv sv Ft Fs F L) (hnH : nro ≤ H.length) (hnro : ∀ j ∈ b :: (Ft ++ Fs), nro ≤ j) {s : ByteArray} (hs1 : s.size ≤ 10000000) (h32 : ¬ s.size = 32) (hL : L.length ≤ 900000) :
  AC Tryd.prog nro γ 35 #[.pointer (some ⟨b, 0, none⟩), .string s] H (RMkQ H b Ft Fs F L ⟨2, tmBox ++ s, []⟩) := by
 have hs9 : s.size ≤ 9223372036854775807 := by omega
 have hFb := h.bound
 have hb32 : ((s.size : Int) == 32) = false := by rw [beq_eq_false_iff_ne]; omega
 have hi32 : ¬ (s.size : Int) = 32 := by omega
 have hba : (⟨#[98, 111, 120]⟩ : ByteArray).size + s.size ≤ 9223372036854775807 := by show 3 + s.size ≤ _; omega
 have hbs : (tmBox ++ s).size ≤ 100000000 := by rw [ByteArray.size_append]; show 3 + s.size ≤ _; omega
 have hbx : (⟨#[98, 111, 120]⟩ : ByteArray) ++ s = tmBox ++ s := rfl
 generalize tmBox ++ s = t at *
 have hx : TermD.Wf ⟨2, t, []⟩ := ⟨(by show 2 ≤ 6; omega), hbs, fun y hy => (by cases hy), fun y hy => (by cases hy), (by show 0 ≤ 1000000; omega), fun h => (by cases h), fun h => (by cases h), fun h => (by cases h)⟩
 have lw0 : Low H.length H (H ++ [some ⟨iv .u8 (zl 32), 41, none⟩]) := Low.push (Nat.le_refl _) _
 have hmk := rmake_ac (nro := nro) (γ := γ) (H := H ++ [some ⟨iv .u8 (zl 32), 41, none⟩]) (h.low (fun j hj => hget_left (hFb j hj)) (by simp)) (by simp; omega) hnro hx (v := .slice none 0 0) (kr_ksv (F := []) (.inl ⟨rfl, rfl, rfl⟩) (fun y hy => by cases hy)) hL
 have hlb := hget_lt h.hb
 have hbH : H.length ≠ b := by omega
 have hHt : H.length ∉ Ft := fun e => by have := hFb _ (show H.length ∈ b :: (Ft ++ Fs ++ F) by simp [e]); omega
 have hHs : H.length ∉ Fs := fun e => by have := hFb _ (show H.length ∈ b :: (Ft ++ Fs ++ F) by simp [e]); omega
 have hHF : H.length ∉ F := fun e => by have := hFb _ (show H.length ∈ b :: (Ft ++ Fs ++ F) by simp [e]); omega
 refine ac_of_aw Tryd.func35 rfl Tryd.ntmps35 Tryd.results35 (by simp) ?_
 (refine aw_seq (aoo fun K hK => ?_); simp (disch := first | omega | (simp only [lnS]; try omega)) []; refine hK _ _ ?_; clear hK K)
 refine aw_seq (aw_seq ?_)
 (refine aoo fun K hK => ?_; simp (disch := first | omega | (simp only [lnS]; try omega)) [hs9, hi32, hb32]; refine hK _ _ ?_; clear hK K)
 refine aw_t (by (first | (simp; done) | (simp; omega))) (by kernel_rfl) ?_
 refine aw_seq (aoo fun K hK => ?_)
 simp (disch := first | omega | (simp only [lnS]; try omega)) [hs9, hba, hbx]
 refine ⟨by kernel_rfl, AC.mono hmk ?_⟩
 intro v3 G3 hQ
 obtain ⟨hv3, hl3, hk3, tv', sv', Ft', Fs', F', L', hT3, hL3, hF3⟩ := hQ
 have hl3' : H.length + 1 ≤ G3.length := by simpa using hl3
 have g3 : hget G3 H.length = some ⟨iv .u8 (zl 32), 41, none⟩ := (hk3 H.length (by simp) hbH hHt hHs).trans (by rw [hget_app0]; rfl)
 have l3 := hget_lt g3
 have hn3 : nro ≤ H.length := hnH
 have hF4 : H.length ∉ b :: (Ft' ++ Fs' ++ F') := fun e => by
  rcases List.mem_cons.1 e with e | e
  ·exact hbH e
  ·rcases hF3 _ e with e | e
   ·simp only [List.mem_append] at e
    rcases e with (e | e) | e
    ·exact hHt e
    ·exact hHs e
    ·exact hHF e
   ·simp at e
 have fin : RMkQ H b Ft Fs F L ⟨2, t, []⟩ v3 (G3.set H.length (some ⟨iv .u8 (nmL (nameT ⟨2, t, []⟩ (L.map (·.2)) : Nat)), 41, none⟩)) :=
  ⟨hv3, by simp; omega, fun j hj a b c => (hget_set_ne (by omega)).trans ((hk3 j (by simp; omega) a b c).trans (hget_left hj)), tv', sv', Ft', Fs', F', L', hT3.low (fun j hj => hget_set_ne (fun e => hF4 (e ▸ hj))) (by simp), hL3, fun j hj => (hF3 j hj).imp id (fun h => by simp at h; omega)⟩
 subst hv3
 have lN : (nmL (nameT ⟨2, t, []⟩ (L.map (·.2)) : Nat)).length = 32 := rfl
 generalize nmL (nameT ⟨2, t, []⟩ (L.map (·.2)) : Nat) = N at *
 have htN : (iv .u8 N).take 32 = iv .u8 N := List.take_of_length_le (by simp [lN])
 have hsN : setR (iv .u8 (zl 32)) 0 (iv .u8 N) = iv .u8 N := setR_all _ _ (by simp [lN])
 try simp (disch := first | omega | (simp only [lnS]; try omega)) [hn3, lN, htN, hsN, g3, l3]
 refine hK _ _ ?_; clear hK K
 (refine aw_ret ?_; simp (disch := first | omega | (simp only [lnS]; try omega)) [thenQ_ret, scopeQ_ret, inBlockQ_ret, RQ, resL, resV, lN, htN, l3])
 exact fin
theorem rmark0_ac {nro : Nat} {γ : Nat → Option Nat} {H : AH} {p : Value} (hnH : nro ≤ H.length) {s : ByteArray} (h32 : s.size = 32) (hp : notTuple p = true) :
  AC Tryd.prog nro γ 35 #[p, .string s] H (fun v' H' => v' = .agg (iv .u8 (nums s)).toArray ∧ Low H.length H H') := by
 obtain ⟨N, hN⟩ : ∃ N : List Int, N = nums s := ⟨_, rfl⟩
 have lN : N.length = 32 := by rw [hN, nums_len, h32]
 have hgb : ∀ i, gb s i = N.getD i 0 := fun i => by
  have := gb_sn (l := nums s) (nums_bd s) i
  rw [of_nums'] at this
  rw [hN]; exact this
 rw [← hN]
 clear hN
 have hs9 : s.size ≤ 9223372036854775807 := by omega
 have hb32 : ((s.size : Int) == 32) = true := by rw [h32]; rfl
 have hi32 : (s.size : Int) = 32 := by rw [h32]; rfl
 have htN : (iv .u8 N).take 32 = iv .u8 N := List.take_of_length_le (by simp [lN])
 have hsN : setR (iv .u8 (zl 32)) 0 (iv .u8 N) = iv .u8 N := setR_all _ _ (by simp [lN])
 have hn1 : nro ≤ H.length + 1 := by omega
 refine ac_of_aw Tryd.func35 rfl Tryd.ntmps35 Tryd.results35 (by simp) ?_
 (refine aw_seq (aoo fun K hK => ?_); simp (disch := first | omega | (simp only [lnS]; try omega)) []; refine hK _ _ ?_; clear hK K)
 refine aw_seq (aw_seq ?_)
 (refine aoo fun K hK => ?_; simp (disch := first | omega | (simp only [lnS]; try omega)) [hs9, hb32, hi32]; refine hK _ _ ?_; clear hK K)
 refine aw_f (by (first | (simp; done) | (simp; omega))) (by kernel_rfl) ?_
 refine aw_skip (aw_seq ?_)
 (refine aoo fun K hK => ?_; simp (disch := first | omega | (simp only [lnS]; try omega)) []; refine hK _ _ ?_; clear hK K)
 refine aw_seq (aw_seq ?_)
 (refine aoo fun K hK => ?_; simp (disch := first | omega | (simp only [lnS]; try omega)) []; refine hK _ _ ?_; clear hK K)
 refine aw_block ?_
 refine aw_loop (fun q α G => ∃ i : Nat, i + q = 32 ∧ α 1 = .string s ∧ α 4 = .pointer (some ⟨H.length, 0, none⟩) ∧ α 5 = .pointer (some ⟨H.length + 1, 0, none⟩) ∧ α 6 = .int .i64 (i : Nat) ∧ G = H ++ [some ⟨iv .u8 (zl 32), 41, none⟩, some ⟨iv .u8 (N.take i ++ zl (32 - i)), 41, none⟩]) 32 ?_ ?_
 ·exact ⟨0, by omega, by (first | (simp; done) | rfl), by (first | (simp; done) | rfl), by (first | (simp; done) | rfl), by (first | (simp; done) | rfl), rfl⟩
 rintro q α G ⟨i, hiq, h1, h4, h5, h6, rfl⟩
 refine aw_seq (aw_seq ?_)
 by_cases hi : i < 32
 ·have hnx := set_next N 32 i lN hi
  have hfl := fill_len N 32 i lN (by omega)
  have hg := hgb i
  generalize N.getD i 0 = z at *
  have hset : (iv .u8 (N.take i ++ zl (32 - i))).set i (.int .u8 z) = iv .u8 (N.take (i + 1) ++ zl (32 - (i + 1))) := by rw [← hnx]; simp [iv]
  generalize N.take i ++ zl (32 - i) = A at *
  have hsi : (i : Int) < s.size := by omega
  (refine aoo fun K hK => ?_; simp (disch := first | omega | (simp only [lnS]; try omega)) [h6, hi]; refine hK _ _ ?_; clear hK K)
  refine aw_t (by (first | (simp [hi]; done) | (simp [hi]; omega))) (by kernel_rfl) ?_
  refine aw_skip (aw_seq ?_)
  refine aw_block ?_
  (refine aoo fun K hK => ?_; simp (disch := first | omega | (simp only [lnS]; try omega)) [h1, h5, h6, h32, hsi, hi, hg, hfl, hset, hn1]; refine hK _ _ ?_; clear hK K)
  (refine aoo fun K hK => ?_; simp (disch := first | omega | (simp only [lnS]; try omega)) [h6]; refine hK _ _ ?_; clear hK K)
  exact ⟨q - 1, by omega, i + 1, by omega, by (first | (simp [h1]; done) | rfl), by (first | (simp [h4]; done) | rfl), by (first | (simp [h5]; done) | rfl), by (first | (simp; done) | rfl), by rw [show 32 - (i + 1) = 31 - i by omega]⟩
 ·obtain rfl : i = 32 := by omega
  have e : N.take 32 ++ zl (32 - 32) = N := by
   rw [List.take_of_length_le (by omega)]
   simp [zl]
  rw [e]
  (refine aoo fun K hK => ?_; simp (disch := first | omega | (simp only [lnS]; try omega)) [h6]; refine hK _ _ ?_; clear hK K)
  refine aw_f (by (first | (simp; done) | (simp; omega))) (by kernel_rfl) ?_
  refine aw_exit (aw_seq ?_)
  (refine aoo fun K hK => ?_; simp (disch := first | omega | (simp only [lnS]; try omega)) [h4, h5, htN, hsN, lN, hnH]; refine hK _ _ ?_; clear hK K)
  (refine aw_ret ?_; simp (disch := first | omega | (simp only [lnS]; try omega)) [thenQ_ret, scopeQ_ret, inBlockQ_ret, RQ, resL, resV, h4, htN, lN])
  exact Low.push (Nat.le_refl _) _
end
end
end Go.Proofs.YtlaglpnbmkoakaaDoor
