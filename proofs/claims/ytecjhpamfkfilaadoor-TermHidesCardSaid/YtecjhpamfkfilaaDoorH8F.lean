/-
  Table: Seal.
  Table.Open; the law's key.
  The law's key of a text.
  The law's alive.
  Table: Agree with a public key.
  Two who know one another's public keys: their table, and what follows.
  TermMeets: two who know one another's public keys.
  TermMeets, whole.
  What a hash and a box hide: their table, and what follows.
  TermHides: what a hash and a box hide.
  TermHides, whole.
-/
import Derived.Test.YtecjhpamfkfilaaDoorH8E
import Derived.Test.YtecjhpamfkfilaaDoorH8C
namespace Go.Proofs.YtecjhpamfkfilaaDoor
open Go Go.RowKit
set_option linter.unusedSimpArgs false
set_option linter.unusedVariables false
set_option maxRecDepth 100000
set_option maxHeartbeats 4000000
section
theorem TermQ.down {H H2 G A : AH} {b : Nat} {F : List Nat} {T : List TermD} {x : TermD} {v v2 : Value} (h : TermQ H2 b F T x v G) (lw : Low H.length H H2) (hF : ∀ j ∈ F, j < H.length) (hv : v2 = v) (hA : G.length ≤ A.length) (hk : ∀ j, j < G.length → hget A j = hget G j) : TermQ H b F T x v2 A := by
 subst hv
 obtain ⟨h0, h2, h3, F', h4, h5⟩ := h
 have hle := lw.2
 refine ⟨h0, by omega, fun j hj hn => (hk j (by omega)).trans ((h3 j (by omega) hn).trans (lw.1 j hj)), F', h4.low (fun j hj => hk j (h4.bound j hj)) hA, fun j hj => ?_⟩
 rcases h5 j hj with h | h
 ·exact .inl h
 ·exact .inr (by omega)
def SealQ (H : AH) (b : Nat) (F : List Nat) (T : List TermD) (x : TermD) (v' : Value) (H' : AH) : Prop :=
 v' = .string (strOfNums (nmL (nameT x T))) ∧ TermQ H b F T x (.agg (iv .u8 (nmL (nameT x T))).toArray) H'
theorem wf_seal {s : ByteArray} (hs : s.size ≤ 100000000) {k y : List Int} {ks : List (List Int)} (hk : k.length = 32) (hbk : By k) (hy : y.length = 32) (hby : By y) (hks : ∀ z ∈ ks, z.length = 32 ∧ By z) (hm : ks.length ≤ 999998) : TermD.Wf ⟨6, s, k :: y :: ks⟩ := by
 refine ⟨(by show 6 ≤ 6; omega), hs, fun z hz => ?_, fun z hz => ?_, (by show ks.length + 2 ≤ 1000000; omega), fun h => (by cases h), fun h => (by cases h), fun _ => (by show 2 ≤ ks.length + 2; omega)⟩
 ·simp only [List.mem_cons] at hz
  rcases hz with rfl | rfl | hz
  ·exact hk
  ·exact hy
  ·exact (hks z hz).1
 ·simp only [List.mem_cons] at hz
  rcases hz with rfl | rfl | hz
  ·exact hbk
  ·exact hby
  ·exact (hks z hz).2
attribute [local simp] wb_bool wb_undef with_lit XL_nil XL_cons XLc_val XLc_call step1_eq stepW_t stepW_f stepC_n stepC_s stepX_s stepX_n stepN_s calleeX xrecv oneV xop_eq xopR_s xopR_n wantedA_eq wantedG_n wantedG_s plain1_int plain1_bool plain1_string bits_i64 bits_u64 bits_u32 bits_u16 bits_u8 xeqA xagg xcmp xarr allK_iv num_iv calleeOf xread xeff xbin xint xnil xun xstr xload xconv xpart xfield xfieldAddr xindexAddr xindex bnd asInt? xslice xlen xmin xmax xbuild xfill xappend xapp2 xappstr xappmk xcap xcopy xcells eval_tmp eval_const put_at put_none fr0_at cells_agg cells_int cells_bool cells_string cells_ptr cells_slice notTuple tab iv_all hget_app hget_app0 hget_cons0 hget_cons set_app set_app0 setR setR_one QL_nil QL_cons QLc_val stepQ_t stepQ_f stepQC_n stepQC_s stepQX_s SL_nil SL_cons SLc_val stepS_t stepS_f ltT ltF leT leF eqT eqF ltTn ltFn leTn leFn eqTn eqFn beqT beqF bneT bneF wi64 wu64 wu32 wu16 wu8 tmodP tdivP hgetL hgetNe hgetEq setL nums_def nums_len Nat.succ_le_of_lt List.getElem?_cons_zero List.getElem?_cons_succ Option.getD_some Int.toNat_add Int.toNat_mul agM okM agB agI agS agP agL agA okB okI okS okP okSl okA
theorem seal_ac {nro : Nat} {γ : Nat → Option Nat} {H : AH} (hpw : Pw γ H) {b : Nat} {F : List Nat} {T : List TermD} (h : Tbl H b F T) (hnro : ∀ j ∈ F, nro ≤ j) (hnH : nro ≤ H.length) {k y : List Int} (hk : k.length = 32) (hy : y.length = 32) {s : ByteArray} {ks : List (List Int)} (hx : TermD.Wf ⟨6, s, k :: y :: ks⟩) {v : Value} (hK : KsV H v ks) (hT : T.length ≤ 1000000) :
  AC Tryd.prog nro γ 18 #[.pointer (some ⟨b, 0, none⟩), .agg (iv .u8 k).toArray, .agg (iv .u8 y).toArray, .string s, v] H (SealQ H b F T ⟨6, s, k :: y :: ks⟩) := by
 unfold SealQ
 have hFl := h.bound
 have hv := val_nt hK
 have k32 : K32 ks := fun z hz => hx.k32 z (by simp [hz])
 have hkm : ks.length ≤ 1000000 := by have := hx.many; simp at this; omega
 have htk : (iv .u8 k).take 32 = iv .u8 k := List.take_of_length_le (by simp [hk])
 have hty : (iv .u8 y).take 32 = iv .u8 y := List.take_of_length_le (by simp [hy])
 have hrow : setR (setR (List.map (fun j => (iv .u8 (zl 32))[j % 32]?.getD undef) (List.range 64)) 0 (iv .u8 k)) 32 (iv .u8 y) = iv .u8 k ++ iv .u8 y := row2 (by simp) (by simp [hk]) (by simp [hy])
 obtain ⟨N4, hN4⟩ : ∃ N4 : AH, N4 = [some ⟨iv .u8 k, 28, none⟩, some ⟨iv .u8 y, 28, none⟩, some ⟨iv .u8 k ++ iv .u8 y, 28, some 32⟩, some ⟨[.slice (some ⟨H.length + 2, 0, none⟩) 2 2, v], 33, some 1⟩] := ⟨_, rfl⟩
 have g2 : hget (H ++ N4) (H.length + 2) = some ⟨iv .u8 k ++ iv .u8 y, 28, some 32⟩ := by rw [hget_app, hN4]; rfl
 have g3 : hget (H ++ N4) (H.length + 3) = some ⟨[.slice (some ⟨H.length + 2, 0, none⟩) 2 2, v], 33, some 1⟩ := by rw [hget_app, hN4]; rfl
 have hlN : (H ++ N4).length = H.length + 4 := by rw [hN4]; simp
 have hcc := concatK_ac (nro := nro) (γ := γ) (H := H ++ N4) (v := undef) (j := H.length + 3) (xs := [.slice (some ⟨H.length + 2, 0, none⟩) 2 2, v]) (L := [[k, y], ks]) (fun l hl => by
   simp only [List.mem_cons, List.not_mem_nil, or_false] at hl
   rcases hl with rfl | rfl
   ·intro z hz
    simp only [List.mem_cons, List.not_mem_nil, or_false] at hz
    rcases hz with rfl | rfl
    ·exact hk
    ·exact hy
   ·exact k32) g3 rfl (fun i x c hx1 hc1 => by
   match i, hx1, hc1 with
   | 0, hx1, hc1 =>
    cases hx1
    cases hc1
    exact (keys2 hk hy g2).part (fun z hz => by
     simp only [List.mem_cons, List.not_mem_nil, or_false] at hz
     rcases hz with rfl | rfl
     ·exact hk
     ·exact hy)
   | 1, hx1, hc1 =>
    cases hx1
    cases hc1
    have hK2 : KsV (H ++ N4) v ks := CD.Val.low (fun j hj => hget_left hj) hK
    exact hK2.part k32
   | i + 2, hx1, hc1 => simp at hx1) (by simp [sumK]; omega) (by simp) (by omega)
 have hfl : [[k, y], ks].flatten = k :: y :: ks := by simp
 rw [hfl] at hcc
 rw [hN4] at hcc
 have r2 : List.range 2 = [0, 1] := rfl
 have p1 : plain1 (.slice none 0 0) = true := rfl
 refine ac_of_aw Tryd.func18 rfl Tryd.ntmps18 Tryd.results18 (by simp) ?_
 refine aw_seq ?_
 (refine aw_ops (by kernel_rfl) (fun K hK => ?_); simp (disch := first | omega | (simp only [lnS]; try omega)) [-getElem?_pos, -getElem?_neg, htk, hty]; refine hK _ _ ?_; clear hK K)
 refine aw_seq ?_
 refine aw_ops (by kernel_rfl) (fun K hK => ?_)
 simp (disch := first | omega | (simp only [lnS]; try omega)) [-getElem?_pos, -getElem?_neg, htk, hty, hrow, r2, p1, -notTuple, hv.1, hv.2, nt_aggG, nt_slG]
 refine ⟨by kernel_rfl, AC.mono hcc ?_⟩
 rintro v1 G ⟨ho, hlG, hkG⟩
 rw [← hN4] at ho hlG hkG
 have lwG : Low H.length H G := ⟨fun j hj => (hkG j (by omega)).trans (hget_left hj), by omega⟩
 have hvn := ho.nt
 have htm := term_ac (nro := nro) (γ := γ) (hpw.low lwG) (h.low (fun j hj => lwG.1 j (hFl j hj)) lwG.2) hnro (by omega) hx (v := v1) (fun D hD hj => by
  have : OwnK (H ++ N4).length D v1 (k :: y :: ks) := ho.low (fun j h1 h2 => hj j h2 (fun e => by have := hFl j e; omega))
  exact own_ksv this hx.k32) hT
 try simp (disch := first | omega | (simp only [lnS]; try omega)) [-getElem?_pos, -getElem?_neg, -notTuple, hvn.1, hvn.2]
 refine ⟨by kernel_rfl, AC.mono htm ?_⟩
 intro v2 G3 hQ
 have hl3 : H.length ≤ G3.length := by have := hQ.2.1; omega
 have hn3 : nro ≤ G3.length := by omega
 have hdn := fun (A : AH) => hQ.down (A := A) lwG hFl rfl
 obtain rfl := hQ.1
 have lN : (nmL (nameT ⟨6, s, k :: y :: ks⟩ T)).length = 32 := rfl
 generalize nmL (nameT ⟨6, s, k :: y :: ks⟩ T) = N at *
 have ht : (iv .u8 N).take 32 = iv .u8 N := List.take_of_length_le (by simp [lN])
 have hs : setR (iv .u8 (zl 32)) 0 (iv .u8 N) = iv .u8 N := setR_all _ _ (by simp [lN])
 try simp (disch := first | omega | (simp only [lnS]; try omega)) [-getElem?_pos, -getElem?_neg, hn3, lN, ht, hs]
 refine hK _ _ ?_; clear hK K
 refine aw_seq ?_
 have hbl := byteList_iv N
 (refine aw_ops (by kernel_rfl) (fun K hK => ?_); simp (disch := first | omega | (simp only [lnS]; try omega)) [-getElem?_pos, -getElem?_neg, lN, ht, hbl]; refine hK _ _ ?_; clear hK K)
 (refine aw_ret ?_; simp (disch := first | omega | (simp only [lnS]; try omega)) [-getElem?_pos, -getElem?_neg, thenQ_ret, scopeQ_ret, inBlockQ_ret, RQ, resL, resV])
 exact hdn _ (by simp) (fun j hj => hget_left hj)
end
section
def openT (T : List TermD) (k y : List Int) (box : ByteArray) : Option (ByteArray × List (List Int)) :=
 if box.size = 32 then (match findT T (nums box) with
  | some x => if x.kind = 6 ∧ k0 x = k ∧ k1 x = y then some (x.text, x.keys.drop 2) else none
  | none => none) else none
def OpenQ (H : AH) (T : List TermD) (k y : List Int) (box : ByteArray) (v' : Value) (H' : AH) : Prop :=
 Low H.length H H' ∧ match openT T k y box with
  | none => v' = .tuple #[.string ⟨#[]⟩, .slice none 0 0, .bool false]
  | some (s, ks) => ∃ kv, v' = .tuple #[.string s, kv, .bool true] ∧ OwnK H.length H' kv ks
theorem OwnK.less {lo lo' : Nat} {H : AH} {v : Value} {ks : List (List Int)} (h : OwnK lo H v ks) (hl : lo' ≤ lo) : OwnK lo' H v ks := by
 rcases h with h | ⟨j, cs, h1, h2⟩
 ·exact .inl h
 ·exact .inr ⟨j, cs, by omega, h2⟩
theorem PartK.keep {H H' : AH} {lo lo' : Nat} {x : Value} {ks : List (List Int)} (h : PartK H lo x ks) (hl : lo ≤ lo') (hg : ∀ j, j < lo → hget H' j = hget H j) : PartK H' lo' x ks :=
 ⟨h.1, fun G hG => h.2 G (fun j hj => (hG j (by omega)).trans (hg j hj))⟩
def opJD : List Nat := [48, 49, 50, 51, 52, 53, 8, 9, 10]
def opJP : List (List Nat) := [[], [0], [], [2], [3], [4], [1], [5], []]
def opJV (gl lo : Nat) (st : ByteArray) (kv sv : Value) (ds : List (List Int)) (G : AH) (i : Nat) (v : Value) : Prop := match i with
 | 0 => v = .pointer (some ⟨gl, 1, none⟩)
 | 1 => v = .string st
 | 2 => v = .pointer (some ⟨gl, 2, none⟩)
 | 3 => v = kv
 | 4 => v = sv
 | 5 => OwnK lo G v ds
 | 6 => v = .string st
 | 7 => OwnK lo G v ds
 | 8 => v = .bool true
 | _ => True
attribute [local simp] wb_bool wb_undef with_lit XL_nil XL_cons XLc_val XLc_call step1_eq stepW_t stepW_f stepC_n stepC_s stepX_s stepX_n stepN_s calleeX xrecv oneV xop_eq xopR_s xopR_n wantedA_eq wantedG_n wantedG_s plain1_int plain1_bool plain1_string bits_i64 bits_u64 bits_u32 bits_u16 bits_u8 xeqA xagg xcmp xarr allK_iv num_iv calleeOf xread xeff xbin xint xnil xun xstr xload xconv xpart xfield xfieldAddr xindexAddr xindex bnd asInt? xslice xlen xmin xmax xbuild xfill xappend xapp2 xappstr xappmk xcap xcopy xcells eval_tmp eval_const put_at put_none fr0_at cells_agg cells_int cells_bool cells_string cells_ptr cells_slice notTuple tab iv_all hget_app hget_app0 hget_cons0 hget_cons set_app set_app0 setR setR_one QL_nil QL_cons QLc_val stepQ_t stepQ_f stepQC_n stepQC_s stepQX_s SL_nil SL_cons SLc_val stepS_t stepS_f ltT ltF leT leF eqT eqF ltTn ltFn leTn leFn eqTn eqFn beqT beqF bneT bneF wi64 wu64 wu32 wu16 wu8 tmodP tdivP hgetL hgetNe hgetEq setL nums_def nums_len Nat.succ_le_of_lt List.getElem?_cons_zero List.getElem?_cons_succ Option.getD_some Int.toNat_add Int.toNat_mul agM okM agB agI agS agP agL agA okB okI okS okP okSl okA
theorem cloneP_ac {nro : Nat} {γ : Nat → Option Nat} {H : AH} {v : Value} {ks : List (List Int)} (hv : PartK H H.length v ks) (hk : K32 ks) (hc : ks.length ≤ 1000000) (hnro : nro ≤ H.length) :
  AC Tryd.prog nro γ 42 #[v] H (fun v' H' => OwnK H.length H' v' ks ∧ Low H.length H H') := by
 obtain ⟨⟨a, c, rfl⟩, hx⟩ := hv
 cases a with
 | none =>
  have h0 : ks = [] := by
   have := hx H (fun _ _ => rfl)
   cases hks : ks.length with
   | zero => exact List.eq_nil_of_length_eq_zero hks
   | succ n =>
    rw [hks] at this
    simp [xcells] at this
  subst h0
  refine ac_of_aw Tryd.func42 rfl Tryd.ntmps42 Tryd.results42 (by simp) ?_
  refine aw_seq ?_
  (refine aw_ops (by kernel_rfl) (fun K hK => ?_); simp (disch := first | omega | (simp only [lnS]; try omega)) [-getElem?_pos, -getElem?_neg]; refine hK _ _ ?_; clear hK K)
  refine aw_seq ?_
  refine aw_seq ?_
  (refine aw_ops (by kernel_rfl) (fun K hK => ?_); simp (disch := first | omega | (simp only [lnS]; try omega)) [-getElem?_pos, -getElem?_neg]; refine hK _ _ ?_; clear hK K)
  refine aw_t (by (first | (simp [eval_tmp, put_at]; done) | (simp [eval_tmp, put_at]; omega))) (by kernel_rfl) ?_
  refine aw_seq ?_
  (refine aw_ops (by kernel_rfl) (fun K hK => ?_); simp (disch := first | omega | (simp only [lnS]; try omega)) [-getElem?_pos, -getElem?_neg]; refine hK _ _ ?_; clear hK K)
  (refine aw_ret ?_; simp (disch := first | omega | (simp only [lnS]; try omega)) [-getElem?_pos, -getElem?_neg, thenQ_ret, scopeQ_ret, inBlockQ_ret, RQ, resL, resV])
  exact ⟨.inl ⟨rfl, rfl⟩, Low.refl (Nat.le_refl _)⟩
 | some a =>
  have ho0 : OwnK H.length (H ++ [some ⟨[], 28, some 32⟩]) (.slice (some ⟨H.length, 0, none⟩) 0 0) [] := .inr ⟨H.length, [], Nat.le_refl _, rfl, by rw [hget_app0]; rfl, List.prefix_rfl⟩
  obtain ⟨v7, G3, hap, ho3, hl3, hk3⟩ := ownK_append (nro := nro) (x := .slice (some a) ks.length c) (fun k hk => (by cases hk)) hk ho0 hnro (by simp) (fun s e => by cases e) (hx _ (fun j hj => hget_left hj)) (by simp; omega)
  have hnt7 := ho3.nt
  refine ac_of_aw Tryd.func42 rfl Tryd.ntmps42 Tryd.results42 (by simp) ?_
  refine aw_seq ?_
  (refine aw_ops (by kernel_rfl) (fun K hK => ?_); simp (disch := first | omega | (simp only [lnS]; try omega)) [-getElem?_pos, -getElem?_neg]; refine hK _ _ ?_; clear hK K)
  refine aw_seq ?_
  refine aw_seq ?_
  (refine aw_ops (by kernel_rfl) (fun K hK => ?_); simp (disch := first | omega | (simp only [lnS]; try omega)) [-getElem?_pos, -getElem?_neg]; refine hK _ _ ?_; clear hK K)
  refine aw_f (by (first | (simp [eval_tmp, put_at]; done) | (simp [eval_tmp, put_at]; omega))) (by kernel_rfl) ?_
  refine aw_skip ?_
  refine aw_seq ?_
  (refine aw_ops (by kernel_rfl) (fun K hK => ?_); simp (disch := first | omega | (simp only [lnS]; try omega)) [-getElem?_pos, -getElem?_neg, -xappend, hap, hnt7.1, hnt7.2, -notTuple]; refine hK _ _ ?_; clear hK K)
  (refine aw_ret ?_; simp (disch := first | omega | (simp only [lnS]; try omega)) [-getElem?_pos, -getElem?_neg, thenQ_ret, scopeQ_ret, inBlockQ_ret, RQ, resL, resV, hnt7.1, hnt7.2])
  simp only [List.length_append, List.length_cons, List.length_nil] at hl3
  rw [List.nil_append] at ho3
  exact ⟨ho3, fun j hj => (hk3 j hj).trans (hget_left hj), by omega⟩
theorem open_ac {nro : Nat} {γ : Nat → Option Nat} {H : AH} {b : Nat} {F : List Nat} {T : List TermD} (h : Tbl H b F T) (hnH : nro ≤ H.length) {k y : List Int} (hk : k.length = 32) (hy : y.length = 32) {s : ByteArray} (hs1 : s.size ≤ 10000000) :
  AC Tryd.prog nro γ 19 #[.pointer (some ⟨b, 0, none⟩), .agg (iv .u8 k).toArray, .agg (iv .u8 y).toArray, .string s] H (OpenQ H T k y s) := by
 obtain ⟨mb, tv, Ft, Fk, L, rfl, hL, rfl, hFl⟩ := h
 have htk : (iv .u8 k).take 32 = iv .u8 k := List.take_of_length_le (by simp [hk])
 have hty : (iv .u8 y).take 32 = iv .u8 y := List.take_of_length_le (by simp [hy])
 have hs9 : s.size ≤ 9223372036854775807 := by omega
 by_cases h32 : s.size = 32
 case neg =>
  have hb32 : ((s.size : Int) == 32) = false := by rw [beq_eq_false_iff_ne]; omega
  have hi32 : ¬ (s.size : Int) = 32 := by omega
  have hop : openT (L.map (·.2)) k y s = none := by unfold openT; rw [if_neg h32]
  refine ac_of_aw Tryd.func19 rfl Tryd.ntmps19 Tryd.results19 (by simp) ?_
  refine aw_seq ?_
  (refine aw_ops (by kernel_rfl) (fun K hK => ?_); simp (disch := first | omega | (simp only [lnS]; try omega)) [-getElem?_pos, -getElem?_neg, htk, hty]; refine hK _ _ ?_; clear hK K)
  refine aw_seq ?_
  refine aw_seq ?_
  (refine aw_ops (by kernel_rfl) (fun K hK => ?_); simp (disch := first | omega | (simp only [lnS]; try omega)) [-getElem?_pos, -getElem?_neg, hs9, hi32, hb32]; refine hK _ _ ?_; clear hK K)
  refine aw_t (by (first | (simp [eval_tmp, put_at]; done) | (simp [eval_tmp, put_at]; omega))) (by kernel_rfl) ?_
  refine aw_seq ?_
  (refine aw_ops (by kernel_rfl) (fun K hK => ?_); simp (disch := first | omega | (simp only [lnS]; try omega)) [-getElem?_pos, -getElem?_neg]; refine hK _ _ ?_; clear hK K)
  (refine aw_ret ?_; simp (disch := first | omega | (simp only [lnS]; try omega)) [-getElem?_pos, -getElem?_neg, thenQ_ret, scopeQ_ret, inBlockQ_ret, RQ, resL, resV])
  exact ⟨Low.push (Nat.le_refl _) _, by rw [hop]⟩
 have hb32 : ((s.size : Int) == 32) = true := by rw [h32]; rfl
 have hi32 : (s.size : Int) = 32 := by rw [h32]; rfl
 have ln : (nums s).length = 32 := by rw [nums_len, h32]
 have htn : (iv .u8 (nums s)).take 32 = iv .u8 (nums s) := List.take_of_length_le (by simp [ln])
 have hf := fun (N : AH) => find_ac (nro := nro) (γ := γ) (hL.low (G := H ++ N) (fun j hj => hget_left (hFl j hj))) ln (nums_bd s)
 have hcase := findV_T L (nums s)
 have p1 : plain1 (.slice none 0 0) = true := rfl
 have r3 : List.range 3 = [0, 1, 2] := rfl
 generalize findV L (nums s) = fv at *
 rcases hcase with ⟨⟨kv, x⟩, hp, rfl, hft⟩ | ⟨rfl, hft⟩
 ·have hkn := hL.key_nt hp
  have hw : x.Wf := hL.wf _ hp
  obtain ⟨Fx, hox, hFx⟩ := hL.keys _ hp
  have hxl : ∀ j ∈ Fx, j < H.length := fun j hj => hFl j (by simp [hFx j hj])
  have h6k := hw.seal_
  have hmk := hw.many
  have hop : openT (L.map (·.2)) k y s = if x.kind = 6 ∧ k0 x = k ∧ k1 x = y then some (x.text, x.keys.drop 2) else none := by unfold openT; rw [if_pos h32, hft]
  unfold k0 k1 at hop
  unfold tmRow at *
  refine ac_of_aw Tryd.func19 rfl Tryd.ntmps19 Tryd.results19 (by simp) ?_
  refine aw_seq ?_
  (refine aw_ops (by kernel_rfl) (fun K hK => ?_); simp (disch := first | omega | (simp only [lnS]; try omega)) [-getElem?_pos, -getElem?_neg, htk, hty]; refine hK _ _ ?_; clear hK K)
  refine aw_seq ?_
  refine aw_seq ?_
  (refine aw_ops (by kernel_rfl) (fun K hK => ?_); simp (disch := first | omega | (simp only [lnS]; try omega)) [-getElem?_pos, -getElem?_neg, hs9, hi32, hb32]; refine hK _ _ ?_; clear hK K)
  refine aw_f (by (first | (simp [eval_tmp, put_at]; done) | (simp [eval_tmp, put_at]; omega))) (by kernel_rfl) ?_
  refine aw_skip ?_
  refine aw_seq ?_
  refine aw_ops (by kernel_rfl) (fun K hK => ?_)
  simp (disch := first | omega | (simp only [lnS]; try omega)) [-getElem?_pos, -getElem?_neg, h32, ln, htn]
  refine ⟨by kernel_rfl, AC.mono (hf _) ?_⟩
  rintro _ G ⟨rfl, lw⟩
  have hGl := lw.2
  rw [List.length_append] at lw hGl
  simp only [List.length_cons, List.length_nil] at lw hGl
  have gk : hget G H.length = some ⟨iv .u8 k, 28, none⟩ := (lw.1 _ (by omega)).trans (by rw [hget_app0]; rfl)
  have gy : hget G (H.length + 1) = some ⟨iv .u8 y, 28, none⟩ := (lw.1 _ (by omega)).trans (by rw [hget_app]; rfl)
  have lwH : Low H.length H G := ⟨fun j hj => (lw.1 j (by omega)).trans (hget_left hj), by omega⟩
  have hng : nro ≤ G.length := by omega
  try simp (disch := first | omega | (simp only [lnS]; try omega)) [-getElem?_pos, -getElem?_neg, p1, r3, hng, -notTuple, hkn.1, hkn.2, nt_aggG, nt_intG]
  refine hK _ _ ?_; clear hK K
  obtain ⟨A, hA⟩ : ∃ A : AH, A = G ++ [some ⟨[.int .i64 (x.kind : Nat), .string x.text, kv], 67, none⟩] := ⟨_, rfl⟩
  have aG : hget A G.length = some ⟨[.int .i64 (x.kind : Nat), .string x.text, kv], 67, none⟩ := by rw [hA, hget_app0]; rfl
  have ak : hget A H.length = some ⟨iv .u8 k, 28, none⟩ := by rw [hA, hget_left (hget_lt gk)]; exact gk
  have ay : hget A (H.length + 1) = some ⟨iv .u8 y, 28, none⟩ := by rw [hA, hget_left (hget_lt gy)]; exact gy
  have aj : ∀ j, j < H.length → hget A j = hget H j := fun j hj => by rw [hA, hget_left (by omega)]; exact lwH.1 j hj
  have al : A.length = G.length + 1 := by rw [hA]; simp
  have lwA : Low H.length H A := ⟨aj, by omega⟩
  rw [← hA]
  clear hA
  have lA := hget_lt aG
  have la := hget_lt ak
  have lb := hget_lt ay
  have ldt : xload Tryd.prog 3 (.pointer (some ⟨G.length, 0, none⟩)) A = some (.int .i64 (x.kind : Nat)) := by simp [xload, aG]
  have lds : xload Tryd.prog 9 (.pointer (some ⟨G.length, 1, none⟩)) A = some (.string x.text) := by simp [xload, aG]
  have ldk : xload Tryd.prog 33 (.pointer (some ⟨G.length, 2, none⟩)) A = some kv := by simp [xload, aG]
  have ld1 : xload Tryd.prog 28 (.pointer (some ⟨H.length, 0, none⟩)) A = some (.agg (iv .u8 k).toArray) := by simp [xload, ak, hk, htk]
  have ld2 : xload Tryd.prog 28 (.pointer (some ⟨H.length + 1, 0, none⟩)) A = some (.agg (iv .u8 y).toArray) := by simp [xload, ay, hy, hty]
  refine aw_seq ?_
  refine aw_seq ?_
  by_cases h6 : x.kind = 6
  case neg =>
   have b6 : ((x.kind : Int) == 6) = false := by rw [beq_eq_false_iff_ne]; omega
   have i6 : ¬ (x.kind : Int) = 6 := by omega
   rw [if_neg (fun e => h6 e.1)] at hop
   (refine aw_plan [] [] [0, 1, 2, 3, 4, 5, 6, 7, 8, 9, 10, 11, 12, 13, 14, 15, 16, 17, 18, 19, 20, 21, 22] 23 0 (by kernel_rfl) (by kernel_rfl) (by kernel_rfl) (fun K hK => ?_)); simp only [sel, List.getElem?_cons_succ, List.getElem?_cons_zero, List.drop_succ_cons, List.drop_zero]; simp (disch := first | omega | (simp only [lnS]; try omega)) [-getElem?_pos, -getElem?_neg, -xload, ldt, b6, i6, -notTuple, nt_intG, PL_nil, plainB_lit, PL_cons, PLc_val, PLc_new, stepP_t, stepP_f, stepPC_n, stepPC_s, stepPX_s, stepPX_n, stepPV_n, stepPV_s, stepPA_t, stepPA_c, stepPA_l, stepPN_s, allocOp, reloc_sl, reloc_ptr, List.map_cons, List.map_nil, List.nil_append, List.append_assoc, List.cons_append, Nat.add_assoc]
   refine hK _ _ ?_; clear hK K
   refine aw_t (by (first | (simp [eval_tmp, put_at]; done) | (simp [eval_tmp, put_at]; omega))) (by kernel_rfl) ?_
   refine aw_seq ?_
   (refine aw_ops (by kernel_rfl) (fun K hK => ?_); simp (disch := first | omega | (simp only [lnS]; try omega)) [-getElem?_pos, -getElem?_neg]; refine hK _ _ ?_; clear hK K)
   (refine aw_ret ?_; simp (disch := first | omega | (simp only [lnS]; try omega)) [-getElem?_pos, -getElem?_neg, thenQ_ret, scopeQ_ret, inBlockQ_ret, RQ, resL, resV])
   exact ⟨lwA, by rw [hop]⟩
  have h2 := h6k h6
  have b6 : ((x.kind : Int) == 6) = true := by rw [h6]; rfl
  have i6 : (x.kind : Int) = 6 := by omega
  have hoA := hox.low (H' := A) (fun j hj => aj j (hxl j hj))
  have hKA : KsV A kv x.keys := kr_ksv hoA hw.k32
  have hacc := hKA.acc hw.k32
  obtain ⟨q0, y0, t1, t2, t3, t4, t5⟩ := hacc.at_ 0 (by omega)
  obtain ⟨q1, y1, u1, u2, u3, u4, u5⟩ := hacc.at_ 1 (by omega)
  have t2 : xindexAddr Tryd.prog 33 kv (.int .i64 0) = some q0 := t2
  have u2 : xindexAddr Tryd.prog 33 kv (.int .i64 1) = some q1 := u2
  have t5 := t5 A (Low.refl (Nat.le_refl _))
  have u5 := u5 A (Low.refl (Nat.le_refl _))
  subst t4 u4
  have z0 : (x.keys.getD 0 []).length = 32 := by
   rw [List.getD_eq_getElem?_getD, List.getElem?_eq_getElem (by omega)]
   exact hw.k32 _ (List.getElem_mem _)
  have z1 : (x.keys.getD 1 []).length = 32 := by
   rw [List.getD_eq_getElem?_getD, List.getElem?_eq_getElem (by omega)]
   exact hw.k32 _ (List.getElem_mem _)
  obtain ⟨sv, v1, v2, v3, v4, v5, _⟩ := suf_keys hoA hw.k32 h2
  have hdk : K32 (x.keys.drop 2) := fun z hz => hw.k32 z (List.mem_of_mem_drop hz)
  have hdm : (x.keys.drop 2).length ≤ 1000000 := by rw [List.length_drop]; omega
  have hsl := v1 A
  generalize x.keys.getD 0 [] = c0 at *
  generalize x.keys.getD 1 [] = c1 at *
  generalize x.keys.drop 2 = ds at *
  generalize x.kind = kd at *
  subst h6
  by_cases e0 : c0 = k
  case neg =>
   have c0b : (c0 == k) = false := by simpa using e0
   rw [if_neg (fun e => e0 e.2.1)] at hop
   (refine aw_plan [] [] [0, 1, 2, 3, 4, 5, 6, 7, 8, 9, 10, 11, 12, 13, 14, 15, 16, 17, 18, 19, 20, 21, 22] 23 0 (by kernel_rfl) (by kernel_rfl) (by kernel_rfl) (fun K hK => ?_)); simp only [sel, List.getElem?_cons_succ, List.getElem?_cons_zero, List.drop_succ_cons, List.drop_zero]; simp (disch := first | omega | (simp only [lnS]; try omega)) [-getElem?_pos, -getElem?_neg, -xload, ldt, ldk, ld1, t5, -xindexAddr, t1, t2, b6, i6, z0, hk, e0, c0b, -notTuple, hkn.1, nt_intG, nt_aggG, PL_nil, plainB_lit, PL_cons, PLc_val, PLc_new, stepP_t, stepP_f, stepPC_n, stepPC_s, stepPX_s, stepPX_n, stepPV_n, stepPV_s, stepPA_t, stepPA_c, stepPA_l, stepPN_s, allocOp, reloc_sl, reloc_ptr, List.map_cons, List.map_nil, List.nil_append, List.append_assoc, List.cons_append, Nat.add_assoc]
   refine hK _ _ ?_; clear hK K
   refine aw_t (by (first | (simp [eval_tmp, put_at]; done) | (simp [eval_tmp, put_at]; omega))) (by kernel_rfl) ?_
   refine aw_seq ?_
   (refine aw_ops (by kernel_rfl) (fun K hK => ?_); simp (disch := first | omega | (simp only [lnS]; try omega)) [-getElem?_pos, -getElem?_neg]; refine hK _ _ ?_; clear hK K)
   (refine aw_ret ?_; simp (disch := first | omega | (simp only [lnS]; try omega)) [-getElem?_pos, -getElem?_neg, thenQ_ret, scopeQ_ret, inBlockQ_ret, RQ, resL, resV])
   exact ⟨lwA, by rw [hop]⟩
  subst e0
  by_cases e1 : c1 = y
  case neg =>
   have c1b : (c1 == y) = false := by simpa using e1
   rw [if_neg (fun e => e1 e.2.2)] at hop
   (refine aw_plan [] [] [0, 1, 2, 3, 4, 5, 6, 7, 8, 9, 10, 11, 12, 13, 14, 15, 16, 17, 18, 19, 20, 21, 22] 23 0 (by kernel_rfl) (by kernel_rfl) (by kernel_rfl) (fun K hK => ?_)); simp only [sel, List.getElem?_cons_succ, List.getElem?_cons_zero, List.drop_succ_cons, List.drop_zero]; simp (disch := first | omega | (simp only [lnS]; try omega)) [-getElem?_pos, -getElem?_neg, -xload, ldt, ldk, ld1, ld2, t5, u5, -xindexAddr, t1, t2, u1, u2, b6, i6, z0, z1, hk, hy, e1, c1b, -notTuple, hkn.1, nt_intG, nt_aggG, PL_nil, plainB_lit, PL_cons, PLc_val, PLc_new, stepP_t, stepP_f, stepPC_n, stepPC_s, stepPX_s, stepPX_n, stepPV_n, stepPV_s, stepPA_t, stepPA_c, stepPA_l, stepPN_s, allocOp, reloc_sl, reloc_ptr, List.map_cons, List.map_nil, List.nil_append, List.append_assoc, List.cons_append, Nat.add_assoc]
   refine hK _ _ ?_; clear hK K
   refine aw_t (by (first | (simp [eval_tmp, put_at]; done) | (simp [eval_tmp, put_at]; omega))) (by kernel_rfl) ?_
   refine aw_seq ?_
   (refine aw_ops (by kernel_rfl) (fun K hK => ?_); simp (disch := first | omega | (simp only [lnS]; try omega)) [-getElem?_pos, -getElem?_neg]; refine hK _ _ ?_; clear hK K)
   (refine aw_ret ?_; simp (disch := first | omega | (simp only [lnS]; try omega)) [-getElem?_pos, -getElem?_neg, thenQ_ret, scopeQ_ret, inBlockQ_ret, RQ, resL, resV])
   exact ⟨lwA, by rw [hop]⟩
  subst e1
  rw [if_pos ⟨rfl, rfl, rfl⟩] at hop
  (refine aw_plan [] [] [0, 1, 2, 3, 4, 5, 6, 7, 8, 9, 10, 11, 12, 13, 14, 15, 16, 17, 18, 19, 20, 21, 22] 23 0 (by kernel_rfl) (by kernel_rfl) (by kernel_rfl) (fun K hK => ?_)); simp only [sel, List.getElem?_cons_succ, List.getElem?_cons_zero, List.drop_succ_cons, List.drop_zero]; simp (disch := first | omega | (simp only [lnS]; try omega)) [-getElem?_pos, -getElem?_neg, -xload, ldt, ldk, ld1, ld2, t5, u5, -xindexAddr, t1, t2, u1, u2, b6, i6, z0, z1, hk, hy, -notTuple, hkn.1, nt_intG, nt_aggG, PL_nil, plainB_lit, PL_cons, PLc_val, PLc_new, stepP_t, stepP_f, stepPC_n, stepPC_s, stepPX_s, stepPX_n, stepPV_n, stepPV_s, stepPA_t, stepPA_c, stepPA_l, stepPN_s, allocOp, reloc_sl, reloc_ptr, List.map_cons, List.map_nil, List.nil_append, List.append_assoc, List.cons_append, Nat.add_assoc]
  refine hK _ _ ?_; clear hK K
  refine aw_f (by (first | (simp [eval_tmp, put_at]; done) | (simp [eval_tmp, put_at]; omega))) (by kernel_rfl) ?_
  refine aw_skip ?_
  refine aw_seq ?_
  obtain ⟨gl, hgl⟩ : ∃ gl, gl = G.length := ⟨_, rfl⟩
  rw [← hgl] at aG lA
  refine name_aw (fun β hβ => ?_)
  have e11 : β 11 = .pointer (some ⟨gl, 0, none⟩) := by rw [hβ, hgl]; (first | (simp [put_at, put_none, fr0_at]; done) | rfl)
  clear hβ
  have hND : opJD.Nodup := by decide
  have hST : ∀ (G1 G2 : AH) (i : Nat) (v : Value), G1.length ≤ G2.length → (∀ j, j < G1.length → hget G2 j = hget G1 j) → opJV gl A.length x.text kv sv ds G1 i v → opJV gl A.length x.text kv sv ds G2 i v := fun G1 G2 i v h1 h2 h => by
   unfold opJV at h ⊢
   split at h <;> first | exact h | exact h.low (fun j _ hj => h2 j hj)
  generalize x.text = st at *
  refine aw_inv opJP (IJ opJD (opJV gl A.length st kv sv ds) β A) (by kernel_rfl) (by kernel_rfl) (by kernel_rfl) (IJ.start rfl) ?_ ?_
  ·intro i s α G k hJ hi0 hsi hd hc hcont
   have j11 := (hJ.lo 11 (by decide)).trans e11
   have gA := (hJ.lw.2 gl lA).trans aG
   have lgA := hget_lt gA
   have hi : i = 0 ∨ i = 1 ∨ i = 2 ∨ i = 3 ∨ i = 4 ∨ i = 5 ∨ i = 6 ∨ i = 7 ∨ i = 8 := by have hi0 : i < 9 := hi0; omega
   rcases hi with rfl | rfl | rfl | rfl | rfl | rfl | rfl | rfl | rfl
   ·unfold XOm
    simp only [List.getElem?_cons_succ, List.getElem?_cons_zero]
    simp (disch := first | omega | (simp only [lnS]; try omega)) [-getElem?_pos, -getElem?_neg, -notTuple, hkn.1, nt_strG, j11, XO_s, XO_z, XLk_val, XLk_call, headsO, behind, List.length_cons, List.length_nil, List.mem_cons, List.not_mem_nil, or_false, forall_eq_or_imp, forall_eq, List.contains_cons, List.contains_nil]
    exact hcont _ _ (hJ.put hND hST rfl (Nat.le_refl _) (fun _ _ => rfl) rfl)
   ·have f0 : α 48 = .pointer (some ⟨gl, 1, none⟩) := hJ.val 0 48 rfl (hd 0 (by decide))
    unfold XOm
    simp only [List.getElem?_cons_succ, List.getElem?_cons_zero]
    simp (disch := first | omega | (simp only [lnS]; try omega)) [-getElem?_pos, -getElem?_neg, -notTuple, hkn.1, nt_strG, gA, lgA, f0, XO_s, XO_z, XLk_val, XLk_call, headsO, behind, List.length_cons, List.length_nil, List.mem_cons, List.not_mem_nil, or_false, forall_eq_or_imp, forall_eq, List.contains_cons, List.contains_nil]
    exact hcont _ _ (hJ.put hND hST rfl (Nat.le_refl _) (fun _ _ => rfl) rfl)
   ·unfold XOm
    simp only [List.getElem?_cons_succ, List.getElem?_cons_zero]
    simp (disch := first | omega | (simp only [lnS]; try omega)) [-getElem?_pos, -getElem?_neg, -notTuple, hkn.1, nt_strG, j11, XO_s, XO_z, XLk_val, XLk_call, headsO, behind, List.length_cons, List.length_nil, List.mem_cons, List.not_mem_nil, or_false, forall_eq_or_imp, forall_eq, List.contains_cons, List.contains_nil]
    exact hcont _ _ (hJ.put hND hST rfl (Nat.le_refl _) (fun _ _ => rfl) rfl)
   ·have f2 : α 50 = .pointer (some ⟨gl, 2, none⟩) := hJ.val 2 50 rfl (hd 2 (by decide))
    unfold XOm
    simp only [List.getElem?_cons_succ, List.getElem?_cons_zero]
    simp (disch := first | omega | (simp only [lnS]; try omega)) [-getElem?_pos, -getElem?_neg, -notTuple, hkn.1, nt_strG, gA, lgA, f2, XO_s, XO_z, XLk_val, XLk_call, headsO, behind, List.length_cons, List.length_nil, List.mem_cons, List.not_mem_nil, or_false, forall_eq_or_imp, forall_eq, List.contains_cons, List.contains_nil]
    exact hcont _ _ (hJ.put hND hST rfl (Nat.le_refl _) (fun _ _ => rfl) rfl)
   ·have f3 : α 51 = kv := hJ.val 3 51 rfl (hd 3 (by decide))
    unfold XOm
    simp only [List.getElem?_cons_succ, List.getElem?_cons_zero]
    simp (disch := first | omega | (simp only [lnS]; try omega)) [-getElem?_pos, -getElem?_neg, -notTuple, hkn.1, nt_strG, -xslice, v1 G, v2, f3, XO_s, XO_z, XLk_val, XLk_call, headsO, behind, List.length_cons, List.length_nil, List.mem_cons, List.not_mem_nil, or_false, forall_eq_or_imp, forall_eq, List.contains_cons, List.contains_nil]
    exact hcont _ _ (hJ.put hND hST rfl (Nat.le_refl _) (fun _ _ => rfl) rfl)
   ·have f4 : α 52 = sv := hJ.val 4 52 rfl (hd 4 (by decide))
    unfold XOm
    simp only [List.getElem?_cons_succ, List.getElem?_cons_zero]
    simp (disch := first | omega | (simp only [lnS]; try omega)) [-getElem?_pos, -getElem?_neg, f4, XO_s, XO_z, XLk_val, XLk_call, headsO, behind, List.length_cons, List.length_nil, List.mem_cons, List.not_mem_nil, or_false, forall_eq_or_imp, forall_eq, List.contains_cons, List.contains_nil]
    refine ⟨by kernel_rfl, (cloneP_ac (nro := nro) (γ := γ) (v5.keep hJ.lw.1 hJ.lw.2) hdk hdm (by have := hJ.lw.1; omega)).mono ?_⟩
    rintro v' G' ⟨ho, lw⟩
    exact hcont _ _ (hJ.put hND hST rfl lw.2 lw.1 (ho.less hJ.lw.1))
   ·have f1 : α 49 = .string st := hJ.val 1 49 rfl (hd 1 (by decide))
    unfold XOm
    simp only [List.getElem?_cons_succ, List.getElem?_cons_zero]
    simp (disch := first | omega | (simp only [lnS]; try omega)) [-getElem?_pos, -getElem?_neg, -notTuple, hkn.1, nt_strG, f1, XO_s, XO_z, XLk_val, XLk_call, headsO, behind, List.length_cons, List.length_nil, List.mem_cons, List.not_mem_nil, or_false, forall_eq_or_imp, forall_eq, List.contains_cons, List.contains_nil]
    exact hcont _ _ (hJ.put hND hST rfl (Nat.le_refl _) (fun _ _ => rfl) rfl)
   ·have f5 := hJ.val 5 53 rfl (hd 5 (by decide))
    obtain ⟨n1, n2⟩ := OwnK.nt f5
    unfold XOm
    simp only [List.getElem?_cons_succ, List.getElem?_cons_zero]
    simp (disch := first | omega | (simp only [lnS]; try omega)) [-getElem?_pos, -getElem?_neg, XO_s, XO_z, XLk_val, XLk_call, headsO, behind, List.length_cons, List.length_nil, List.mem_cons, List.not_mem_nil, or_false, forall_eq_or_imp, forall_eq, List.contains_cons, List.contains_nil]
    exact hcont _ _ (hJ.put hND hST rfl (Nat.le_refl _) (fun _ _ => rfl) f5)
   ·unfold XOm
    simp only [List.getElem?_cons_succ, List.getElem?_cons_zero]
    simp (disch := first | omega | (simp only [lnS]; try omega)) [-getElem?_pos, -getElem?_neg, -notTuple, hkn.1, nt_strG, XO_s, XO_z, XLk_val, XLk_call, headsO, behind, List.length_cons, List.length_nil, List.mem_cons, List.not_mem_nil, or_false, forall_eq_or_imp, forall_eq, List.contains_cons, List.contains_nil]
    exact hcont _ _ (hJ.put hND hST rfl (Nat.le_refl _) (fun _ _ => rfl) rfl)
  ·rintro s' α' B hJ hall
   have hsz : s'.size = 9 := hJ.sz
   have hg : ∀ i, i < 9 → s'.getD i false = true := fun i hi => by
    rw [Array.getD_eq_getD_getElem?, Array.getElem?_eq_getElem (by omega)]
    exact Array.all_eq_true.1 hall i (by omega)
   have e8 : α' 8 = .string st := hJ.val 6 8 rfl (hg 6 (by omega))
   have e9 : OwnK A.length B (α' 9) ds := hJ.val 7 9 rfl (hg 7 (by omega))
   have e10 : α' 10 = .bool true := hJ.val 8 10 rfl (hg 8 (by omega))
   obtain ⟨v9, h9⟩ : ∃ v9, α' 9 = v9 := ⟨_, rfl⟩
   rw [h9] at e9
   have hn9 := e9.nt
   (refine aw_ret ?_; simp (disch := first | omega | (simp only [lnS]; try omega)) [-getElem?_pos, -getElem?_neg, thenQ_ret, scopeQ_ret, inBlockQ_ret, RQ, resL, resV, e8, h9, e10, -notTuple, hn9.1, hn9.2, nt_strG, nt_boolG])
   refine ⟨⟨fun j hj => (hJ.lw.2 j (by omega)).trans (aj j hj), by have := hJ.lw.1; omega⟩, ?_⟩
   rw [hop]
   exact ⟨v9, rfl, e9.less (by omega)⟩
 ·unfold zkey at *
  refine ac_of_aw Tryd.func19 rfl Tryd.ntmps19 Tryd.results19 (by simp) ?_
  refine aw_seq ?_
  (refine aw_ops (by kernel_rfl) (fun K hK => ?_); simp (disch := first | omega | (simp only [lnS]; try omega)) [-getElem?_pos, -getElem?_neg, htk, hty]; refine hK _ _ ?_; clear hK K)
  refine aw_seq ?_
  refine aw_seq ?_
  (refine aw_ops (by kernel_rfl) (fun K hK => ?_); simp (disch := first | omega | (simp only [lnS]; try omega)) [-getElem?_pos, -getElem?_neg, hs9, hi32, hb32]; refine hK _ _ ?_; clear hK K)
  refine aw_f (by (first | (simp [eval_tmp, put_at]; done) | (simp [eval_tmp, put_at]; omega))) (by kernel_rfl) ?_
  refine aw_skip ?_
  refine aw_seq ?_
  refine aw_ops (by kernel_rfl) (fun K hK => ?_)
  simp (disch := first | omega | (simp only [lnS]; try omega)) [-getElem?_pos, -getElem?_neg, h32, ln, htn]
  refine ⟨by kernel_rfl, AC.mono (hf _) ?_⟩
  rintro _ G ⟨rfl, lw⟩
  have hGl := lw.2
  rw [List.length_append] at lw hGl
  simp only [List.length_cons, List.length_nil] at lw hGl
  have gk : hget G H.length = some ⟨iv .u8 k, 28, none⟩ := (lw.1 _ (by omega)).trans (by rw [hget_app0]; rfl)
  have gy : hget G (H.length + 1) = some ⟨iv .u8 y, 28, none⟩ := (lw.1 _ (by omega)).trans (by rw [hget_app]; rfl)
  have lwH : Low H.length H G := ⟨fun j hj => (lw.1 j (by omega)).trans (hget_left hj), by omega⟩
  have hng : nro ≤ G.length := by omega
  try simp (disch := first | omega | (simp only [lnS]; try omega)) [-getElem?_pos, -getElem?_neg, p1, r3, hng, nt_aggG, nt_intG]
  refine hK _ _ ?_; clear hK K
  refine aw_seq ?_
  refine aw_seq ?_
  (refine aw_plan [] [] [0, 1, 2, 3, 4, 5, 6, 7, 8, 9, 10, 11, 12, 13, 14, 15, 16, 17, 18, 19, 20, 21, 22] 23 0 (by kernel_rfl) (by kernel_rfl) (by kernel_rfl) (fun K hK => ?_)); simp only [sel, List.getElem?_cons_succ, List.getElem?_cons_zero, List.drop_succ_cons, List.drop_zero]; simp (disch := first | omega | (simp only [lnS]; try omega)) [-getElem?_pos, -getElem?_neg, PL_nil, plainB_lit, PL_cons, PLc_val, PLc_new, stepP_t, stepP_f, stepPC_n, stepPC_s, stepPX_s, stepPX_n, stepPV_n, stepPV_s, stepPA_t, stepPA_c, stepPA_l, stepPN_s, allocOp, reloc_sl, reloc_ptr, List.map_cons, List.map_nil, List.nil_append, List.append_assoc, List.cons_append, Nat.add_assoc]
  refine hK _ _ ?_; clear hK K
  refine aw_t (by (first | (simp [eval_tmp, put_at]; done) | (simp [eval_tmp, put_at]; omega))) (by kernel_rfl) ?_
  refine aw_seq ?_
  (refine aw_ops (by kernel_rfl) (fun K hK => ?_); simp (disch := first | omega | (simp only [lnS]; try omega)) [-getElem?_pos, -getElem?_neg]; refine hK _ _ ?_; clear hK K)
  (refine aw_ret ?_; simp (disch := first | omega | (simp only [lnS]; try omega)) [-getElem?_pos, -getElem?_neg, thenQ_ret, scopeQ_ret, inBlockQ_ret, RQ, resL, resV])
  have hop : openT (L.map (·.2)) k y s = none := by unfold openT; rw [if_pos h32, hft]
  exact ⟨⟨fun j hj => (hget_left (by omega)).trans (lwH.1 j hj), by simp; omega⟩, by rw [hop]⟩
end
section
attribute [local simp] wb_bool wb_undef with_lit XL_nil XL_cons XLc_val XLc_call step1_eq stepW_t stepW_f stepC_n stepC_s stepX_s stepX_n stepN_s calleeX xrecv oneV xop_eq xopR_s xopR_n wantedA_eq wantedG_n wantedG_s plain1_int plain1_bool plain1_string bits_i64 bits_u64 bits_u32 bits_u16 bits_u8 xeqA xagg xcmp xarr allK_iv num_iv calleeOf xread xeff xbin xint xnil xun xstr xload xconv xpart xfield xfieldAddr xindexAddr xindex bnd asInt? xslice xlen xmin xmax xbuild xfill xappend xapp2 xappstr xappmk xcap xcopy xcells eval_tmp eval_const put_at put_none fr0_at cells_agg cells_int cells_bool cells_string cells_ptr cells_slice notTuple tab iv_all hget_app hget_app0 hget_cons0 hget_cons set_app set_app0 setR setR_one QL_nil QL_cons QLc_val stepQ_t stepQ_f stepQC_n stepQC_s stepQX_s SL_nil SL_cons SLc_val stepS_t stepS_f ltT ltF leT leF eqT eqF ltTn ltFn leTn leFn eqTn eqFn beqT beqF bneT bneF wi64 wu64 wu32 wu16 wu8 tmodP tdivP hgetL hgetNe hgetEq setL nums_def nums_len Nat.succ_le_of_lt List.getElem?_cons_zero List.getElem?_cons_succ Option.getD_some Int.toNat_add Int.toNat_mul agM okM agB agI agS agP agL agA okB okI okS okP okSl okA
theorem key_rc {γ : Nat → Option Nat} {H : AH} {N : List Int} (hN : N.length = 32) (hb : By N) : AC Tryd.prog H.length γ 17 #[.string (strOfNums N)] H (fun v' _ => v' = .tuple #[.agg (iv .u8 N).toArray, .bool true]) := by
 have hsz : (strOfNums N).size = 32 := by rw [sn_size, hN]
 have hb32 : (((strOfNums N).size : Int) == 32) = true := by rw [hsz]; rfl
 have hi32 : ((strOfNums N).size : Int) = 32 := by rw [hsz]; rfl
 have hs9 : (strOfNums N).size ≤ 9223372036854775807 := by omega
 have hgb := fun i => gb_sn hb i
 have htN : (iv .u8 N).take 32 = iv .u8 N := List.take_of_length_le (by simp [hN])
 have hsN : setR (iv .u8 (zl 32)) 0 (iv .u8 N) = iv .u8 N := setR_all _ _ (by simp [hN])
 generalize strOfNums N = s at *
 refine ac_of_aw Tryd.func17 rfl Tryd.ntmps17 Tryd.results17 (by simp) ?_
 refine aw_seq ?_
 (refine aw_ops (by kernel_rfl) (fun K hK => ?_); simp (disch := first | omega | (simp only [lnS]; try omega)) [-getElem?_pos, -getElem?_neg]; refine hK _ _ ?_; clear hK K)
 refine aw_seq ?_
 (refine aw_ops (by kernel_rfl) (fun K hK => ?_); simp (disch := first | omega | (simp only [lnS]; try omega)) [-getElem?_pos, -getElem?_neg]; refine hK _ _ ?_; clear hK K)
 refine aw_seq ?_
 refine aw_seq ?_
 (refine aw_ops (by kernel_rfl) (fun K hK => ?_); simp (disch := first | omega | (simp only [lnS]; try omega)) [-getElem?_pos, -getElem?_neg, hs9, hb32, hi32]; refine hK _ _ ?_; clear hK K)
 refine aw_f (by (first | (simp [eval_tmp, put_at]; done) | (simp [eval_tmp, put_at]; omega))) (by kernel_rfl) ?_
 refine aw_skip ?_
 refine aw_seq ?_
 refine aw_seq ?_
 (refine aw_ops (by kernel_rfl) (fun K hK => ?_); simp (disch := first | omega | (simp only [lnS]; try omega)) [-getElem?_pos, -getElem?_neg]; refine hK _ _ ?_; clear hK K)
 refine aw_block ?_
 refine aw_loop (fun q α G => ∃ i : Nat, i + q = 32 ∧ α 0 = .string s ∧ α 2 = .pointer (some ⟨H.length, 0, none⟩) ∧ α 4 = .pointer (some ⟨H.length + 1, 0, none⟩) ∧ α 5 = .int .i64 (i : Nat) ∧ G = H ++ [some ⟨iv .u8 (zl 32), 28, none⟩, some ⟨iv .u8 (N.take i ++ zl (32 - i)), 28, none⟩]) 32 ?_ ?_
 ·exact ⟨0, by omega, by (first | (simp [put_at, put_none, fr0_at]; done) | rfl), by (first | (simp [put_at, put_none, fr0_at]; done) | rfl), by (first | (simp [put_at, put_none, fr0_at]; done) | rfl), by (first | (simp [put_at, put_none, fr0_at]; done) | rfl), rfl⟩
 rintro q α G ⟨i, hiq, h0, h2, h4, h5, rfl⟩
 refine aw_seq ?_
 refine aw_seq ?_
 by_cases hi : i < 32
 ·have hnx := set_next N 32 i hN hi
  have hfl := fill_len N 32 i hN (by omega)
  have hg := hgb i
  generalize N.getD i 0 = z at *
  have hset : (iv .u8 (N.take i ++ zl (32 - i))).set i (.int .u8 z) = iv .u8 (N.take (i + 1) ++ zl (32 - (i + 1))) := by rw [← hnx]; simp [iv]
  generalize N.take i ++ zl (32 - i) = A at *
  have hsi : (i : Int) < s.size := by omega
  (refine aw_ops (by kernel_rfl) (fun K hK => ?_); simp (disch := first | omega | (simp only [lnS]; try omega)) [-getElem?_pos, -getElem?_neg, h5, hi]; refine hK _ _ ?_; clear hK K)
  refine aw_t (by (first | (simp [eval_tmp, put_at, hi]; done) | (simp [eval_tmp, put_at, hi]; omega))) (by kernel_rfl) ?_
  refine aw_skip ?_
  refine aw_seq ?_
  refine aw_block ?_
  (refine aw_ops (by kernel_rfl) (fun K hK => ?_); simp (disch := first | omega | (simp only [lnS]; try omega)) [-getElem?_pos, -getElem?_neg, h0, h4, h5, hsz, hsi, hi, hg, hfl, hset, nt_intG]; refine hK _ _ ?_; clear hK K)
  (refine aw_ops (by kernel_rfl) (fun K hK => ?_); simp (disch := first | omega | (simp only [lnS]; try omega)) [-getElem?_pos, -getElem?_neg, h5]; refine hK _ _ ?_; clear hK K)
  exact ⟨q - 1, by omega, i + 1, by omega, by (first | (simp [put_at, put_none, fr0_at, h0]; done) | rfl), by (first | (simp [put_at, put_none, fr0_at, h2]; done) | rfl), by (first | (simp [put_at, put_none, fr0_at, h4]; done) | rfl), by (first | (simp [put_at, put_none, fr0_at]; done) | rfl), by rw [show 32 - (i + 1) = 31 - i by omega]⟩
 ·obtain rfl : i = 32 := by omega
  have e : N.take 32 ++ zl (32 - 32) = N := by
   rw [List.take_of_length_le (by omega)]
   simp [zl]
  rw [e]
  (refine aw_ops (by kernel_rfl) (fun K hK => ?_); simp (disch := first | omega | (simp only [lnS]; try omega)) [-getElem?_pos, -getElem?_neg, h5]; refine hK _ _ ?_; clear hK K)
  refine aw_f (by (first | (simp [eval_tmp, put_at]; done) | (simp [eval_tmp, put_at]; omega))) (by kernel_rfl) ?_
  refine aw_exit ?_
  refine aw_seq ?_
  (refine aw_ops (by kernel_rfl) (fun K hK => ?_); simp (disch := first | omega | (simp only [lnS]; try omega)) [-getElem?_pos, -getElem?_neg, h2, h4, htN, hsN, hN, nt_aggG]; refine hK _ _ ?_; clear hK K)
  (refine aw_ret ?_; simp (disch := first | omega | (simp only [lnS]; try omega)) [-getElem?_pos, -getElem?_neg, thenQ_ret, scopeQ_ret, inBlockQ_ret, RQ, resL, resV, h2, htN, hN])
end
section
theorem place_none {x : TermD} {T : List TermD} (hx : x.Wf) (hT : ∀ y ∈ T, y.Wf) (h : x ∉ T) : placeT x T = none := by
 cases hp : placeT x T with
 | none => rfl
 | some i => exact absurd (List.mem_of_getElem? (place_some hx hT hp)) h
theorem add_new {x : TermD} {T : List TermD} (hx : x.Wf) (hT : ∀ y ∈ T, y.Wf) (h : x ∉ T) : addT x T = T ++ [x] ∧ nameT x T = T.length := by
 have := place_none hx hT h
 exact ⟨by unfold addT; rw [this], by unfold nameT; rw [this]⟩
theorem TermQ.keep {H G : AH} {b : Nat} {F : List Nat} {T : List TermD} {x : TermD} {v : Value} (h : TermQ H b F T x v G) : v = .agg (iv .u8 (nmL (nameT x T))).toArray ∧ H.length ≤ G.length ∧ ∃ F', Tbl G b F' (addT x T) ∧ (∀ j, j < H.length → j ∉ F → hget G j = hget H j ∧ j ∉ F') ∧ ∀ j ∈ F', j ∈ F ∨ H.length ≤ j := by
 obtain ⟨h0, h1, h2, F', h3, h4⟩ := h
 exact ⟨h0, h1, F', h3, fun j hj hn => ⟨h2 j hj hn, fun hm => by rcases h4 j hm with e | e; exact hn e; omega⟩, h4⟩
def aK : TermD := ⟨1, ⟨#[107]⟩, []⟩
def aX : TermD := ⟨1, ⟨#[120]⟩, []⟩
def aB : TermD := ⟨6, ⟨#[116, 101, 120, 116]⟩, [nmL (0 : Nat), zl 32, nmL (1 : Nat)]⟩
theorem wf_atom {s : ByteArray} (hs : s.size ≤ 100000000) : TermD.Wf ⟨1, s, []⟩ := wf_0 (.inl rfl) hs
theorem aK_wf : aK.Wf := wf_atom (by show 1 ≤ _; omega)
theorem aX_wf : aX.Wf := wf_atom (by show 1 ≤ _; omega)
theorem zl_by32 : By (zl 32) := fun x hx => by
 rw [List.eq_of_mem_replicate hx]; omega
theorem aB_wf : aB.Wf := wf_seal (by show 4 ≤ _; omega) rfl (nmL_by _) rfl zl_by32 (fun z hz => by rw [List.mem_singleton.1 hz]; exact ⟨rfl, nmL_by _⟩) (by simp)
theorem aKX : aX ∉ [aK] := by
 intro h
 have := congrArg TermD.text (List.mem_singleton.1 h)
 exact absurd this (by decide)
theorem aBn : aB ∉ [aK, aX] := by
 intro h
 rcases List.mem_cons.1 h with h | h
 ·have := congrArg TermD.kind h
  exact absurd this (by decide)
 ·have := congrArg TermD.kind (List.mem_singleton.1 h)
  exact absurd this (by decide)
theorem ad1 : addT aK [] = [aK] ∧ nameT aK [] = 0 := add_new aK_wf (by simp) (by simp)
theorem ad2 : addT aX [aK] = [aK, aX] ∧ nameT aX [aK] = 1 := add_new aX_wf (by simp [aK_wf]) aKX
theorem ad3 : addT aB [aK, aX] = [aK, aX, aB] ∧ nameT aB [aK, aX] = 2 := add_new aB_wf (fun y hy => by
 rcases List.mem_cons.1 hy with rfl | hy
 ·exact aK_wf
 ·rw [List.mem_singleton.1 hy]; exact aX_wf) aBn
theorem find2 : findT [aK, aX, aB] (nmL ((2 : Nat) : Int)) = some aB := by rfl
def FolV (n : Nat) (kn : List Bool) (G : AH) (v : Value) : Prop := ∃ kx kb, v = .func (.func 37) #[] #[.pointer (some ⟨kx, 0, none⟩)] ∧ hget G kx = some ⟨[.slice (some ⟨kb, 0, none⟩) n n], 75, none⟩ ∧ hget G kb = some ⟨bsC kn, 4, some 1⟩
theorem FolV.low {n : Nat} {kn : List Bool} {G1 G2 : AH} {v : Value} (h : FolV n kn G1 v) (hl : ∀ j, j < G1.length → hget G2 j = hget G1 j) : FolV n kn G2 v := by
 obtain ⟨kx, kb, e, h3, h4⟩ := h
 exact ⟨kx, kb, e, (hl kx (hget_lt h3)).trans h3, (hl kb (hget_lt h4)).trans h4⟩
theorem row_low {G1 G2 : AH} {v : Value} {n : Nat} {B : Blk} (h : ∃ rr, v = .slice (some ⟨rr, 0, none⟩) n n ∧ hget G1 rr = some B) (hl : ∀ j, j < G1.length → hget G2 j = hget G1 j) : ∃ rr, v = .slice (some ⟨rr, 0, none⟩) n n ∧ hget G2 rr = some B := by
 obtain ⟨rr, e, h3⟩ := h
 exact ⟨rr, e, (hl rr (hget_lt h3)).trans h3⟩
theorem tlenT_rc {γ : Nat → Option Nat} {H : AH} {b : Nat} {F : List Nat} {T : List TermD} (h : Tbl H b F T) : AC Tryd.prog H.length γ 12 #[.pointer (some ⟨b, 0, none⟩)] H (fun v' _ => v' = .int .i64 (T.length : Nat)) := by
 obtain ⟨mb, tv, Ft, Fk, L, rfl, hL, rfl, hFl⟩ := h
 obtain ⟨hl, hnt, hcs⟩ := hL.tvlen
 rw [List.length_map]
 exact tlen_rc hL.hb hl hnt hcs
theorem aT_wf : TWf [aK, aX, aB] := ⟨fun y hy => by
 simp only [List.mem_cons, List.not_mem_nil, or_false] at hy
 rcases hy with rfl | rfl | rfl
 ·exact aK_wf
 ·exact aX_wf
 ·exact aB_wf, by simp, fun y hy h4 => by
 simp only [List.mem_cons, List.not_mem_nil, or_false] at hy
 rcases hy with rfl | rfl | rfl <;> exact absurd h4 (by decide)⟩
theorem al29 : fol (folL [aK, aX, aB] [nmL ((2 : Nat) : Int), nmL ((0 : Nat) : Int)]) (nmL ((1 : Nat) : Int)) = true := by decide +kernel
theorem al37 : fol (folL [aK, aX, aB] [nmL ((2 : Nat) : Int)]) (nmL ((1 : Nat) : Int)) = false := by decide +kernel
def alJD : List Nat := [35, 36, 37, 38, 39, 40, 41, 42, 43, 44, 45, 46, 47, 48, 49, 50, 51, 52, 53, 54, 55, 56, 57, 58, 59, 60, 61, 62, 63, 64, 65, 66, 67, 68, 69, 70, 71, 72, 73, 74, 75, 76, 77, 78, 79, 0]
def alJP : List (List Nat) := [[], [0], [1], [1, 2], [1, 3], [4], [5], [5, 6], [5, 7], [5, 8], [9], [10], [10, 11], [10, 12], [10], [10, 13, 14], [10, 15], [16], [17], [17], [17, 18, 19], [17, 20], [21], [22], [22], [22], [22, 24, 25], [22, 23, 26], [22], [22, 27, 28], [22, 29], [30], [31], [31], [31, 33], [31, 32, 34], [31], [31, 35, 36], [31, 37], [31, 38], [39], [40], [40, 41], [40, 42], [40, 43], [44]]
def alJV (b : Nat) (kv q0 : Value) (N0 N1 N2 : List Int) (G : AH) (i : Nat) (v : Value) : Prop := match i with
 | 0 => v = .bool true
 | 1 => v = .bool true
 | 2 => v = .string ⟨#[116, 101, 120, 116]⟩
 | 3 => v = .bool true
 | 4 => v = .bool true
 | 5 => v = .bool true
 | 6 => v = kv
 | 7 => v = .int .i64 1
 | 8 => v = .bool true
 | 9 => v = .bool true
 | 10 => v = .bool true
 | 11 => v = kv
 | 12 => v = q0
 | 13 => v = .agg (iv .u8 N1).toArray
 | 14 => v = .agg (iv .u8 N1).toArray
 | 15 => v = .bool true
 | 16 => v = .bool true
 | 17 => v = .bool true
 | 18 => v = .agg (iv .u8 N0).toArray
 | 19 => v = .agg (iv .u8 N1).toArray
 | 20 => v = .bool true
 | 21 => v = .bool true
 | 22 => v = .bool true
 | 23 => v = .pointer (some ⟨b, 0, none⟩)
 | 24 => v = .agg (iv .u8 N2).toArray
 | 25 => v = .agg (iv .u8 N0).toArray
 | 26 => ∃ rr, v = .slice (some ⟨rr, 0, none⟩) 2 2 ∧ hget G rr = some ⟨iv .u8 N2 ++ iv .u8 N0, 28, some 32⟩
 | 27 => FolV 3 (folL [aK, aX, aB] [N2, N0]) G v
 | 28 => v = .agg (iv .u8 N1).toArray
 | 29 => v = .bool true
 | 30 => v = .bool true
 | 31 => v = .bool true
 | 32 => v = .pointer (some ⟨b, 0, none⟩)
 | 33 => v = .agg (iv .u8 N2).toArray
 | 34 => ∃ rr, v = .slice (some ⟨rr, 0, none⟩) 1 1 ∧ hget G rr = some ⟨iv .u8 N2, 28, some 32⟩
 | 35 => FolV 3 (folL [aK, aX, aB] [N2]) G v
 | 36 => v = .agg (iv .u8 N1).toArray
 | 37 => v = .bool false
 | 38 => v = .bool true
 | 39 => v = .bool true
 | 40 => v = .bool true
 | 41 => v = .pointer (some ⟨b, 0, none⟩)
 | 42 => v = .int .i64 3
 | 43 => v = .bool true
 | 44 => v = .bool true
 | 45 => v = .bool true
 | _ => True
attribute [local simp] wb_bool wb_undef with_lit XL_nil XL_cons XLc_val XLc_call step1_eq stepW_t stepW_f stepC_n stepC_s stepX_s stepX_n stepN_s calleeX xrecv oneV xop_eq xopR_s xopR_n wantedA_eq wantedG_n wantedG_s plain1_int plain1_bool plain1_string bits_i64 bits_u64 bits_u32 bits_u16 bits_u8 xeqA xagg xcmp xarr allK_iv num_iv calleeOf xread xeff xbin xint xnil xun xstr xload xconv xpart xfield xfieldAddr xindexAddr xindex bnd asInt? xslice xlen xmin xmax xbuild xfill xappend xapp2 xappstr xappmk xcap xcopy xcells eval_tmp eval_const put_at put_none fr0_at cells_agg cells_int cells_bool cells_string cells_ptr cells_slice notTuple tab iv_all hget_app hget_app0 hget_cons0 hget_cons set_app set_app0 setR setR_one QL_nil QL_cons QLc_val stepQ_t stepQ_f stepQC_n stepQC_s stepQX_s SL_nil SL_cons SLc_val stepS_t stepS_f ltT ltF leT leF eqT eqF ltTn ltFn leTn leFn eqTn eqFn beqT beqF bneT bneF wi64 wu64 wu32 wu16 wu8 tmodP tdivP hgetL hgetNe hgetEq setL nums_def nums_len Nat.succ_le_of_lt List.getElem?_cons_zero List.getElem?_cons_succ Option.getD_some Int.toNat_add Int.toNat_mul agM okM agB agI agS agP agL agA okB okI okS okP okSl okA
theorem alive_rc {γ : Nat → Option Nat} {H : AH} (hpw : Pw γ H) : AC Tryd.prog H.length γ 7 #[] H (fun v' _ => v' = .bool true) := by
 refine ac_of_aw Tryd.func7 rfl Tryd.ntmps7 Tryd.results7 (by simp) ?_
 refine aw_seq ?_
 (refine aw_ops (by kernel_rfl) (fun K hK => ?_); simp (disch := first | omega | (simp only [lnS]; try omega)) [-getElem?_pos, -getElem?_neg]; refine hK _ _ ?_; clear hK K)
 refine aw_seq ?_
 refine aw_ops (by kernel_rfl) (fun K hK => ?_)
 simp (disch := first | omega | (simp only [lnS]; try omega)) [-getElem?_pos, -getElem?_neg]
 refine ⟨by kernel_rfl, AC.mono (tnew_ac (Nat.le_refl _)) ?_⟩
 rintro _ G1 ⟨rfl, lw1, hL1⟩
 have hl1 : H.length + 1 < G1.length := hget_lt hL1.hb
 have t1 : Tbl G1 (H.length + 1) [H.length + 1, H.length] [] := ⟨H.length, .slice none 0 0, [], [], [], rfl, hL1, rfl, fun j hj => by simp only [List.mem_cons, List.not_mem_nil, or_false] at hj; omega⟩
 obtain ⟨b, hb⟩ : ∃ b, b = H.length + 1 := ⟨_, rfl⟩
 rw [← hb] at t1
 obtain ⟨F1, hF1⟩ : ∃ F1, F1 = [b, H.length] := ⟨_, rfl⟩
 rw [← hF1] at t1
 have n1 : ∀ j ∈ F1, H.length ≤ j := fun j hj => by rw [hF1] at hj; simp only [List.mem_cons, List.not_mem_nil, or_false] at hj; omega
 clear hF1 hL1
 rw [← hb]
 try simp (disch := first | omega | (simp only [lnS]; try omega)) [-getElem?_pos, -getElem?_neg]
 refine hK _ _ ?_; clear hK K
 have d1 := draw_ac (nro := H.length) (hpw.low lw1) t1 n1 lw1.2 (s := ⟨#[107]⟩) (by show 1 ≤ _; omega) (by simp)
 refine aw_seq ?_
 refine aw_ops (by kernel_rfl) (fun K hK => ?_)
 simp (disch := first | omega | (simp only [lnS]; try omega)) [-getElem?_pos, -getElem?_neg]
 refine ⟨by kernel_rfl, AC.mono d1 ?_⟩
 intro v2 G2 q2
 obtain ⟨rfl, hl2, F2, t2, k2, m2⟩ := q2.keep
 have e2 : addT ⟨1, ⟨#[107]⟩, []⟩ [] = [aK] := ad1.1
 have e2n : nameT ⟨1, ⟨#[107]⟩, []⟩ [] = 0 := ad1.2
 rw [e2] at t2
 rw [e2n]
 obtain ⟨N0, hN0⟩ : ∃ N0 : List Int, N0 = nmL ((0 : Nat) : Int) := ⟨_, rfl⟩
 rw [← hN0]
 have lw2 : Low H.length H G2 := ⟨fun j hj => ((k2 j (by have := lw1.2; omega) (fun e => by have := n1 j e; omega)).1).trans (lw1.1 j hj), by have := lw1.2; omega⟩
 have n2 : ∀ j ∈ F2, H.length ≤ j := fun j hj => (m2 j hj).elim (n1 j) (fun e => by have := lw1.2; omega)
 have d2 := draw_ac (nro := H.length) (hpw.low lw2) t2 n2 lw2.2 (s := ⟨#[120]⟩) (by show 1 ≤ _; omega) (by simp)
 try simp (disch := first | omega | (simp only [lnS]; try omega)) [-getElem?_pos, -getElem?_neg]
 refine ⟨by kernel_rfl, AC.mono d2 ?_⟩
 intro v3 G3 q3
 obtain ⟨rfl, hl3, F3, t3, k3, m3⟩ := q3.keep
 have e3 : addT ⟨1, ⟨#[120]⟩, []⟩ [aK] = [aK, aX] := ad2.1
 have e3n : nameT ⟨1, ⟨#[120]⟩, []⟩ [aK] = 1 := ad2.2
 rw [e3] at t3
 rw [e3n]
 obtain ⟨N1, hN1⟩ : ∃ N1 : List Int, N1 = nmL ((1 : Nat) : Int) := ⟨_, rfl⟩
 rw [← hN1]
 have lw3 : Low H.length H G3 := ⟨fun j hj => ((k3 j (by have := lw2.2; omega) (fun e => by have := n2 j e; omega)).1).trans (lw2.1 j hj), by have := lw2.2; omega⟩
 have n3 : ∀ j ∈ F3, H.length ≤ j := fun j hj => (m3 j hj).elim (n2 j) (fun e => by have := lw2.2; omega)
 clear q2 q3 k2 k3 m2 m3 t1 t2 d1 d2 lw1 lw2 n1 n2
 have l0 : N0.length = 32 := by rw [hN0]; rfl
 have l1 : N1.length = 32 := by rw [hN1]; rfl
 have b0 : By N0 := by rw [hN0]; exact nmL_by _
 have b1 : By N1 := by rw [hN1]; exact nmL_by _
 have T0 : (iv .u8 N0).take 32 = iv .u8 N0 := List.take_of_length_le (by simp [l0])
 have T1 : (iv .u8 N1).take 32 = iv .u8 N1 := List.take_of_length_le (by simp [l1])
 have S0 : setR (iv .u8 (zl 32)) 0 (iv .u8 N0) = iv .u8 N0 := setR_all _ _ (by simp [l0])
 have S1 : setR (iv .u8 (zl 32)) 0 (iv .u8 N1) = iv .u8 N1 := setR_all _ _ (by simp [l1])
 have hng3 := lw3.2
 try simp (disch := first | omega | (simp only [lnS]; try omega)) [-getElem?_pos, -getElem?_neg, l0, l1, T0, T1, S0, S1, hng3]
 refine hK _ _ ?_; clear hK K
 obtain ⟨G4, hG4⟩ : ∃ G4 : AH, G4 = G3 ++ [some ⟨iv .u8 N0, 28, none⟩, some ⟨iv .u8 N1, 28, none⟩] := ⟨_, rfl⟩
 have lw34 : Low G3.length G3 G4 := by rw [hG4]; exact ⟨fun j hj => hget_left hj, by simp⟩
 have g40 : hget G4 G3.length = some ⟨iv .u8 N0, 28, none⟩ := by rw [hG4, hget_app0]; rfl
 have g41 : hget G4 (G3.length + 1) = some ⟨iv .u8 N1, 28, none⟩ := by rw [hG4, hget_app]; rfl
 rw [← hG4]
 clear hG4
 have t4 : Tbl G4 b F3 [aK, aX] := t3.low (fun j hj => lw34.1 j (t3.bound j hj)) lw34.2
 have c40 : G3.length ∉ F3 := fun e => by have := t3.bound _ e; omega
 have c41 : G3.length + 1 ∉ F3 := fun e => by have := t3.bound _ e; omega
 have lw4 : Low H.length H G4 := ⟨fun j hj => (lw34.1 j (by omega)).trans (lw3.1 j hj), by have := lw34.2; omega⟩
 obtain ⟨p, hp⟩ : ∃ p, p = G3.length := ⟨_, rfl⟩
 rw [← hp] at g40 g41 c40 c41 ⊢
 have hpl : H.length ≤ p := by omega
 clear t3 lw3 lw34 hng3 hp
 have lg0 := hget_lt g40
 have lg1 := hget_lt g41
 have hsr1 : setR (List.map (fun j => (iv .u8 (zl 32))[j % 32]?.getD undef) (List.range 32)) 0 (iv .u8 N1) = iv .u8 N1 := setR_all _ _ (by simp [l1])
 obtain ⟨R5, hR5⟩ : ∃ R5 : Option Blk, R5 = some ⟨iv .u8 N1, 28, some 32⟩ := ⟨_, rfl⟩
 have d5 := seal_ac (nro := H.length) (γ := γ) (H := G4 ++ [R5]) (hpw.low ⟨fun j hj => (hget_left (by omega)).trans (lw4.1 j hj), by simp; omega⟩) (t4.push [R5]) n3 (by simp; omega) (k := N0) (y := zl 32) l0 rfl (s := ⟨#[116, 101, 120, 116]⟩) (ks := [N1]) (by rw [hN0, hN1]; exact aB_wf) (v := .slice (some ⟨G4.length, 0, none⟩) 1 1) (keys1 l1 (by rw [hget_app0, hR5]; rfl)) (by simp)
 refine aw_seq ?_
 refine aw_ops (by kernel_rfl) (fun K hK => ?_)
 simp (disch := first | omega | (simp only [lnS]; try omega)) [-getElem?_pos, -getElem?_neg, g40, g41, lg0, lg1, T0, T1, hsr1, nt_aggG]
 rw [← hR5]
 refine ⟨by kernel_rfl, AC.mono d5 ?_⟩
 rintro v6 G6 ⟨rfl, q6⟩
 obtain ⟨_, hl6, F6, t6, k6, m6⟩ := q6.keep
 have eB : (⟨6, ⟨#[116, 101, 120, 116]⟩, [N0, zl 32, N1]⟩ : TermD) = aB := by rw [hN0, hN1]; rfl
 rw [eB] at t6 ⊢
 rw [ad3.1] at t6
 rw [ad3.2]
 obtain ⟨N2, hN2⟩ : ∃ N2 : List Int, N2 = nmL ((2 : Nat) : Int) := ⟨_, rfl⟩
 rw [← hN2]
 have l2 : N2.length = 32 := by rw [hN2]; rfl
 have b2 : By N2 := by rw [hN2]; exact nmL_by _
 have T2 : (iv .u8 N2).take 32 = iv .u8 N2 := List.take_of_length_le (by simp [l2])
 have S2 : setR (iv .u8 (zl 32)) 0 (iv .u8 N2) = iv .u8 N2 := setR_all _ _ (by simp [l2])
 have hl45 : (G4 ++ [R5]).length = G4.length + 1 := by simp
 rw [hl45] at hl6 k6 m6
 have lw6 : Low H.length H G6 := ⟨fun j hj => ((k6 j (by omega) (fun e => by have := n3 j e; omega)).1).trans ((hget_left (by omega)).trans (lw4.1 j hj)), by omega⟩
 have n6 : ∀ j ∈ F6, H.length ≤ j := fun j hj => (m6 j hj).elim (n3 j) (fun e => by omega)
 have g60 : hget G6 p = some ⟨iv .u8 N0, 28, none⟩ := ((k6 p (by omega) c40).1).trans ((hget_left lg0).trans g40)
 have g61 : hget G6 (p + 1) = some ⟨iv .u8 N1, 28, none⟩ := ((k6 (p + 1) (by omega) c41).1).trans ((hget_left lg1).trans g41)
 have c60 := (k6 p (by omega) c40).2
 have c61 := (k6 (p + 1) (by omega) c41).2
 try simp (disch := first | omega | (simp only [lnS]; try omega)) [-getElem?_pos, -getElem?_neg]
 refine hK _ _ ?_; clear hK K
 clear d5 k6 m6 n3 c40 c41 q6 t4 g40 g41 lg0 lg1 lw4 hR5 hsr1
 have hng6 := lw6.2
 refine aw_seq ?_
 refine aw_ops (by kernel_rfl) (fun K hK => ?_)
 simp (disch := first | omega | (simp only [lnS]; try omega)) [-getElem?_pos, -getElem?_neg]
 refine ⟨by kernel_rfl, ac_of_rc (key_rc l2 b2) (by rw [pv_tup2, p2_bool, show plain2 (.agg (iv .u8 N2).toArray) = true from iv_plain _ _]; rfl) ?_⟩
 try simp (disch := first | omega | (simp only [lnS]; try omega)) [-getElem?_pos, -getElem?_neg, l2, T2, S2, hng6, nt_aggG]
 refine hK _ _ ?_; clear hK K
 obtain ⟨G7, hG7⟩ : ∃ G7 : AH, G7 = G6 ++ [some ⟨iv .u8 N2, 28, none⟩] := ⟨_, rfl⟩
 have lw67 : Low G6.length G6 G7 := by rw [hG7]; exact ⟨fun j hj => hget_left hj, by simp⟩
 have g72 : hget G7 G6.length = some ⟨iv .u8 N2, 28, none⟩ := by rw [hG7, hget_app0]; rfl
 have hl7 : G7.length = G6.length + 1 := by rw [hG7]; simp
 rw [← hG7]
 clear hG7
 have t7 : Tbl G7 b F6 [aK, aX, aB] := t6.low (fun j hj => lw67.1 j (t6.bound j hj)) lw67.2
 have c72 : G6.length ∉ F6 := fun e => by have := t6.bound _ e; omega
 have lw7 : Low H.length H G7 := ⟨fun j hj => (lw67.1 j (by omega)).trans (lw6.1 j hj), by omega⟩
 have g70 := (lw67.1 p (hget_lt g60)).trans g60
 have g71 := (lw67.1 (p + 1) (hget_lt g61)).trans g61
 obtain ⟨r, hr⟩ : ∃ r, r = G6.length := ⟨_, rfl⟩
 rw [← hr] at g72 c72 ⊢
 have hrl : H.length ≤ r := by omega
 clear t6 lw6 lw67 hng6 hr g60 g61 hl7
 have lg0 := hget_lt g70
 have lg1 := hget_lt g71
 have lg2 := hget_lt g72
 have hng7 := lw7.2
 have hop : openT [aK, aX, aB] N0 (zl 32) (strOfNums N2) = some (⟨#[116, 101, 120, 116]⟩, [N1]) := by
  unfold openT
  rw [sn_size, if_pos l2, nums_of _ b2, hN2, find2]
  dsimp only
  rw [hN0, hN1]
  rfl
 have d8 := open_ac (nro := H.length) (γ := γ) t7 hng7 (k := N0) (y := zl 32) l0 rfl (s := strOfNums N2) (by rw [sn_size, l2]; omega)
 refine aw_seq ?_
 refine aw_ops (by kernel_rfl) (fun K hK => ?_)
 simp (disch := first | omega | (simp only [lnS]; try omega)) [-getElem?_pos, -getElem?_neg, g70, lg0, T0]
 refine ⟨by kernel_rfl, AC.mono d8 ?_⟩
 rintro v8 G8 ⟨lw8, q8⟩
 rw [hop] at q8
 obtain ⟨kv, rfl, ho⟩ := q8
 have hkv := ho.nt
 try simp (disch := first | omega | (simp only [lnS]; try omega)) [-getElem?_pos, -getElem?_neg, -notTuple, hkv.1, hkv.2, nt_strG, nt_boolG]
 refine hK _ _ ?_; clear hK K
 have l8 := lw8.2
 have t8 : Tbl G8 b F6 [aK, aX, aB] := t7.low (fun j hj => lw8.1 j (t7.bound j hj)) lw8.2
 have g80 := (lw8.1 p lg0).trans g70
 have g81 := (lw8.1 (p + 1) lg1).trans g71
 have g82 := (lw8.1 r lg2).trans g72
 have lw8 : Low H.length H G8 := ⟨fun j hj => (lw8.1 j (by omega)).trans (lw7.1 j hj), by omega⟩
 have hK8 : KsV G8 kv [N1] := own_ksv ho (fun z hz => by rw [List.mem_singleton.1 hz]; exact l1)
 have hacc := hK8.acc (fun z hz => by rw [List.mem_singleton.1 hz]; exact l1)
 have hklen : xlen Tryd.prog 33 kv = some (.int .i64 1) := hacc.len
 obtain ⟨q0, y0, t1', t2, t3', t4', t5⟩ := hacc.at_ 0 (by simp)
 have t1 := t1'
 have t2 : xindexAddr Tryd.prog 33 kv (.int .i64 0) = some q0 := t2
 have t4' : y0 = .agg (iv .u8 N1).toArray := t4'
 subst t4'
 have hne : ¬ N0 = N1 := by rw [hN0, hN1]; decide
 have hneb : (N0 == N1) = false := by rw [hN0, hN1]; decide
 have hv29 : fol (folL [aK, aX, aB] [N2, N0]) N1 = true := by rw [hN0, hN1, hN2]; exact al29
 have hv37 : fol (folL [aK, aX, aB] [N2]) N1 = false := by rw [hN1, hN2]; exact al37
 have hTW := aT_wf
 have hks2 : ∀ k ∈ [N2, N0], k.length = 32 := fun k hk => by
  simp only [List.mem_cons, List.not_mem_nil, or_false] at hk
  rcases hk with rfl | rfl
  ·exact l2
  ·exact l0
 have hkb2 : ∀ k ∈ [N2, N0], By k := fun k hk => by
  simp only [List.mem_cons, List.not_mem_nil, or_false] at hk
  rcases hk with rfl | rfl
  ·exact b2
  ·exact b0
 have hks1 : ∀ k ∈ [N2], k.length = 32 := fun k hk => by rw [List.mem_singleton.1 hk]; exact l2
 have hkb1 : ∀ k ∈ [N2], By k := fun k hk => by rw [List.mem_singleton.1 hk]; exact b2
 have hrow2 : setR (setR (List.map (fun j => (iv .u8 (zl 32))[j % 32]?.getD undef) (List.range 64)) 0 (iv .u8 N2)) 32 (iv .u8 N0) = iv .u8 N2 ++ iv .u8 N0 := row2 (by simp) (by simp [l2]) (by simp [l0])
 have hrow1 : setR (List.map (fun j => (iv .u8 (zl 32))[j % 32]?.getD undef) (List.range 32)) 0 (iv .u8 N2) = iv .u8 N2 := setR_all _ _ (by simp [l2])
 have hl8 := lw8.2
 clear d8 t7 g70 g71 g72 lg0 lg1 lg2 lw7 hng7 hop
 refine aw_seq ?_
 refine name_aw (fun β hβ => ?_)
 have e1 : β 1 = .pointer (some ⟨b, 0, none⟩) := by rw [hβ]; (first | (simp [put_at, put_none, fr0_at]; done) | rfl)
 have e2' : β 2 = .pointer (some ⟨p, 0, none⟩) := by rw [hβ]; (first | (simp [put_at, put_none, fr0_at]; done) | rfl)
 have e3 : β 3 = .pointer (some ⟨p + 1, 0, none⟩) := by rw [hβ]; (first | (simp [put_at, put_none, fr0_at]; done) | rfl)
 have e5 : β 5 = .pointer (some ⟨r, 0, none⟩) := by rw [hβ]; (first | (simp [put_at, put_none, fr0_at]; done) | rfl)
 have e7 : β 7 = .string ⟨#[116, 101, 120, 116]⟩ := by rw [hβ]; (first | (simp [put_at, put_none, fr0_at]; done) | rfl)
 have e8 : β 8 = kv := by rw [hβ]; (first | (simp [put_at, put_none, fr0_at]; done) | rfl)
 have e9 : β 9 = .bool true := by rw [hβ]; (first | (simp [put_at, put_none, fr0_at]; done) | rfl)
 clear hβ
 have hND : alJD.Nodup := by decide
 have hST : ∀ (G1 G2 : AH) (i : Nat) (v : Value), G1.length ≤ G2.length → (∀ j, j < G1.length → hget G2 j = hget G1 j) → alJV b kv q0 N0 N1 N2 G1 i v → alJV b kv q0 N0 N1 N2 G2 i v := fun G1 G2 i v h1 h2 h => by
  unfold alJV at h ⊢
  split at h <;> first | exact h | exact row_low h h2 | exact h.low h2
 refine aw_inv alJP (IJ alJD (alJV b kv q0 N0 N1 N2) β G8) (by kernel_rfl) (by kernel_rfl) (by kernel_rfl) (IJ.start rfl) ?_ ?_
 ·intro i s α G k hJ hi0 hsi hd hc hcont
  have j9 := (hJ.lo 9 (by decide)).trans e9
  have j7 := (hJ.lo 7 (by decide)).trans e7
  have j8 := (hJ.lo 8 (by decide)).trans e8
  have j3 := (hJ.lo 3 (by decide)).trans e3
  have j2 := (hJ.lo 2 (by decide)).trans e2'
  have j5 := (hJ.lo 5 (by decide)).trans e5
  have j1 := (hJ.lo 1 (by decide)).trans e1
  have g0 := (hJ.lw.2 p (hget_lt g80)).trans g80
  have g1 := (hJ.lw.2 (p + 1) (hget_lt g81)).trans g81
  have g2 := (hJ.lw.2 r (hget_lt g82)).trans g82
  have lg0 := hget_lt g0
  have lg1 := hget_lt g1
  have lg2 := hget_lt g2
  have lwG : Low H.length H G := ⟨fun j hj => (hJ.lw.2 j (by omega)).trans (lw8.1 j hj), by have := hJ.lw.1; omega⟩
  have tG : Tbl G b F6 [aK, aX, aB] := t8.low (fun j hj => hJ.lw.2 j (t8.bound j hj)) hJ.lw.1
  have u5 := t5 G ⟨hJ.lw.2, hJ.lw.1⟩
  have hi : i = 0 ∨ i = 1 ∨ i = 2 ∨ i = 3 ∨ i = 4 ∨ i = 5 ∨ i = 6 ∨ i = 7 ∨ i = 8 ∨ i = 9 ∨ i = 10 ∨ i = 11 ∨ i = 12 ∨ i = 13 ∨ i = 14 ∨ i = 15 ∨ i = 16 ∨ i = 17 ∨ i = 18 ∨ i = 19 ∨ i = 20 ∨ i = 21 ∨ i = 22 ∨ i = 23 ∨ i = 24 ∨ i = 25 ∨ i = 26 ∨ i = 27 ∨ i = 28 ∨ i = 29 ∨ i = 30 ∨ i = 31 ∨ i = 32 ∨ i = 33 ∨ i = 34 ∨ i = 35 ∨ i = 36 ∨ i = 37 ∨ i = 38 ∨ i = 39 ∨ i = 40 ∨ i = 41 ∨ i = 42 ∨ i = 43 ∨ i = 44 ∨ i = 45 := by have hi0 : i < 46 := hi0; omega
  rcases hi with rfl | rfl | rfl | rfl | rfl | rfl | rfl | rfl | rfl | rfl | rfl | rfl | rfl | rfl | rfl | rfl | rfl | rfl | rfl | rfl | rfl | rfl | rfl | rfl | rfl | rfl | rfl | rfl | rfl | rfl | rfl | rfl | rfl | rfl | rfl | rfl | rfl | rfl | rfl | rfl | rfl | rfl | rfl | rfl | rfl | rfl
  ·unfold XOm
   simp only [List.getElem?_cons_succ, List.getElem?_cons_zero]
   simp (disch := first | omega | (simp only [lnS]; try omega)) [-getElem?_pos, -getElem?_neg, -notTuple, hkv.1, nt_strG, nt_boolG, nt_aggG, nt_intG, nt_ptrG, j9, XO_s, XO_z, XLk_val, XLk_call, headsO, behind, List.length_cons, List.length_nil, List.mem_cons, List.not_mem_nil, or_false, forall_eq_or_imp, forall_eq, List.contains_cons, List.contains_nil]
   exact hcont _ _ (hJ.put hND hST rfl (Nat.le_refl _) (fun _ _ => rfl) rfl)
  ·have f0 : α 35 = .bool true := hJ.val 0 35 rfl (hd 0 (by decide))
   unfold XOm
   simp only [List.getElem?_cons_succ, List.getElem?_cons_zero]
   simp (disch := first | omega | (simp only [lnS]; try omega)) [-getElem?_pos, -getElem?_neg, -notTuple, hkv.1, nt_strG, nt_boolG, nt_aggG, nt_intG, nt_ptrG, f0, XO_s, XO_z, XLk_val, XLk_call, headsO, behind, List.length_cons, List.length_nil, List.mem_cons, List.not_mem_nil, or_false, forall_eq_or_imp, forall_eq, List.contains_cons, List.contains_nil]
   exact hcont _ _ (hJ.put hND hST rfl (Nat.le_refl _) (fun _ _ => rfl) rfl)
  ·have f1 : α 36 = .bool true := hJ.val 1 36 rfl (hd 1 (by decide))
   unfold XOm
   simp only [List.getElem?_cons_succ, List.getElem?_cons_zero]
   simp (disch := first | omega | (simp only [lnS]; try omega)) [-getElem?_pos, -getElem?_neg, -notTuple, hkv.1, nt_strG, nt_boolG, nt_aggG, nt_intG, nt_ptrG, j7, f1, XO_s, XO_z, XLk_val, XLk_call, headsO, behind, List.length_cons, List.length_nil, List.mem_cons, List.not_mem_nil, or_false, forall_eq_or_imp, forall_eq, List.contains_cons, List.contains_nil]
   exact hcont _ _ (hJ.put hND hST rfl (Nat.le_refl _) (fun _ _ => rfl) rfl)
  ·have f1 : α 36 = .bool true := hJ.val 1 36 rfl (hd 1 (by decide))
   have f2 : α 37 = .string ⟨#[116, 101, 120, 116]⟩ := hJ.val 2 37 rfl (hd 2 (by decide))
   unfold XOm
   simp only [List.getElem?_cons_succ, List.getElem?_cons_zero]
   simp (disch := first | omega | (simp only [lnS]; try omega)) [-getElem?_pos, -getElem?_neg, -notTuple, hkv.1, nt_strG, nt_boolG, nt_aggG, nt_intG, nt_ptrG, f1, f2, XO_s, XO_z, XLk_val, XLk_call, headsO, behind, List.length_cons, List.length_nil, List.mem_cons, List.not_mem_nil, or_false, forall_eq_or_imp, forall_eq, List.contains_cons, List.contains_nil]
   exact hcont _ _ (hJ.put hND hST rfl (Nat.le_refl _) (fun _ _ => rfl) rfl)
  ·have f1 : α 36 = .bool true := hJ.val 1 36 rfl (hd 1 (by decide))
   have f3 : α 38 = .bool true := hJ.val 3 38 rfl (hd 3 (by decide))
   unfold XOm
   simp only [List.getElem?_cons_succ, List.getElem?_cons_zero]
   simp (disch := first | omega | (simp only [lnS]; try omega)) [-getElem?_pos, -getElem?_neg, -notTuple, hkv.1, nt_strG, nt_boolG, nt_aggG, nt_intG, nt_ptrG, f1, f3, XO_s, XO_z, XLk_val, XLk_call, headsO, behind, List.length_cons, List.length_nil, List.mem_cons, List.not_mem_nil, or_false, forall_eq_or_imp, forall_eq, List.contains_cons, List.contains_nil]
   exact hcont _ _ (hJ.put hND hST rfl (Nat.le_refl _) (fun _ _ => rfl) rfl)
  ·have f4 : α 39 = .bool true := hJ.val 4 39 rfl (hd 4 (by decide))
   unfold XOm
   simp only [List.getElem?_cons_succ, List.getElem?_cons_zero]
   simp (disch := first | omega | (simp only [lnS]; try omega)) [-getElem?_pos, -getElem?_neg, -notTuple, hkv.1, nt_strG, nt_boolG, nt_aggG, nt_intG, nt_ptrG, f4, XO_s, XO_z, XLk_val, XLk_call, headsO, behind, List.length_cons, List.length_nil, List.mem_cons, List.not_mem_nil, or_false, forall_eq_or_imp, forall_eq, List.contains_cons, List.contains_nil]
   exact hcont _ _ (hJ.put hND hST rfl (Nat.le_refl _) (fun _ _ => rfl) rfl)
  ·have f5 : α 40 = .bool true := hJ.val 5 40 rfl (hd 5 (by decide))
   unfold XOm
   simp only [List.getElem?_cons_succ, List.getElem?_cons_zero]
   simp (disch := first | omega | (simp only [lnS]; try omega)) [-getElem?_pos, -getElem?_neg, -notTuple, hkv.1, nt_strG, nt_boolG, nt_aggG, nt_intG, nt_ptrG, j8, f5, XO_s, XO_z, XLk_val, XLk_call, headsO, behind, List.length_cons, List.length_nil, List.mem_cons, List.not_mem_nil, or_false, forall_eq_or_imp, forall_eq, List.contains_cons, List.contains_nil]
   exact hcont _ _ (hJ.put hND hST rfl (Nat.le_refl _) (fun _ _ => rfl) rfl)
  ·have f5 : α 40 = .bool true := hJ.val 5 40 rfl (hd 5 (by decide))
   have f6 : α 41 = kv := hJ.val 6 41 rfl (hd 6 (by decide))
   unfold XOm
   simp only [List.getElem?_cons_succ, List.getElem?_cons_zero]
   simp (disch := first | omega | (simp only [lnS]; try omega)) [-getElem?_pos, -getElem?_neg, -notTuple, hkv.1, nt_strG, nt_boolG, nt_aggG, nt_intG, nt_ptrG, -xlen, hklen, f5, f6, XO_s, XO_z, XLk_val, XLk_call, headsO, behind, List.length_cons, List.length_nil, List.mem_cons, List.not_mem_nil, or_false, forall_eq_or_imp, forall_eq, List.contains_cons, List.contains_nil]
   exact hcont _ _ (hJ.put hND hST rfl (Nat.le_refl _) (fun _ _ => rfl) rfl)
  ·have f5 : α 40 = .bool true := hJ.val 5 40 rfl (hd 5 (by decide))
   have f7 : α 42 = .int .i64 1 := hJ.val 7 42 rfl (hd 7 (by decide))
   unfold XOm
   simp only [List.getElem?_cons_succ, List.getElem?_cons_zero]
   simp (disch := first | omega | (simp only [lnS]; try omega)) [-getElem?_pos, -getElem?_neg, -notTuple, hkv.1, nt_strG, nt_boolG, nt_aggG, nt_intG, nt_ptrG, f5, f7, XO_s, XO_z, XLk_val, XLk_call, headsO, behind, List.length_cons, List.length_nil, List.mem_cons, List.not_mem_nil, or_false, forall_eq_or_imp, forall_eq, List.contains_cons, List.contains_nil]
   exact hcont _ _ (hJ.put hND hST rfl (Nat.le_refl _) (fun _ _ => rfl) rfl)
  ·have f5 : α 40 = .bool true := hJ.val 5 40 rfl (hd 5 (by decide))
   have f8 : α 43 = .bool true := hJ.val 8 43 rfl (hd 8 (by decide))
   unfold XOm
   simp only [List.getElem?_cons_succ, List.getElem?_cons_zero]
   simp (disch := first | omega | (simp only [lnS]; try omega)) [-getElem?_pos, -getElem?_neg, -notTuple, hkv.1, nt_strG, nt_boolG, nt_aggG, nt_intG, nt_ptrG, f5, f8, XO_s, XO_z, XLk_val, XLk_call, headsO, behind, List.length_cons, List.length_nil, List.mem_cons, List.not_mem_nil, or_false, forall_eq_or_imp, forall_eq, List.contains_cons, List.contains_nil]
   exact hcont _ _ (hJ.put hND hST rfl (Nat.le_refl _) (fun _ _ => rfl) rfl)
  ·have f9 : α 44 = .bool true := hJ.val 9 44 rfl (hd 9 (by decide))
   unfold XOm
   simp only [List.getElem?_cons_succ, List.getElem?_cons_zero]
   simp (disch := first | omega | (simp only [lnS]; try omega)) [-getElem?_pos, -getElem?_neg, -notTuple, hkv.1, nt_strG, nt_boolG, nt_aggG, nt_intG, nt_ptrG, f9, XO_s, XO_z, XLk_val, XLk_call, headsO, behind, List.length_cons, List.length_nil, List.mem_cons, List.not_mem_nil, or_false, forall_eq_or_imp, forall_eq, List.contains_cons, List.contains_nil]
   exact hcont _ _ (hJ.put hND hST rfl (Nat.le_refl _) (fun _ _ => rfl) rfl)
  ·have f10 : α 45 = .bool true := hJ.val 10 45 rfl (hd 10 (by decide))
   unfold XOm
   simp only [List.getElem?_cons_succ, List.getElem?_cons_zero]
   simp (disch := first | omega | (simp only [lnS]; try omega)) [-getElem?_pos, -getElem?_neg, -notTuple, hkv.1, nt_strG, nt_boolG, nt_aggG, nt_intG, nt_ptrG, j8, f10, XO_s, XO_z, XLk_val, XLk_call, headsO, behind, List.length_cons, List.length_nil, List.mem_cons, List.not_mem_nil, or_false, forall_eq_or_imp, forall_eq, List.contains_cons, List.contains_nil]
   exact hcont _ _ (hJ.put hND hST rfl (Nat.le_refl _) (fun _ _ => rfl) rfl)
  ·have f10 : α 45 = .bool true := hJ.val 10 45 rfl (hd 10 (by decide))
   have f11 : α 46 = kv := hJ.val 11 46 rfl (hd 11 (by decide))
   unfold XOm
   simp only [List.getElem?_cons_succ, List.getElem?_cons_zero]
   simp (disch := first | omega | (simp only [lnS]; try omega)) [-getElem?_pos, -getElem?_neg, -notTuple, hkv.1, nt_strG, nt_boolG, nt_aggG, nt_intG, nt_ptrG, -xindexAddr, t2, t1, f10, f11, XO_s, XO_z, XLk_val, XLk_call, headsO, behind, List.length_cons, List.length_nil, List.mem_cons, List.not_mem_nil, or_false, forall_eq_or_imp, forall_eq, List.contains_cons, List.contains_nil]
   exact hcont _ _ (hJ.put hND hST rfl (Nat.le_refl _) (fun _ _ => rfl) rfl)
  ·have f10 : α 45 = .bool true := hJ.val 10 45 rfl (hd 10 (by decide))
   have f12 : α 47 = q0 := hJ.val 12 47 rfl (hd 12 (by decide))
   unfold XOm
   simp only [List.getElem?_cons_succ, List.getElem?_cons_zero]
   simp (disch := first | omega | (simp only [lnS]; try omega)) [-getElem?_pos, -getElem?_neg, -notTuple, hkv.1, nt_strG, nt_boolG, nt_aggG, nt_intG, nt_ptrG, -xload, u5, f10, f12, XO_s, XO_z, XLk_val, XLk_call, headsO, behind, List.length_cons, List.length_nil, List.mem_cons, List.not_mem_nil, or_false, forall_eq_or_imp, forall_eq, List.contains_cons, List.contains_nil]
   exact hcont _ _ (hJ.put hND hST rfl (Nat.le_refl _) (fun _ _ => rfl) rfl)
  ·have f10 : α 45 = .bool true := hJ.val 10 45 rfl (hd 10 (by decide))
   unfold XOm
   simp only [List.getElem?_cons_succ, List.getElem?_cons_zero]
   simp (disch := first | omega | (simp only [lnS]; try omega)) [-getElem?_pos, -getElem?_neg, -notTuple, hkv.1, nt_strG, nt_boolG, nt_aggG, nt_intG, nt_ptrG, j3, g1, lg1, T1, l1, f10, XO_s, XO_z, XLk_val, XLk_call, headsO, behind, List.length_cons, List.length_nil, List.mem_cons, List.not_mem_nil, or_false, forall_eq_or_imp, forall_eq, List.contains_cons, List.contains_nil]
   exact hcont _ _ (hJ.put hND hST rfl (Nat.le_refl _) (fun _ _ => rfl) rfl)
  ·have f10 : α 45 = .bool true := hJ.val 10 45 rfl (hd 10 (by decide))
   have f13 : α 48 = .agg (iv .u8 N1).toArray := hJ.val 13 48 rfl (hd 13 (by decide))
   have f14 : α 49 = .agg (iv .u8 N1).toArray := hJ.val 14 49 rfl (hd 14 (by decide))
   unfold XOm
   simp only [List.getElem?_cons_succ, List.getElem?_cons_zero]
   simp (disch := first | omega | (simp only [lnS]; try omega)) [-getElem?_pos, -getElem?_neg, -notTuple, hkv.1, nt_strG, nt_boolG, nt_aggG, nt_intG, nt_ptrG, l1, f10, f13, f14, XO_s, XO_z, XLk_val, XLk_call, headsO, behind, List.length_cons, List.length_nil, List.mem_cons, List.not_mem_nil, or_false, forall_eq_or_imp, forall_eq, List.contains_cons, List.contains_nil]
   exact hcont _ _ (hJ.put hND hST rfl (Nat.le_refl _) (fun _ _ => rfl) rfl)
  ·have f10 : α 45 = .bool true := hJ.val 10 45 rfl (hd 10 (by decide))
   have f15 : α 50 = .bool true := hJ.val 15 50 rfl (hd 15 (by decide))
   unfold XOm
   simp only [List.getElem?_cons_succ, List.getElem?_cons_zero]
   simp (disch := first | omega | (simp only [lnS]; try omega)) [-getElem?_pos, -getElem?_neg, -notTuple, hkv.1, nt_strG, nt_boolG, nt_aggG, nt_intG, nt_ptrG, f10, f15, XO_s, XO_z, XLk_val, XLk_call, headsO, behind, List.length_cons, List.length_nil, List.mem_cons, List.not_mem_nil, or_false, forall_eq_or_imp, forall_eq, List.contains_cons, List.contains_nil]
   exact hcont _ _ (hJ.put hND hST rfl (Nat.le_refl _) (fun _ _ => rfl) rfl)
  ·have f16 : α 51 = .bool true := hJ.val 16 51 rfl (hd 16 (by decide))
   unfold XOm
   simp only [List.getElem?_cons_succ, List.getElem?_cons_zero]
   simp (disch := first | omega | (simp only [lnS]; try omega)) [-getElem?_pos, -getElem?_neg, -notTuple, hkv.1, nt_strG, nt_boolG, nt_aggG, nt_intG, nt_ptrG, f16, XO_s, XO_z, XLk_val, XLk_call, headsO, behind, List.length_cons, List.length_nil, List.mem_cons, List.not_mem_nil, or_false, forall_eq_or_imp, forall_eq, List.contains_cons, List.contains_nil]
   exact hcont _ _ (hJ.put hND hST rfl (Nat.le_refl _) (fun _ _ => rfl) rfl)
  ·have f17 : α 52 = .bool true := hJ.val 17 52 rfl (hd 17 (by decide))
   unfold XOm
   simp only [List.getElem?_cons_succ, List.getElem?_cons_zero]
   simp (disch := first | omega | (simp only [lnS]; try omega)) [-getElem?_pos, -getElem?_neg, -notTuple, hkv.1, nt_strG, nt_boolG, nt_aggG, nt_intG, nt_ptrG, j2, g0, lg0, T0, l0, f17, XO_s, XO_z, XLk_val, XLk_call, headsO, behind, List.length_cons, List.length_nil, List.mem_cons, List.not_mem_nil, or_false, forall_eq_or_imp, forall_eq, List.contains_cons, List.contains_nil]
   exact hcont _ _ (hJ.put hND hST rfl (Nat.le_refl _) (fun _ _ => rfl) rfl)
  ·have f17 : α 52 = .bool true := hJ.val 17 52 rfl (hd 17 (by decide))
   unfold XOm
   simp only [List.getElem?_cons_succ, List.getElem?_cons_zero]
   simp (disch := first | omega | (simp only [lnS]; try omega)) [-getElem?_pos, -getElem?_neg, -notTuple, hkv.1, nt_strG, nt_boolG, nt_aggG, nt_intG, nt_ptrG, j3, g1, lg1, T1, l1, f17, XO_s, XO_z, XLk_val, XLk_call, headsO, behind, List.length_cons, List.length_nil, List.mem_cons, List.not_mem_nil, or_false, forall_eq_or_imp, forall_eq, List.contains_cons, List.contains_nil]
   exact hcont _ _ (hJ.put hND hST rfl (Nat.le_refl _) (fun _ _ => rfl) rfl)
  ·have f17 : α 52 = .bool true := hJ.val 17 52 rfl (hd 17 (by decide))
   have f18 : α 53 = .agg (iv .u8 N0).toArray := hJ.val 18 53 rfl (hd 18 (by decide))
   have f19 : α 54 = .agg (iv .u8 N1).toArray := hJ.val 19 54 rfl (hd 19 (by decide))
   unfold XOm
   simp only [List.getElem?_cons_succ, List.getElem?_cons_zero]
   simp (disch := first | omega | (simp only [lnS]; try omega)) [-getElem?_pos, -getElem?_neg, -notTuple, hkv.1, nt_strG, nt_boolG, nt_aggG, nt_intG, nt_ptrG, l0, l1, hne, hneb, f17, f18, f19, XO_s, XO_z, XLk_val, XLk_call, headsO, behind, List.length_cons, List.length_nil, List.mem_cons, List.not_mem_nil, or_false, forall_eq_or_imp, forall_eq, List.contains_cons, List.contains_nil]
   exact hcont _ _ (hJ.put hND hST rfl (Nat.le_refl _) (fun _ _ => rfl) rfl)
  ·have f17 : α 52 = .bool true := hJ.val 17 52 rfl (hd 17 (by decide))
   have f20 : α 55 = .bool true := hJ.val 20 55 rfl (hd 20 (by decide))
   unfold XOm
   simp only [List.getElem?_cons_succ, List.getElem?_cons_zero]
   simp (disch := first | omega | (simp only [lnS]; try omega)) [-getElem?_pos, -getElem?_neg, -notTuple, hkv.1, nt_strG, nt_boolG, nt_aggG, nt_intG, nt_ptrG, f17, f20, XO_s, XO_z, XLk_val, XLk_call, headsO, behind, List.length_cons, List.length_nil, List.mem_cons, List.not_mem_nil, or_false, forall_eq_or_imp, forall_eq, List.contains_cons, List.contains_nil]
   exact hcont _ _ (hJ.put hND hST rfl (Nat.le_refl _) (fun _ _ => rfl) rfl)
  ·have f21 : α 56 = .bool true := hJ.val 21 56 rfl (hd 21 (by decide))
   unfold XOm
   simp only [List.getElem?_cons_succ, List.getElem?_cons_zero]
   simp (disch := first | omega | (simp only [lnS]; try omega)) [-getElem?_pos, -getElem?_neg, -notTuple, hkv.1, nt_strG, nt_boolG, nt_aggG, nt_intG, nt_ptrG, f21, XO_s, XO_z, XLk_val, XLk_call, headsO, behind, List.length_cons, List.length_nil, List.mem_cons, List.not_mem_nil, or_false, forall_eq_or_imp, forall_eq, List.contains_cons, List.contains_nil]
   exact hcont _ _ (hJ.put hND hST rfl (Nat.le_refl _) (fun _ _ => rfl) rfl)
  ·have f22 : α 57 = .bool true := hJ.val 22 57 rfl (hd 22 (by decide))
   unfold XOm
   simp only [List.getElem?_cons_succ, List.getElem?_cons_zero]
   simp (disch := first | omega | (simp only [lnS]; try omega)) [-getElem?_pos, -getElem?_neg, -notTuple, hkv.1, nt_strG, nt_boolG, nt_aggG, nt_intG, nt_ptrG, j1, f22, XO_s, XO_z, XLk_val, XLk_call, headsO, behind, List.length_cons, List.length_nil, List.mem_cons, List.not_mem_nil, or_false, forall_eq_or_imp, forall_eq, List.contains_cons, List.contains_nil]
   exact hcont _ _ (hJ.put hND hST rfl (Nat.le_refl _) (fun _ _ => rfl) rfl)
  ·have f22 : α 57 = .bool true := hJ.val 22 57 rfl (hd 22 (by decide))
   unfold XOm
   simp only [List.getElem?_cons_succ, List.getElem?_cons_zero]
   simp (disch := first | omega | (simp only [lnS]; try omega)) [-getElem?_pos, -getElem?_neg, -notTuple, hkv.1, nt_strG, nt_boolG, nt_aggG, nt_intG, nt_ptrG, j5, g2, lg2, T2, l2, f22, XO_s, XO_z, XLk_val, XLk_call, headsO, behind, List.length_cons, List.length_nil, List.mem_cons, List.not_mem_nil, or_false, forall_eq_or_imp, forall_eq, List.contains_cons, List.contains_nil]
   exact hcont _ _ (hJ.put hND hST rfl (Nat.le_refl _) (fun _ _ => rfl) rfl)
  ·have f22 : α 57 = .bool true := hJ.val 22 57 rfl (hd 22 (by decide))
   unfold XOm
   simp only [List.getElem?_cons_succ, List.getElem?_cons_zero]
   simp (disch := first | omega | (simp only [lnS]; try omega)) [-getElem?_pos, -getElem?_neg, -notTuple, hkv.1, nt_strG, nt_boolG, nt_aggG, nt_intG, nt_ptrG, j2, g0, lg0, T0, l0, f22, XO_s, XO_z, XLk_val, XLk_call, headsO, behind, List.length_cons, List.length_nil, List.mem_cons, List.not_mem_nil, or_false, forall_eq_or_imp, forall_eq, List.contains_cons, List.contains_nil]
   exact hcont _ _ (hJ.put hND hST rfl (Nat.le_refl _) (fun _ _ => rfl) rfl)
  ·have f22 : α 57 = .bool true := hJ.val 22 57 rfl (hd 22 (by decide))
   have f24 : α 59 = .agg (iv .u8 N2).toArray := hJ.val 24 59 rfl (hd 24 (by decide))
   have f25 : α 60 = .agg (iv .u8 N0).toArray := hJ.val 25 60 rfl (hd 25 (by decide))
   unfold XOm
   simp only [List.getElem?_cons_succ, List.getElem?_cons_zero]
   simp (disch := first | omega | (simp only [lnS]; try omega)) [-getElem?_pos, -getElem?_neg, -notTuple, hkv.1, nt_strG, nt_boolG, nt_aggG, nt_intG, nt_ptrG, f22, f24, f25, hrow2, XO_s, XO_z, XLk_val, XLk_call, headsO, behind, List.length_cons, List.length_nil, List.mem_cons, List.not_mem_nil, or_false, forall_eq_or_imp, forall_eq, List.contains_cons, List.contains_nil]
   exact hcont _ _ (hJ.put hND hST rfl (by simp) (fun j hj => hget_left hj) ⟨G.length, rfl, by rw [hget_app0]; rfl⟩)
  ·have f22 : α 57 = .bool true := hJ.val 22 57 rfl (hd 22 (by decide))
   have f23 : α 58 = .pointer (some ⟨b, 0, none⟩) := hJ.val 23 58 rfl (hd 23 (by decide))
   have f26 := hJ.val 26 61 rfl (hd 26 (by decide))
   obtain ⟨rr, e, hrr⟩ := f26
   unfold XOm
   simp only [List.getElem?_cons_succ, List.getElem?_cons_zero]
   simp (disch := first | omega | (simp only [lnS]; try omega)) [-getElem?_pos, -getElem?_neg, f22, f23, e, XO_s, XO_z, XLk_val, XLk_call, headsO, behind, List.length_cons, List.length_nil, List.mem_cons, List.not_mem_nil, or_false, forall_eq_or_imp, forall_eq, List.contains_cons, List.contains_nil]
   refine ⟨by kernel_rfl, (follow_ac (nro := H.length) (γ := γ) (hpw.low lwG) tG lwG.2 hTW (ks := [N2, N0]) (keys2 l2 l0 hrr) hks2 hkb2 (by simp)).mono ?_⟩
   rintro v' G' ⟨kx, kb, rfl, lw, e1, e2, _, _⟩
   exact hcont _ _ (hJ.put hND hST rfl lw.2 lw.1 ⟨kx, kb, rfl, e1, e2⟩)
  ·have f22 : α 57 = .bool true := hJ.val 22 57 rfl (hd 22 (by decide))
   unfold XOm
   simp only [List.getElem?_cons_succ, List.getElem?_cons_zero]
   simp (disch := first | omega | (simp only [lnS]; try omega)) [-getElem?_pos, -getElem?_neg, -notTuple, hkv.1, nt_strG, nt_boolG, nt_aggG, nt_intG, nt_ptrG, j3, g1, lg1, T1, l1, f22, XO_s, XO_z, XLk_val, XLk_call, headsO, behind, List.length_cons, List.length_nil, List.mem_cons, List.not_mem_nil, or_false, forall_eq_or_imp, forall_eq, List.contains_cons, List.contains_nil]
   exact hcont _ _ (hJ.put hND hST rfl (Nat.le_refl _) (fun _ _ => rfl) rfl)
  ·have f22 : α 57 = .bool true := hJ.val 22 57 rfl (hd 22 (by decide))
   have f27 := hJ.val 27 62 rfl (hd 27 (by decide))
   have f28 : α 63 = .agg (iv .u8 N1).toArray := hJ.val 28 63 rfl (hd 28 (by decide))
   obtain ⟨kx, kb, e, h1, h2⟩ := f27
   unfold XOm
   simp only [List.getElem?_cons_succ, List.getElem?_cons_zero]
   simp (disch := first | omega | (simp only [lnS]; try omega)) [-getElem?_pos, -getElem?_neg, f22, f28, e, XO_s, XO_z, XLk_val, XLk_call, headsO, behind, List.length_cons, List.length_nil, List.mem_cons, List.not_mem_nil, or_false, forall_eq_or_imp, forall_eq, List.contains_cons, List.contains_nil]
   refine ⟨by kernel_rfl, ac_of_rc (fol1_rc h1 h2 (fol_len _ _) (by omega) l1 b1) (by simp [pv_iv, pv_int, pv_bool, pv_string, pv_tup2, pv_tup3, iv_plain, p2_int, p2_bool, p2_string]) ?_⟩
   exact hcont _ _ (hJ.put hND hST rfl (Nat.le_refl _) (fun _ _ => rfl) (congrArg Value.bool hv29))
  ·have f22 : α 57 = .bool true := hJ.val 22 57 rfl (hd 22 (by decide))
   have f29 : α 64 = .bool true := hJ.val 29 64 rfl (hd 29 (by decide))
   unfold XOm
   simp only [List.getElem?_cons_succ, List.getElem?_cons_zero]
   simp (disch := first | omega | (simp only [lnS]; try omega)) [-getElem?_pos, -getElem?_neg, -notTuple, hkv.1, nt_strG, nt_boolG, nt_aggG, nt_intG, nt_ptrG, f22, f29, XO_s, XO_z, XLk_val, XLk_call, headsO, behind, List.length_cons, List.length_nil, List.mem_cons, List.not_mem_nil, or_false, forall_eq_or_imp, forall_eq, List.contains_cons, List.contains_nil]
   exact hcont _ _ (hJ.put hND hST rfl (Nat.le_refl _) (fun _ _ => rfl) rfl)
  ·have f30 : α 65 = .bool true := hJ.val 30 65 rfl (hd 30 (by decide))
   unfold XOm
   simp only [List.getElem?_cons_succ, List.getElem?_cons_zero]
   simp (disch := first | omega | (simp only [lnS]; try omega)) [-getElem?_pos, -getElem?_neg, -notTuple, hkv.1, nt_strG, nt_boolG, nt_aggG, nt_intG, nt_ptrG, f30, XO_s, XO_z, XLk_val, XLk_call, headsO, behind, List.length_cons, List.length_nil, List.mem_cons, List.not_mem_nil, or_false, forall_eq_or_imp, forall_eq, List.contains_cons, List.contains_nil]
   exact hcont _ _ (hJ.put hND hST rfl (Nat.le_refl _) (fun _ _ => rfl) rfl)
  ·have f31 : α 66 = .bool true := hJ.val 31 66 rfl (hd 31 (by decide))
   unfold XOm
   simp only [List.getElem?_cons_succ, List.getElem?_cons_zero]
   simp (disch := first | omega | (simp only [lnS]; try omega)) [-getElem?_pos, -getElem?_neg, -notTuple, hkv.1, nt_strG, nt_boolG, nt_aggG, nt_intG, nt_ptrG, j1, f31, XO_s, XO_z, XLk_val, XLk_call, headsO, behind, List.length_cons, List.length_nil, List.mem_cons, List.not_mem_nil, or_false, forall_eq_or_imp, forall_eq, List.contains_cons, List.contains_nil]
   exact hcont _ _ (hJ.put hND hST rfl (Nat.le_refl _) (fun _ _ => rfl) rfl)
  ·have f31 : α 66 = .bool true := hJ.val 31 66 rfl (hd 31 (by decide))
   unfold XOm
   simp only [List.getElem?_cons_succ, List.getElem?_cons_zero]
   simp (disch := first | omega | (simp only [lnS]; try omega)) [-getElem?_pos, -getElem?_neg, -notTuple, hkv.1, nt_strG, nt_boolG, nt_aggG, nt_intG, nt_ptrG, j5, g2, lg2, T2, l2, f31, XO_s, XO_z, XLk_val, XLk_call, headsO, behind, List.length_cons, List.length_nil, List.mem_cons, List.not_mem_nil, or_false, forall_eq_or_imp, forall_eq, List.contains_cons, List.contains_nil]
   exact hcont _ _ (hJ.put hND hST rfl (Nat.le_refl _) (fun _ _ => rfl) rfl)
  ·have f31 : α 66 = .bool true := hJ.val 31 66 rfl (hd 31 (by decide))
   have f33 : α 68 = .agg (iv .u8 N2).toArray := hJ.val 33 68 rfl (hd 33 (by decide))
   unfold XOm
   simp only [List.getElem?_cons_succ, List.getElem?_cons_zero]
   simp (disch := first | omega | (simp only [lnS]; try omega)) [-getElem?_pos, -getElem?_neg, -notTuple, hkv.1, nt_strG, nt_boolG, nt_aggG, nt_intG, nt_ptrG, f31, f33, hrow1, XO_s, XO_z, XLk_val, XLk_call, headsO, behind, List.length_cons, List.length_nil, List.mem_cons, List.not_mem_nil, or_false, forall_eq_or_imp, forall_eq, List.contains_cons, List.contains_nil]
   exact hcont _ _ (hJ.put hND hST rfl (by simp) (fun j hj => hget_left hj) ⟨G.length, rfl, by rw [hget_app0]; rfl⟩)
  ·have f31 : α 66 = .bool true := hJ.val 31 66 rfl (hd 31 (by decide))
   have f32 : α 67 = .pointer (some ⟨b, 0, none⟩) := hJ.val 32 67 rfl (hd 32 (by decide))
   have f34 := hJ.val 34 69 rfl (hd 34 (by decide))
   obtain ⟨rr, e, hrr⟩ := f34
   unfold XOm
   simp only [List.getElem?_cons_succ, List.getElem?_cons_zero]
   simp (disch := first | omega | (simp only [lnS]; try omega)) [-getElem?_pos, -getElem?_neg, f31, f32, e, XO_s, XO_z, XLk_val, XLk_call, headsO, behind, List.length_cons, List.length_nil, List.mem_cons, List.not_mem_nil, or_false, forall_eq_or_imp, forall_eq, List.contains_cons, List.contains_nil]
   refine ⟨by kernel_rfl, (follow_ac (nro := H.length) (γ := γ) (hpw.low lwG) tG lwG.2 hTW (ks := [N2]) (keys1 l2 hrr) hks1 hkb1 (by simp)).mono ?_⟩
   rintro v' G' ⟨kx, kb, rfl, lw, e1, e2, _, _⟩
   exact hcont _ _ (hJ.put hND hST rfl lw.2 lw.1 ⟨kx, kb, rfl, e1, e2⟩)
  ·have f31 : α 66 = .bool true := hJ.val 31 66 rfl (hd 31 (by decide))
   unfold XOm
   simp only [List.getElem?_cons_succ, List.getElem?_cons_zero]
   simp (disch := first | omega | (simp only [lnS]; try omega)) [-getElem?_pos, -getElem?_neg, -notTuple, hkv.1, nt_strG, nt_boolG, nt_aggG, nt_intG, nt_ptrG, j3, g1, lg1, T1, l1, f31, XO_s, XO_z, XLk_val, XLk_call, headsO, behind, List.length_cons, List.length_nil, List.mem_cons, List.not_mem_nil, or_false, forall_eq_or_imp, forall_eq, List.contains_cons, List.contains_nil]
   exact hcont _ _ (hJ.put hND hST rfl (Nat.le_refl _) (fun _ _ => rfl) rfl)
  ·have f31 : α 66 = .bool true := hJ.val 31 66 rfl (hd 31 (by decide))
   have f35 := hJ.val 35 70 rfl (hd 35 (by decide))
   have f36 : α 71 = .agg (iv .u8 N1).toArray := hJ.val 36 71 rfl (hd 36 (by decide))
   obtain ⟨kx, kb, e, h1, h2⟩ := f35
   unfold XOm
   simp only [List.getElem?_cons_succ, List.getElem?_cons_zero]
   simp (disch := first | omega | (simp only [lnS]; try omega)) [-getElem?_pos, -getElem?_neg, f31, f36, e, XO_s, XO_z, XLk_val, XLk_call, headsO, behind, List.length_cons, List.length_nil, List.mem_cons, List.not_mem_nil, or_false, forall_eq_or_imp, forall_eq, List.contains_cons, List.contains_nil]
   refine ⟨by kernel_rfl, ac_of_rc (fol1_rc h1 h2 (fol_len _ _) (by omega) l1 b1) (by simp [pv_iv, pv_int, pv_bool, pv_string, pv_tup2, pv_tup3, iv_plain, p2_int, p2_bool, p2_string]) ?_⟩
   exact hcont _ _ (hJ.put hND hST rfl (Nat.le_refl _) (fun _ _ => rfl) (congrArg Value.bool hv37))
  ·have f31 : α 66 = .bool true := hJ.val 31 66 rfl (hd 31 (by decide))
   have f37 : α 72 = .bool false := hJ.val 37 72 rfl (hd 37 (by decide))
   unfold XOm
   simp only [List.getElem?_cons_succ, List.getElem?_cons_zero]
   simp (disch := first | omega | (simp only [lnS]; try omega)) [-getElem?_pos, -getElem?_neg, -notTuple, hkv.1, nt_strG, nt_boolG, nt_aggG, nt_intG, nt_ptrG, f31, f37, XO_s, XO_z, XLk_val, XLk_call, headsO, behind, List.length_cons, List.length_nil, List.mem_cons, List.not_mem_nil, or_false, forall_eq_or_imp, forall_eq, List.contains_cons, List.contains_nil]
   exact hcont _ _ (hJ.put hND hST rfl (Nat.le_refl _) (fun _ _ => rfl) rfl)
  ·have f31 : α 66 = .bool true := hJ.val 31 66 rfl (hd 31 (by decide))
   have f38 : α 73 = .bool true := hJ.val 38 73 rfl (hd 38 (by decide))
   unfold XOm
   simp only [List.getElem?_cons_succ, List.getElem?_cons_zero]
   simp (disch := first | omega | (simp only [lnS]; try omega)) [-getElem?_pos, -getElem?_neg, -notTuple, hkv.1, nt_strG, nt_boolG, nt_aggG, nt_intG, nt_ptrG, f31, f38, XO_s, XO_z, XLk_val, XLk_call, headsO, behind, List.length_cons, List.length_nil, List.mem_cons, List.not_mem_nil, or_false, forall_eq_or_imp, forall_eq, List.contains_cons, List.contains_nil]
   exact hcont _ _ (hJ.put hND hST rfl (Nat.le_refl _) (fun _ _ => rfl) rfl)
  ·have f39 : α 74 = .bool true := hJ.val 39 74 rfl (hd 39 (by decide))
   unfold XOm
   simp only [List.getElem?_cons_succ, List.getElem?_cons_zero]
   simp (disch := first | omega | (simp only [lnS]; try omega)) [-getElem?_pos, -getElem?_neg, -notTuple, hkv.1, nt_strG, nt_boolG, nt_aggG, nt_intG, nt_ptrG, f39, XO_s, XO_z, XLk_val, XLk_call, headsO, behind, List.length_cons, List.length_nil, List.mem_cons, List.not_mem_nil, or_false, forall_eq_or_imp, forall_eq, List.contains_cons, List.contains_nil]
   exact hcont _ _ (hJ.put hND hST rfl (Nat.le_refl _) (fun _ _ => rfl) rfl)
  ·have f40 : α 75 = .bool true := hJ.val 40 75 rfl (hd 40 (by decide))
   unfold XOm
   simp only [List.getElem?_cons_succ, List.getElem?_cons_zero]
   simp (disch := first | omega | (simp only [lnS]; try omega)) [-getElem?_pos, -getElem?_neg, -notTuple, hkv.1, nt_strG, nt_boolG, nt_aggG, nt_intG, nt_ptrG, j1, f40, XO_s, XO_z, XLk_val, XLk_call, headsO, behind, List.length_cons, List.length_nil, List.mem_cons, List.not_mem_nil, or_false, forall_eq_or_imp, forall_eq, List.contains_cons, List.contains_nil]
   exact hcont _ _ (hJ.put hND hST rfl (Nat.le_refl _) (fun _ _ => rfl) rfl)
  ·have f40 : α 75 = .bool true := hJ.val 40 75 rfl (hd 40 (by decide))
   have f41 : α 76 = .pointer (some ⟨b, 0, none⟩) := hJ.val 41 76 rfl (hd 41 (by decide))
   unfold XOm
   simp only [List.getElem?_cons_succ, List.getElem?_cons_zero]
   simp (disch := first | omega | (simp only [lnS]; try omega)) [-getElem?_pos, -getElem?_neg, f40, f41, XO_s, XO_z, XLk_val, XLk_call, headsO, behind, List.length_cons, List.length_nil, List.mem_cons, List.not_mem_nil, or_false, forall_eq_or_imp, forall_eq, List.contains_cons, List.contains_nil]
   refine ⟨by kernel_rfl, ac_of_rc (tlenT_rc tG) (by simp [pv_iv, pv_int, pv_bool, pv_string, pv_tup2, pv_tup3, iv_plain, p2_int, p2_bool, p2_string]) ?_⟩
   exact hcont _ _ (hJ.put hND hST rfl (Nat.le_refl _) (fun _ _ => rfl) rfl)
  ·have f40 : α 75 = .bool true := hJ.val 40 75 rfl (hd 40 (by decide))
   have f42 : α 77 = .int .i64 3 := hJ.val 42 77 rfl (hd 42 (by decide))
   unfold XOm
   simp only [List.getElem?_cons_succ, List.getElem?_cons_zero]
   simp (disch := first | omega | (simp only [lnS]; try omega)) [-getElem?_pos, -getElem?_neg, -notTuple, hkv.1, nt_strG, nt_boolG, nt_aggG, nt_intG, nt_ptrG, f40, f42, XO_s, XO_z, XLk_val, XLk_call, headsO, behind, List.length_cons, List.length_nil, List.mem_cons, List.not_mem_nil, or_false, forall_eq_or_imp, forall_eq, List.contains_cons, List.contains_nil]
   exact hcont _ _ (hJ.put hND hST rfl (Nat.le_refl _) (fun _ _ => rfl) rfl)
  ·have f40 : α 75 = .bool true := hJ.val 40 75 rfl (hd 40 (by decide))
   have f43 : α 78 = .bool true := hJ.val 43 78 rfl (hd 43 (by decide))
   unfold XOm
   simp only [List.getElem?_cons_succ, List.getElem?_cons_zero]
   simp (disch := first | omega | (simp only [lnS]; try omega)) [-getElem?_pos, -getElem?_neg, -notTuple, hkv.1, nt_strG, nt_boolG, nt_aggG, nt_intG, nt_ptrG, f40, f43, XO_s, XO_z, XLk_val, XLk_call, headsO, behind, List.length_cons, List.length_nil, List.mem_cons, List.not_mem_nil, or_false, forall_eq_or_imp, forall_eq, List.contains_cons, List.contains_nil]
   exact hcont _ _ (hJ.put hND hST rfl (Nat.le_refl _) (fun _ _ => rfl) rfl)
  ·have f44 : α 79 = .bool true := hJ.val 44 79 rfl (hd 44 (by decide))
   unfold XOm
   simp only [List.getElem?_cons_succ, List.getElem?_cons_zero]
   simp (disch := first | omega | (simp only [lnS]; try omega)) [-getElem?_pos, -getElem?_neg, -notTuple, hkv.1, nt_strG, nt_boolG, nt_aggG, nt_intG, nt_ptrG, f44, XO_s, XO_z, XLk_val, XLk_call, headsO, behind, List.length_cons, List.length_nil, List.mem_cons, List.not_mem_nil, or_false, forall_eq_or_imp, forall_eq, List.contains_cons, List.contains_nil]
   exact hcont _ _ (hJ.put hND hST rfl (Nat.le_refl _) (fun _ _ => rfl) rfl)
 ·rintro s' α' B hJ hall
  have hsz : s'.size = 46 := hJ.sz
  have e0 : α' 0 = .bool true := hJ.val 45 0 rfl (by
   rw [Array.getD_eq_getD_getElem?, Array.getElem?_eq_getElem (by omega)]
   exact Array.all_eq_true.1 hall 45 (by omega))
  (refine aw_ret ?_; simp (disch := first | omega | (simp only [lnS]; try omega)) [-getElem?_pos, -getElem?_neg, thenQ_ret, scopeQ_ret, inBlockQ_ret, RQ, resL, resV, e0])
end
section
abbrev mA (a : ByteArray) : TermD := ⟨1, a, []⟩
abbrev mU (k : List Int) : TermD := ⟨3, ⟨#[]⟩, [k]⟩
abbrev mK (k l : List Int) : TermD := ⟨4, ⟨#[]⟩, [k, l]⟩
def n0 : List Int := nmL ((0 : Nat) : Int)
def n1 : List Int := nmL ((1 : Nat) : Int)
def n2 : List Int := nmL ((2 : Nat) : Int)
def n3 : List Int := nmL ((3 : Nat) : Int)
def n4 : List Int := nmL ((4 : Nat) : Int)
theorem n01 : ¬ n0 = n1 := by decide
theorem n0_by : By n0 := nmL_by _
theorem n1_by : By n1 := nmL_by _
theorem n2_by : By n2 := nmL_by _
theorem n3_by : By n3 := nmL_by _
theorem n4_by : By n4 := nmL_by _
theorem p0 : pk n0 = some 0 := pk_nm (by omega)
def tD (a b : ByteArray) : List TermD := [mA a, mA b, mU n0, mU n1, mK n0 n1]
theorem sub_wf {T T' : List TermD} (h : ∀ x ∈ T', x.Wf) (hs : T <+: T') : ∀ x ∈ T, x.Wf := fun x hx => h x (hs.subset hx)
theorem mA_wf {a : ByteArray} (h : a.size ≤ 300) : (mA a).Wf := wf_atom (by omega)
section
variable {a b : ByteArray} (ha : a.size ≤ 300) (hb : b.size ≤ 300)
end
end
section
theorem gs_0 (n i : Nat) : (Array.replicate n false).getD i false = false := by
 rw [Array.getD_eq_getD_getElem?, Array.getElem?_replicate]
 split <;> rfl
theorem gs_eq {s : Array Bool} {i : Nat} (h : i < s.size) : (s.setIfInBounds i true).getD i false = true := by
 rw [Array.getD_eq_getD_getElem?, Array.getElem?_setIfInBounds_self_of_lt h]; rfl
theorem gs_ne {s : Array Bool} {i j : Nat} (h : i ≠ j) : (s.setIfInBounds i true).getD j false = s.getD j false := by
 rw [Array.getD_eq_getD_getElem?, Array.getElem?_setIfInBounds_ne h, ← Array.getD_eq_getD_getElem?]
theorem toList_inj {a b : ByteArray} (h : a.toList = b.toList) : a = b := by
 simp only [ByteArray.toList_eq] at h
 obtain ⟨a⟩ := a
 obtain ⟨b⟩ := b
 exact congrArg ByteArray.mk (Array.toList_inj.1 h)
end
section
def db32L : List Int := [0, 1, 28, 2, 29, 14, 24, 3, 30, 22, 20, 15, 25, 17, 4, 8, 31, 27, 13, 23, 21, 19, 16, 7, 26, 12, 18, 6, 11, 5, 10, 9]
def db64L : List Int := [0, 1, 56, 2, 57, 49, 28, 3, 61, 58, 42, 50, 38, 29, 17, 4, 62, 47, 59, 36, 45, 43, 51, 22, 53, 39, 33, 30, 24, 18, 12, 5, 63, 55, 48, 27, 60, 41, 37, 16, 46, 35, 44, 21, 52, 32, 23, 11, 54, 26, 40, 15, 34, 20, 31, 10, 25, 14, 19, 9, 13, 8, 7, 6]
end
section
def n5 : List Int := nmL ((5 : Nat) : Int)
abbrev mH (t : ByteArray) (k : List Int) : TermD := ⟨2, t, [k]⟩
abbrev mS (t : ByteArray) (k y x : List Int) : TermD := ⟨6, t, [k, y, x]⟩
def tH (a b t : ByteArray) : List TermD := [mA a, mA b, mH t n0, mS t n1 n2 n0, mH t n1, mS t n4 n2 n0]
structure HideD (a b t : ByteArray) (X Y Z C E D : List Int) (T1 T2 T3 T4 T5 T6 : List TermD) : Prop where
 h1 : addT (mA a) [] = T1 ∧ nmL (nameT (mA a) []) = X
 h2 : addT (mA b) T1 = T2 ∧ nmL (nameT (mA b) T1) = Y
 h3 : addT (mH t X) T2 = T3 ∧ nmL (nameT (mH t X) T2) = Z
 h4 : addT (mS t Y Z X) T3 = T4 ∧ nmL (nameT (mS t Y Z X) T3) = C
 h5 : addT (mH t Y) T4 = T5 ∧ nmL (nameT (mH t Y) T4) = E
 h6 : addT (mS t E Z X) T5 = T6 ∧ nmL (nameT (mS t E Z X) T5) = D
 w : TWf T6
 len : T1.length ≤ 6 ∧ T2.length ≤ 6 ∧ T3.length ≤ 6 ∧ T4.length ≤ 6 ∧ T5.length ≤ 6 ∧ T6.length ≤ 6
 f1 : fol (folL T6 [Z, C, D]) X = false
 f2 : fol (folL T6 [Z, C, D]) Y = false
 f3 : fol (folL T6 [Z, C, D]) Z = true
 f4 : fol (folL T6 [Z, C, D, Y]) X = true
 op : openT T6 X Z (strOfNums C) = none
theorem mH_wf {t : ByteArray} (ht : t.size ≤ 300) {k : List Int} (h : k.length = 32) (hb : By k) : (mH t k).Wf := by
 refine ⟨(by show 2 ≤ 6; omega), (by show t.size ≤ _; omega), fun y hy => ?_, fun y hy => ?_, (by show 1 ≤ 1000000; omega), fun h => (by cases h), fun h => (by cases h), fun h => (by cases h)⟩
 ·rw [List.mem_singleton.1 hy]; exact h
 ·rw [List.mem_singleton.1 hy]; exact hb
theorem mS_wf {t : ByteArray} (ht : t.size ≤ 300) {k y x : List Int} (hk : k.length = 32) (hbk : By k) (hy : y.length = 32) (hby : By y) (hx : x.length = 32) (hbx : By x) : (mS t k y x).Wf :=
 wf_seal (by omega) hk hbk hy hby (fun z hz => by rw [List.mem_singleton.1 hz]; exact ⟨hx, hbx⟩) (by simp)
section
variable {a b t : ByteArray} (ha : a.size ≤ 300) (hb : b.size ≤ 300) (ht : t.size ≤ 300)
include ha hb ht in
theorem tH_wf : ∀ x ∈ tH a b t, x.Wf := by
 intro x hx
 simp only [tH, List.mem_cons, List.not_mem_nil, or_false] at hx
 rcases hx with rfl | rfl | rfl | rfl | rfl | rfl
 ·exact mA_wf ha
 ·exact mA_wf hb
 ·exact mH_wf ht rfl n0_by
 ·exact mS_wf ht rfl n1_by rfl n2_by rfl n0_by
 ·exact mH_wf ht rfl n1_by
 ·exact mS_wf ht rfl n4_by rfl n2_by rfl n0_by
include ha hb ht in
theorem tH_tw : TWf (tH a b t) := ⟨tH_wf ha hb ht, by simp [tH], fun x hx h4 => by
 simp only [tH, List.mem_cons, List.not_mem_nil, or_false] at hx
 rcases hx with rfl | rfl | rfl | rfl | rfl | rfl
 ·exact absurd (show (1 : Nat) = 4 from h4) (by decide)
 ·exact absurd (show (1 : Nat) = 4 from h4) (by decide)
 ·exact absurd (show (2 : Nat) = 4 from h4) (by decide)
 ·exact absurd (show (6 : Nat) = 4 from h4) (by decide)
 ·exact absurd (show (2 : Nat) = 4 from h4) (by decide)
 ·exact absurd (show (6 : Nat) = 4 from h4) (by decide)⟩
theorem n14 : ¬ n1 = n4 := by decide
include ha hb ht in
theorem hide_d (hne : ¬ a = b) : HideD a b t n0 n1 n2 n3 n4 n5 [mA a] [mA a, mA b] [mA a, mA b, mH t n0] [mA a, mA b, mH t n0, mS t n1 n2 n0] [mA a, mA b, mH t n0, mS t n1 n2 n0, mH t n1] (tH a b t) := by
 have hw := tH_wf ha hb ht
 have e1 := add_new (T := []) (mA_wf ha) (by simp) (by simp)
 have e2 := add_new (T := [mA a]) (mA_wf hb) (sub_wf hw ⟨_, rfl⟩) (by simp [Ne.symm hne])
 have e3 := add_new (T := [mA a, mA b]) (mH_wf ht (k := n0) rfl n0_by) (sub_wf hw ⟨_, rfl⟩) (by simp)
 have e4 := add_new (T := [mA a, mA b, mH t n0]) (mS_wf ht (k := n1) (y := n2) (x := n0) rfl n1_by rfl n2_by rfl n0_by) (sub_wf hw ⟨_, rfl⟩) (by simp)
 have e5 := add_new (T := [mA a, mA b, mH t n0, mS t n1 n2 n0]) (mH_wf ht (k := n1) rfl n1_by) (sub_wf hw ⟨_, rfl⟩) (by simp [Ne.symm n01])
 have e6 := add_new (T := [mA a, mA b, mH t n0, mS t n1 n2 n0, mH t n1]) (mS_wf ht (k := n4) (y := n2) (x := n0) rfl n4_by rfl n2_by rfl n0_by) (sub_wf hw ⟨_, rfl⟩) (by simp [Ne.symm n14])
 refine ⟨⟨e1.1, by rw [e1.2]; rfl⟩, ⟨e2.1, by rw [e2.2]; rfl⟩, ⟨e3.1, by rw [e3.2]; rfl⟩, ⟨e4.1, by rw [e4.2]; rfl⟩, ⟨e5.1, by rw [e5.2]; rfl⟩, ⟨e6.1, by rw [e6.2]; rfl⟩, tH_tw ha hb ht, by simp [tH], by kernel_rfl, by kernel_rfl, by kernel_rfl, by kernel_rfl, ?_⟩
 have g : findT (tH a b t) n3 = some (mS t n1 n2 n0) := rfl
 unfold openT
 rw [sn_size, if_pos (show n3.length = 32 from rfl), nums_of _ n3_by, g]
 dsimp only
 rw [if_neg (fun e => absurd (show n1 = n0 from e.2.1) (Ne.symm n01))]
end
end
section
structure JT (ds : List (Option Nat)) (VP : Nat → Value → Prop) (β : Fm) (P : Array Bool → Fm → AH → Prop) (s : Array Bool) (α : Fm) (G : AH) : Prop where
 sz : s.size = ds.length
 lo : ∀ t, some t ∉ ds → α t = β t
 val : ∀ i t, ds[i]? = some (some t) → s.getD i false = true → VP i (α t)
 hp : P s α G
theorem JT.put {ds : List (Option Nat)} {VP : Nat → Value → Prop} {β : Fm} {P : Array Bool → Fm → AH → Prop} {s : Array Bool} {α : Fm} {G G' : AH} (h : JT ds VP β P s α G) (hnd : ∀ i j t : Nat, ds[i]? = some (some t) → ds[j]? = some (some t) → i = j) {i t : Nat} {v : Value}
  (hi : ds[i]? = some (some t)) (hv : VP i v) (hp : P (s.setIfInBounds i true) (α.put (some t) v) G') : JT ds VP β P (s.setIfInBounds i true) (α.put (some t) v) G' := by
 refine ⟨by simp [h.sz], fun t' ht => ?_, fun j t' hj hs => ?_, hp⟩
 ·have hm : some t ∈ ds := List.mem_of_getElem? hi
  have : t' ≠ t := fun e => ht (e ▸ hm)
  rw [← h.lo t' ht]
  simp [put_at, this]
 ·by_cases hij : i = j
  ·subst hij
   rw [hi] at hj
   cases hj
   simpa [put_at] using hv
  ·rw [gs_ne hij] at hs
   have : t' ≠ t := fun e => hij (hnd i j t hi (e ▸ hj))
   simpa [put_at, this] using h.val j t' hj hs
theorem JT.put0 {ds : List (Option Nat)} {VP : Nat → Value → Prop} {β : Fm} {P : Array Bool → Fm → AH → Prop} {s : Array Bool} {α : Fm} {G G' : AH} (h : JT ds VP β P s α G) {i : Nat} (hi : ds[i]? = some none) (hp : P (s.setIfInBounds i true) α G') : JT ds VP β P (s.setIfInBounds i true) α G' := by
 refine ⟨by simp [h.sz], h.lo, fun j t' hj hs => ?_, hp⟩
 have hij : i ≠ j := fun e => by rw [← e, hi] at hj; cases hj
 rw [gs_ne hij] at hs
 exact h.val j t' hj hs
@[reducible] def HP9 (H : AH) (tb m : Nat) (Q : List (Nat × List Int)) (X Y D : List Int) (T4 T5 T6 : List TermD) (s : Array Bool) (α : Fm) (G : AH) : Prop :=
 ∃ F, Tbl G tb F (if s.getD 10 false = true then T6 else if s.getD 5 false = true then T5 else T4) ∧ Low H.length H G ∧ m ≤ G.length ∧ (∀ j ∈ F, H.length ≤ j) ∧
  (∀ q ∈ Q, hget G q.1 = some ⟨iv .u8 q.2, 28, none⟩ ∧ q.1 ∉ F) ∧
  (s.getD 4 false = true → s.getD 5 false = false → ∃ r, α 69 = .slice (some ⟨r, 0, none⟩) 1 1 ∧ r ∉ F ∧ hget G r = some ⟨iv .u8 Y, 28, some 32⟩) ∧
  (s.getD 9 false = true → s.getD 10 false = false → ∃ r, α 74 = .slice (some ⟨r, 0, none⟩) 1 1 ∧ r ∉ F ∧ hget G r = some ⟨iv .u8 X, 28, some 32⟩) ∧
  (s.getD 15 false = true → ∃ r, α 13 = .pointer (some ⟨r, 0, none⟩) ∧ r ∉ F ∧ m ≤ r ∧ hget G r = some ⟨iv .u8 (if s.getD 16 false = true then D else zl 32), 28, none⟩)
theorem HP9.keep {H : AH} {tb m : Nat} {Q : List (Nat × List Int)} {X Y D : List Int} {T4 T5 T6 : List TermD} {s : Array Bool} {α : Fm} {G : AH} {i t : Nat} {v : Value} (hi : i ∉ [4, 5, 9, 10, 15, 16]) (ht : t ∉ [69, 74, 13]) (h : HP9 H tb m Q X Y D T4 T5 T6 s α G) : HP9 H tb m Q X Y D T4 T5 T6 (s.setIfInBounds i true) (α.put (some t) v) G := by
 simp only [List.mem_cons, List.not_mem_nil, or_false, not_or] at hi ht
 obtain ⟨h1, h2, h3, h4, h5, h6⟩ := hi
 obtain ⟨k1, k2, k3⟩ := ht
 obtain ⟨F, w1, w2, w3, w4, w5, w6, w7, w8⟩ := h
 refine ⟨F, by rw [gs_ne h4, gs_ne h2]; exact w1, w2, w3, w4, w5, fun a b => ?_, fun a b => ?_, fun a => ?_⟩
 ·rw [gs_ne h1] at a
  rw [gs_ne h2] at b
  obtain ⟨r, x1, x2⟩ := w6 a b
  exact ⟨r, by simpa [put_at, Ne.symm k1] using x1, x2⟩
 ·rw [gs_ne h3] at a
  rw [gs_ne h4] at b
  obtain ⟨r, x1, x2⟩ := w7 a b
  exact ⟨r, by simpa [put_at, Ne.symm k2] using x1, x2⟩
 ·rw [gs_ne h5] at a
  rw [gs_ne h6]
  obtain ⟨r, x1, x2⟩ := w8 a
  exact ⟨r, by simpa [put_at, Ne.symm k3] using x1, x2⟩
def hdJD : List (Option Nat) := [some 65, some 66, some 67, some 68, some 69, some 70, some 71, some 72, some 73, some 74, some 75, some 76, some 64, some 77, some 78, some 13, none, some 14]
def hdJP : List (List Nat) := [[], [], [], [], [3], [1, 2, 4], [], [], [], [8], [0, 5, 6, 7, 9], [10], [11], [12], [12], [], [13, 15], [14]]
def hdJV (tb : Nat) (t : ByteArray) (X Y Z E D : List Int) (i : Nat) (v : Value) : Prop := match i with
 | 0 => v = .pointer (some ⟨tb, 0, none⟩)
 | 1 => v = .pointer (some ⟨tb, 0, none⟩)
 | 2 => v = .string t
 | 3 => v = .agg (iv .u8 Y).toArray
 | 5 => v = .agg (iv .u8 E).toArray
 | 6 => v = .agg (iv .u8 Z).toArray
 | 7 => v = .string t
 | 8 => v = .agg (iv .u8 X).toArray
 | 10 => v = .string (strOfNums D)
 | 11 => v = .tuple #[.agg (iv .u8 D).toArray, .bool true]
 | 12 => v = .tuple #[.agg (iv .u8 D).toArray, .bool true]
 | 13 => v = .agg (iv .u8 D).toArray
 | 14 => v = .bool true
 | 17 => v = .bool true
 | _ => True
def hoJD : List Nat := [93, 94, 95, 96, 97, 98, 92, 99, 100, 101, 17, 18, 19]
def hoJP : List (List Nat) := [[], [], [], [], [3], [0, 1, 2, 4], [5], [6], [6], [6], [7], [8], [9]]
def hoJV (tb pc : Nat) (X Z C : List Int) (G : AH) (i : Nat) (v : Value) : Prop := match i with
 | 0 => v = .pointer (some ⟨tb, 0, none⟩)
 | 1 => v = .agg (iv .u8 X).toArray
 | 2 => v = .agg (iv .u8 Z).toArray
 | 3 => v = .slice (some ⟨pc, 0, none⟩) 32 32
 | 4 => v = .string (strOfNums C)
 | 5 => v = .tuple #[.string ⟨#[]⟩, .slice none 0 0, .bool false]
 | 6 => v = .tuple #[.string ⟨#[]⟩, .slice none 0 0, .bool false]
 | 7 => v = .string ⟨#[]⟩
 | 8 => v = .slice none 0 0
 | 9 => v = .bool false
 | 10 => v = .string ⟨#[]⟩
 | 11 => v = .slice none 0 0
 | 12 => v = .bool false
 | _ => True
theorem hd_nd : ∀ i j t : Nat, hdJD[i]? = some (some t) → hdJD[j]? = some (some t) → i = j := by
 have h : ∀ i < 18, ∀ j < 18, hdJD[i]? = hdJD[j]? → i = j := by decide
 intro i j t hi hj
 have hi' : i < 18 := (List.getElem?_eq_some_iff.1 hi).1
 have hj' : j < 18 := (List.getElem?_eq_some_iff.1 hj).1
 exact h i hi' j hj' (hi.trans hj.symm)
theorem keysN {G : AH} {b n : Nat} {ks : List (List Int)} (hn : ks.length = n) (hk : K32 ks) (h : hget G b = some ⟨kr ks, 28, some 32⟩) : KsV G (.slice (some ⟨b, 0, none⟩) n n) ks :=
 kr_ksv (F := [b]) (.inr ⟨b, n, rfl, h, by rw [kr_len hk, hn], rfl⟩) hk
theorem row3 {C a b c : List Value} (h : C.length = 96) (ha : a.length = 32) (hb : b.length = 32) (hc : c.length = 32) : setR (setR (setR C 0 a) 32 b) 64 c = a ++ b ++ c := by
 have e := setR_app a b C 0
 rw [Nat.zero_add, ha] at e
 rw [← e]
 have e2 := setR_app (a ++ b) c C 0
 rw [Nat.zero_add, List.length_append, ha, hb] at e2
 rw [← e2, setR_all _ _ (by simp only [List.length_append]; omega)]
theorem row4 {C a b c d : List Value} (h : C.length = 128) (ha : a.length = 32) (hb : b.length = 32) (hc : c.length = 32) (hd : d.length = 32) : setR (setR (setR (setR C 0 a) 32 b) 64 c) 96 d = a ++ b ++ c ++ d := by
 have e := setR_app a b C 0
 rw [Nat.zero_add, ha] at e
 rw [← e]
 have e2 := setR_app (a ++ b) c C 0
 rw [Nat.zero_add, List.length_append, ha, hb] at e2
 rw [← e2]
 have e3 := setR_app (a ++ b ++ c) d C 0
 rw [Nat.zero_add, List.length_append, List.length_append, ha, hb, hc] at e3
 rw [← e3, setR_all _ _ (by simp only [List.length_append]; omega)]
attribute [local simp] wb_bool wb_undef with_lit XL_nil XL_cons XLc_val XLc_call step1_eq stepW_t stepW_f stepC_n stepC_s stepX_s stepX_n stepN_s calleeX xrecv oneV xop_eq xopR_s xopR_n wantedA_eq wantedG_n wantedG_s plain1_int plain1_bool plain1_string bits_i64 bits_u64 bits_u32 bits_u16 bits_u8 xeqA xagg xcmp xarr allK_iv num_iv calleeOf xread xeff xbin xint xnil xun xstr xload xconv xpart xfield xfieldAddr xindexAddr xindex bnd asInt? xslice xlen xmin xmax xbuild xfill xappend xapp2 xappstr xappmk xcap xcopy xcells eval_tmp eval_const put_at put_none fr0_at cells_agg cells_int cells_bool cells_string cells_ptr cells_slice notTuple tab iv_all hget_app hget_app0 hget_cons0 hget_cons set_app set_app0 setR setR_one QL_nil QL_cons QLc_val stepQ_t stepQ_f stepQC_n stepQC_s stepQX_s SL_nil SL_cons SLc_val stepS_t stepS_f ltT ltF leT leF eqT eqF ltTn ltFn leTn leFn eqTn eqFn beqT beqF bneT bneF wi64 wu64 wu32 wu16 wu8 tmodP tdivP hgetL hgetNe hgetEq setL nums_def nums_len Nat.succ_le_of_lt List.getElem?_cons_zero List.getElem?_cons_succ Option.getD_some Int.toNat_add Int.toNat_mul agM okM agB agI agS agP agL agA okB okI okS okP okSl okA
theorem hides_go {γ : Nat → Option Nat} {H : AH} (hpw : Pw γ H) {a b t : ByteArray} (ha : a.size ≤ 300) (hb : b.size ≤ 300) (ht : t.size ≤ 300) (hne : (a.toList == b.toList) = false) {X Y Z C E D : List Int} {T1 T2 T3 T4 T5 T6 : List TermD} (md : HideD a b t X Y Z C E D T1 T2 T3 T4 T5 T6) :
  AC Tryd.prog H.length γ 5 #[.string a, .string b, .string t] H (fun v' _ => v' = .bool true) := by
 have lX : X.length = 32 := by rw [← md.h1.2]; rfl
 have lY : Y.length = 32 := by rw [← md.h2.2]; rfl
 have lZ : Z.length = 32 := by rw [← md.h3.2]; rfl
 have lC : C.length = 32 := by rw [← md.h4.2]; rfl
 have lE : E.length = 32 := by rw [← md.h5.2]; rfl
 have lD : D.length = 32 := by rw [← md.h6.2]; rfl
 have bX : By X := by rw [← md.h1.2]; exact nmL_by _
 have bY : By Y := by rw [← md.h2.2]; exact nmL_by _
 have bZ : By Z := by rw [← md.h3.2]; exact nmL_by _
 have bC : By C := by rw [← md.h4.2]; exact nmL_by _
 have bE : By E := by rw [← md.h5.2]; exact nmL_by _
 have bD : By D := by rw [← md.h6.2]; exact nmL_by _
 have tkn : ∀ {N : List Int}, N.length = 32 → (iv .u8 N).take 32 = iv .u8 N := fun h => List.take_of_length_le (by simp [h])
 have skn : ∀ {N : List Int}, N.length = 32 → setR (iv .u8 (zl 32)) 0 (iv .u8 N) = iv .u8 N := fun h => setR_all _ _ (by simp [h])
 have tX := tkn lX
 have tY := tkn lY
 have tZ := tkn lZ
 have tC := tkn lC
 have tD := tkn lD
 have sX := skn lX
 have sY := skn lY
 have sZ := skn lZ
 have sC := skn lC
 have sD := skn lD
 have hrow1 : ∀ {k : List Int}, k.length = 32 → setR (List.map (fun j => (iv .u8 (zl 32))[j % 32]?.getD undef) (List.range 32)) 0 (iv .u8 k) = iv .u8 k := fun hk => setR_all _ _ (by simp [hk])
 have hal := fun (G : AH) (hP : Pw γ G) => alive_rc (γ := γ) (H := G) hP
 have ha9 : a.size ≤ 9223372036854775807 := by omega
 have hb9 : b.size ≤ 9223372036854775807 := by omega
 have ht9 : t.size ≤ 9223372036854775807 := by omega
 have ha3 : ¬ (300 : Int) < a.size := by omega
 have hb3 : ¬ (300 : Int) < b.size := by omega
 have ht3 : ¬ (300 : Int) < t.size := by omega
 obtain ⟨hm1, hm2, hm3, hm4, hm5, hm6⟩ := md.len
 refine ac_of_aw Tryd.func5 rfl Tryd.ntmps5 Tryd.results5 (by simp) ?_
 refine aw_seq ?_
 (refine aw_ops (by kernel_rfl) (fun K hK => ?_); simp (disch := first | omega | (simp only [lnS]; try omega)) [-getElem?_pos, -getElem?_neg]; refine hK _ _ ?_; clear hK K)
 refine aw_seq ?_
 refine aw_seq ?_
 refine aw_ops (by kernel_rfl) (fun K hK => ?_)
 simp (disch := first | omega | (simp only [lnS]; try omega)) [-getElem?_pos, -getElem?_neg]
 refine ⟨by kernel_rfl, ac_of_rc (hal _ hpw) (by simp [pv_iv, pv_int, pv_bool, pv_string, pv_tup2, pv_tup3, iv_plain, p2_int, p2_bool, p2_string]) ?_⟩
 try simp (disch := first | omega | (simp only [lnS]; try omega)) [-getElem?_pos, -getElem?_neg]
 refine hK _ _ ?_; clear hK K
 refine aw_f (by (first | (simp [eval_tmp, put_at]; done) | (simp [eval_tmp, put_at]; omega))) (by kernel_rfl) ?_
 refine aw_skip ?_
 refine aw_seq ?_
 refine aw_seq ?_
 (refine aw_ops (by kernel_rfl) (fun K hK => ?_); simp (disch := first | omega | (simp only [lnS]; try omega)) [-getElem?_pos, -getElem?_neg, ha9, hb9, ht9, ha3, hb3, ht3, hne]; refine hK _ _ ?_; clear hK K)
 refine aw_f (by (first | (simp [eval_tmp, put_at]; done) | (simp [eval_tmp, put_at]; omega))) (by kernel_rfl) ?_
 refine aw_skip ?_
 refine aw_seq ?_
 refine aw_ops (by kernel_rfl) (fun K hK => ?_)
 simp (disch := first | omega | (simp only [lnS]; try omega)) [-getElem?_pos, -getElem?_neg]
 refine ⟨by kernel_rfl, AC.mono (tnew_ac (Nat.le_refl _)) ?_⟩
 rintro _ G1 ⟨rfl, lw1, hL1⟩
 have hl1 : H.length + 1 < G1.length := hget_lt hL1.hb
 have t1 : Tbl G1 (H.length + 1) [H.length + 1, H.length] [] := ⟨H.length, .slice none 0 0, [], [], [], rfl, hL1, rfl, fun j hj => by simp only [List.mem_cons, List.not_mem_nil, or_false] at hj; omega⟩
 obtain ⟨tb, htb⟩ : ∃ tb, tb = H.length + 1 := ⟨_, rfl⟩
 rw [← htb] at t1
 obtain ⟨F1, hF1⟩ : ∃ F1, F1 = [tb, H.length] := ⟨_, rfl⟩
 rw [← hF1] at t1
 have n1 : ∀ j ∈ F1, H.length ≤ j := fun j hj => by rw [hF1] at hj; simp only [List.mem_cons, List.not_mem_nil, or_false] at hj; omega
 clear hF1 hL1
 rw [← htb]
 try simp (disch := first | omega | (simp only [lnS]; try omega)) [-getElem?_pos, -getElem?_neg]
 refine hK _ _ ?_; clear hK K
 have d1 := draw_ac (nro := H.length) (hpw.low lw1) t1 n1 lw1.2 (s := a) (by omega) (by simp)
 refine aw_seq ?_
 refine aw_ops (by kernel_rfl) (fun K hK => ?_)
 simp (disch := first | omega | (simp only [lnS]; try omega)) [-getElem?_pos, -getElem?_neg]
 refine ⟨by kernel_rfl, AC.mono d1 ?_⟩
 intro v2 G2 q2
 obtain ⟨rfl, hl2, F2, t2, k2, m2⟩ := q2.keep
 rw [md.h1.1] at t2
 rw [md.h1.2]
 have lw2 : Low H.length H G2 := ⟨fun j hj => ((k2 j (by have := lw1.2; omega) (fun e => by have := n1 j e; omega)).1).trans (lw1.1 j hj), by have := lw1.2; omega⟩
 have n2 : ∀ j ∈ F2, H.length ≤ j := fun j hj => (m2 j hj).elim (n1 j) (fun e => by have := lw1.2; omega)
 have d2 := draw_ac (nro := H.length) (hpw.low lw2) t2 n2 lw2.2 (s := b) (by omega) (by omega)
 try simp (disch := first | omega | (simp only [lnS]; try omega)) [-getElem?_pos, -getElem?_neg]
 refine ⟨by kernel_rfl, AC.mono d2 ?_⟩
 intro v3 G3 q3
 obtain ⟨rfl, hl3, F3, t3, k3, m3⟩ := q3.keep
 rw [md.h2.1] at t3
 rw [md.h2.2]
 have lw3 : Low H.length H G3 := ⟨fun j hj => ((k3 j (by have := lw2.2; omega) (fun e => by have := n2 j e; omega)).1).trans (lw2.1 j hj), by have := lw2.2; omega⟩
 have n3 : ∀ j ∈ F3, H.length ≤ j := fun j hj => (m3 j hj).elim (n2 j) (fun e => by have := lw2.2; omega)
 clear q2 q3 k2 k3 m2 m3 t1 t2 d1 d2 lw1 lw2 n1 n2
 have hng3 := lw3.2
 try simp (disch := first | omega | (simp only [lnS]; try omega)) [-getElem?_pos, -getElem?_neg, lX, lY, tX, tY, sX, sY, hng3]
 refine hK _ _ ?_; clear hK K
 obtain ⟨G4, hG4⟩ : ∃ G4 : AH, G4 = G3 ++ [some ⟨iv .u8 X, 28, none⟩, some ⟨iv .u8 Y, 28, none⟩] := ⟨_, rfl⟩
 have lw34 : Low G3.length G3 G4 := by rw [hG4]; exact ⟨fun j hj => hget_left hj, by simp⟩
 have gx : hget G4 G3.length = some ⟨iv .u8 X, 28, none⟩ := by rw [hG4, hget_app0]; rfl
 have gy : hget G4 (G3.length + 1) = some ⟨iv .u8 Y, 28, none⟩ := by rw [hG4, hget_app]; rfl
 rw [← hG4]
 clear hG4
 have t4 : Tbl G4 tb F3 T2 := t3.low (fun j hj => lw34.1 j (t3.bound j hj)) lw34.2
 have cx : G3.length ∉ F3 := fun e => by have := t3.bound _ e; omega
 have cy : G3.length + 1 ∉ F3 := fun e => by have := t3.bound _ e; omega
 have lw4 : Low H.length H G4 := ⟨fun j hj => (lw34.1 j (by omega)).trans (lw3.1 j hj), by have := lw34.2; omega⟩
 obtain ⟨p, hp⟩ : ∃ p, p = G3.length := ⟨_, rfl⟩
 rw [← hp] at gx gy cx cy ⊢
 have hpl : H.length ≤ p := by omega
 clear t3 lw3 lw34 hng3 hp
 have lx := hget_lt gx
 have ly := hget_lt gy
 have rX := hrow1 lX
 obtain ⟨R5, hR5⟩ : ∃ R5 : Option Blk, R5 = some ⟨iv .u8 X, 28, some 32⟩ := ⟨_, rfl⟩
 have c5 : G4.length ∉ F3 := fun e => by have := t4.bound _ e; omega
 have d5 := hash_ac (nro := H.length) (γ := γ) (H := G4 ++ [R5]) (hpw.low ⟨fun j hj => (hget_left (by have := lw4.2; omega)).trans (lw4.1 j hj), by have := lw4.2; simp; omega⟩) (t4.push [R5]) n3 (by have := lw4.2; simp; omega) (s := t) (ks := [X]) (mH_wf ht lX bX) (v := .slice (some ⟨G4.length, 0, none⟩) 1 1) (fun A _ hA => keys1 lX ((hA G4.length (by simp) c5).trans (by rw [hget_app0, hR5]; rfl))) (by omega)
 refine aw_seq ?_
 refine aw_ops (by kernel_rfl) (fun K hK => ?_)
 simp (disch := first | omega | (simp only [lnS]; try omega)) [-getElem?_pos, -getElem?_neg, gx, lx, tX, rX, nt_aggG]
 rw [← hR5]
 refine ⟨by kernel_rfl, AC.mono d5 ?_⟩
 intro v6 G6 q6
 obtain ⟨rfl, hl6, F6, t6, k6, m6⟩ := q6.keep
 rw [md.h3.1] at t6
 rw [md.h3.2]
 have hl45 : (G4 ++ [R5]).length = G4.length + 1 := by simp
 rw [hl45] at hl6 k6 m6
 have lw6 : Low H.length H G6 := ⟨fun j hj => ((k6 j (by have := lw4.2; omega) (fun e => by have := n3 j e; omega)).1).trans ((hget_left (by have := lw4.2; omega)).trans (lw4.1 j hj)), by have := lw4.2; omega⟩
 have n6 : ∀ j ∈ F6, H.length ≤ j := fun j hj => (m6 j hj).elim (n3 j) (fun e => by have := lw4.2; omega)
 have g6x := ((k6 p (by omega) cx).1).trans ((hget_left lx).trans gx)
 have g6y := ((k6 (p + 1) (by omega) cy).1).trans ((hget_left ly).trans gy)
 have c6x := (k6 p (by omega) cx).2
 have c6y := (k6 (p + 1) (by omega) cy).2
 have hng6 := lw6.2
 clear d5 q6 k6 m6 n3 c5 cx cy t4 gx gy lw4 hR5 lx ly
 try simp (disch := first | omega | (simp only [lnS]; try omega)) [-getElem?_pos, -getElem?_neg, lZ, tZ, sZ, hng6, nt_aggG]
 refine hK _ _ ?_; clear hK K
 obtain ⟨G7, hG7⟩ : ∃ G7 : AH, G7 = G6 ++ [some ⟨iv .u8 Z, 28, none⟩] := ⟨_, rfl⟩
 have k7 : ∀ j, j < G6.length → hget G7 j = hget G6 j := fun j hj => by rw [hG7]; exact hget_left hj
 have gz : hget G7 G6.length = some ⟨iv .u8 Z, 28, none⟩ := by rw [hG7, hget_app0]; rfl
 have hl7 : G7.length = G6.length + 1 := by rw [hG7]; simp
 rw [← hG7]
 clear hG7
 have t7 : Tbl G7 tb F6 T3 := t6.low (fun j hj => k7 j (t6.bound j hj)) (by omega)
 have cz : G6.length ∉ F6 := fun e => by have := t6.bound _ e; omega
 have lw7 : Low H.length H G7 := ⟨fun j hj => (k7 j (by omega)).trans (lw6.1 j hj), by omega⟩
 have gx := (k7 _ (hget_lt g6x)).trans g6x
 have gy := (k7 _ (hget_lt g6y)).trans g6y
 obtain ⟨pz, hpz⟩ : ∃ pz, pz = G6.length := ⟨_, rfl⟩
 rw [← hpz] at gz cz ⊢
 have hzl : H.length ≤ pz := by omega
 clear t6 lw6 k7 hng6 hpz g6x g6y hl7
 have lx := hget_lt gx
 have ly := hget_lt gy
 have lz := hget_lt gz
 obtain ⟨R5, hR5⟩ : ∃ R5 : Option Blk, R5 = some ⟨iv .u8 X, 28, some 32⟩ := ⟨_, rfl⟩
 have d5 := seal_ac (nro := H.length) (γ := γ) (H := G7 ++ [R5]) (hpw.low ⟨fun j hj => (hget_left (by have := lw7.2; omega)).trans (lw7.1 j hj), by have := lw7.2; simp; omega⟩) (t7.push [R5]) n6 (by have := lw7.2; simp; omega) (k := Y) (y := Z) lY lZ (s := t) (ks := [X]) (mS_wf ht lY bY lZ bZ lX bX) (v := .slice (some ⟨G7.length, 0, none⟩) 1 1) (keys1 lX (by rw [hget_app0, hR5]; rfl)) (by omega)
 refine aw_seq ?_
 refine aw_ops (by kernel_rfl) (fun K hK => ?_)
 simp (disch := first | omega | (simp only [lnS]; try omega)) [-getElem?_pos, -getElem?_neg, gx, gy, gz, lx, ly, lz, tX, tY, tZ, rX, nt_aggG]
 rw [← hR5]
 refine ⟨by kernel_rfl, AC.mono d5 ?_⟩
 rintro v6 G8 ⟨rfl, q6⟩
 obtain ⟨_, hl6, F8, t6, k6, m6⟩ := q6.keep
 rw [md.h4.1] at t6
 rw [md.h4.2]
 have hl45 : (G7 ++ [R5]).length = G7.length + 1 := by simp
 rw [hl45] at hl6 k6 m6
 have lw6 : Low H.length H G8 := ⟨fun j hj => ((k6 j (by have := lw7.2; omega) (fun e => by have := n6 j e; omega)).1).trans ((hget_left (by have := lw7.2; omega)).trans (lw7.1 j hj)), by have := lw7.2; omega⟩
 have n8 : ∀ j ∈ F8, H.length ≤ j := fun j hj => (m6 j hj).elim (n6 j) (fun e => by have := lw7.2; omega)
 have g6x := ((k6 p (by omega) c6x).1).trans ((hget_left lx).trans gx)
 have g6y := ((k6 (p + 1) (by omega) c6y).1).trans ((hget_left ly).trans gy)
 have g6z := ((k6 pz (by omega) cz).1).trans ((hget_left lz).trans gz)
 have c8x := (k6 p (by omega) c6x).2
 have c8y := (k6 (p + 1) (by omega) c6y).2
 have c8z := (k6 pz (by omega) cz).2
 have hng6 := lw6.2
 try simp (disch := first | omega | (simp only [lnS]; try omega)) [-getElem?_pos, -getElem?_neg]
 refine ⟨by kernel_rfl, ac_of_rc (key_rc lC bC) (by rw [pv_tup2, p2_bool, show plain2 (.agg (iv .u8 C).toArray) = true from iv_plain _ _]; rfl) ?_⟩
 clear d5 q6 k6 m6 n6 cz c6x c6y t7 gx gy gz lw7 hR5 lx ly lz
 try simp (disch := first | omega | (simp only [lnS]; try omega)) [-getElem?_pos, -getElem?_neg, lC, tC, sC, hng6, nt_aggG]
 refine hK _ _ ?_; clear hK K
 obtain ⟨G9, hG9⟩ : ∃ G9 : AH, G9 = G8 ++ [some ⟨iv .u8 C, 28, none⟩] := ⟨_, rfl⟩
 have k7 : ∀ j, j < G8.length → hget G9 j = hget G8 j := fun j hj => by rw [hG9]; exact hget_left hj
 have gc : hget G9 G8.length = some ⟨iv .u8 C, 28, none⟩ := by rw [hG9, hget_app0]; rfl
 have hl7 : G9.length = G8.length + 1 := by rw [hG9]; simp
 rw [← hG9]
 clear hG9
 have t9 : Tbl G9 tb F8 T4 := t6.low (fun j hj => k7 j (t6.bound j hj)) (by omega)
 have c8c : G8.length ∉ F8 := fun e => by have := t6.bound _ e; omega
 have lw9 : Low H.length H G9 := ⟨fun j hj => (k7 j (by omega)).trans (lw6.1 j hj), by omega⟩
 have gx := (k7 _ (hget_lt g6x)).trans g6x
 have gy := (k7 _ (hget_lt g6y)).trans g6y
 have gz := (k7 _ (hget_lt g6z)).trans g6z
 obtain ⟨pc, hpc⟩ : ∃ pc, pc = G8.length := ⟨_, rfl⟩
 rw [← hpc] at gc c8c ⊢
 clear t6 lw6 k7 hng6 hpc g6x g6y g6z hl7
 obtain ⟨m, hm⟩ : ∃ m, m = G9.length := ⟨_, rfl⟩
 have hmH : H.length ≤ m := by have := lw9.2; omega
 obtain ⟨Q, hQ⟩ : ∃ Q : List (Nat × List Int), Q = [(p, X), (p + 1, Y), (pz, Z), (pc, C)] := ⟨_, rfl⟩
 have q9 : ∀ q ∈ Q, hget G9 q.1 = some ⟨iv .u8 q.2, 28, none⟩ ∧ q.1 ∉ F8 := fun q hq => by
  rw [hQ] at hq
  simp only [List.mem_cons, List.not_mem_nil, or_false] at hq
  rcases hq with rfl | rfl | rfl | rfl
  ·exact ⟨gx, c8x⟩
  ·exact ⟨gy, c8y⟩
  ·exact ⟨gz, c8z⟩
  ·exact ⟨gc, c8c⟩
 have h4lt : ∀ q ∈ Q, q.1 < m := fun q hq => by rw [hm]; exact hget_lt (q9 q hq).1
 have i1 : (p, X) ∈ Q := by rw [hQ]; simp
 have i2 : (p + 1, Y) ∈ Q := by rw [hQ]; simp
 have i3 : (pz, Z) ∈ Q := by rw [hQ]; simp
 have i4 : (pc, C) ∈ Q := by rw [hQ]; simp
 clear gx gy gz gc c8x c8y c8z c8c hQ
 refine aw_seq ?_
 refine name_aw (fun β hβ => ?_)
 have e2 : β 2 = .string t := by rw [hβ]; (first | (simp [put_at, put_none, fr0_at]; done) | rfl)
 have e7 : β 7 = .pointer (some ⟨tb, 0, none⟩) := by rw [hβ]; (first | (simp [put_at, put_none, fr0_at]; done) | rfl)
 have e8 : β 8 = .pointer (some ⟨p, 0, none⟩) := by rw [hβ]; (first | (simp [put_at, put_none, fr0_at]; done) | rfl)
 have e9 : β 9 = .pointer (some ⟨p + 1, 0, none⟩) := by rw [hβ]; (first | (simp [put_at, put_none, fr0_at]; done) | rfl)
 have e10 : β 10 = .pointer (some ⟨pz, 0, none⟩) := by rw [hβ]; (first | (simp [put_at, put_none, fr0_at]; done) | rfl)
 have e11 : β 11 = .pointer (some ⟨pc, 0, none⟩) := by rw [hβ]; (first | (simp [put_at, put_none, fr0_at]; done) | rfl)
 clear hβ
 have hND := hd_nd
 refine aw_inv hdJP (JT hdJD (hdJV tb t X Y Z E D) β (HP9 H tb m Q X Y D T4 T5 T6)) (by kernel_rfl) (by kernel_rfl) (by kernel_rfl) ?_ ?_ ?_
 ·exact ⟨by simp; rfl, fun _ _ => rfl, fun i t' hi h => (by rw [gs_0] at h; cases h), F8, (by rw [gs_0, gs_0]; exact t9), lw9, (by omega), n8, q9, fun h => (by rw [gs_0] at h; cases h), fun h => (by rw [gs_0] at h; cases h), fun h => (by rw [gs_0] at h; cases h)⟩
 ·intro i s α G k hJ hi0 hsi hd hc hcont
  obtain ⟨F, jt, jlw, jn0, jn, j4b, jr4, jr9, ja⟩ := hJ.hp
  have jsz := hJ.sz
  have jsz' : s.size = 18 := jsz
  have j2 := (hJ.lo 2 (by decide)).trans e2
  have j7 := (hJ.lo 7 (by decide)).trans e7
  have j8 := (hJ.lo 8 (by decide)).trans e8
  have j9 := (hJ.lo 9 (by decide)).trans e9
  have j10 := (hJ.lo 10 (by decide)).trans e10
  have gx := (j4b _ i1).1
  have gy := (j4b _ i2).1
  have gz := (j4b _ i3).1
  have lx := hget_lt gx
  have ly := hget_lt gy
  have lz := hget_lt gz
  simp only at gx gy gz lx ly lz
  have hi : i = 0 ∨ i = 1 ∨ i = 2 ∨ i = 3 ∨ i = 4 ∨ i = 5 ∨ i = 6 ∨ i = 7 ∨ i = 8 ∨ i = 9 ∨ i = 10 ∨ i = 11 ∨ i = 12 ∨ i = 13 ∨ i = 14 ∨ i = 15 ∨ i = 16 ∨ i = 17 := by have hi0 : i < 18 := hi0; omega
  rcases hi with rfl | rfl | rfl | rfl | rfl | rfl | rfl | rfl | rfl | rfl | rfl | rfl | rfl | rfl | rfl | rfl | rfl | rfl
  ·unfold XOm
   simp only [List.getElem?_cons_succ, List.getElem?_cons_zero]
   simp (disch := first | omega | (simp only [lnS]; try omega)) [-getElem?_pos, -getElem?_neg, -notTuple, nt_strG, nt_boolG, nt_aggG, nt_intG, nt_ptrG, j7, XO_s, XO_z, XLk_val, XLk_call, headsO, behind, List.length_cons, List.length_nil, List.mem_cons, List.not_mem_nil, or_false, forall_eq_or_imp, forall_eq, List.contains_cons, List.contains_nil]
   exact hcont _ _ (hJ.put hND (t := 65) rfl rfl (hJ.hp.keep (by decide) (by decide)))
  ·unfold XOm
   simp only [List.getElem?_cons_succ, List.getElem?_cons_zero]
   simp (disch := first | omega | (simp only [lnS]; try omega)) [-getElem?_pos, -getElem?_neg, -notTuple, nt_strG, nt_boolG, nt_aggG, nt_intG, nt_ptrG, j7, XO_s, XO_z, XLk_val, XLk_call, headsO, behind, List.length_cons, List.length_nil, List.mem_cons, List.not_mem_nil, or_false, forall_eq_or_imp, forall_eq, List.contains_cons, List.contains_nil]
   exact hcont _ _ (hJ.put hND (t := 66) rfl rfl (hJ.hp.keep (by decide) (by decide)))
  ·unfold XOm
   simp only [List.getElem?_cons_succ, List.getElem?_cons_zero]
   simp (disch := first | omega | (simp only [lnS]; try omega)) [-getElem?_pos, -getElem?_neg, -notTuple, nt_strG, nt_boolG, nt_aggG, nt_intG, nt_ptrG, j2, XO_s, XO_z, XLk_val, XLk_call, headsO, behind, List.length_cons, List.length_nil, List.mem_cons, List.not_mem_nil, or_false, forall_eq_or_imp, forall_eq, List.contains_cons, List.contains_nil]
   exact hcont _ _ (hJ.put hND (t := 67) rfl rfl (hJ.hp.keep (by decide) (by decide)))
  ·unfold XOm
   simp only [List.getElem?_cons_succ, List.getElem?_cons_zero]
   simp (disch := first | omega | (simp only [lnS]; try omega)) [-getElem?_pos, -getElem?_neg, -notTuple, nt_strG, nt_boolG, nt_aggG, nt_intG, nt_ptrG, j9, gy, ly, tY, lY, XO_s, XO_z, XLk_val, XLk_call, headsO, behind, List.length_cons, List.length_nil, List.mem_cons, List.not_mem_nil, or_false, forall_eq_or_imp, forall_eq, List.contains_cons, List.contains_nil]
   exact hcont _ _ (hJ.put hND (t := 68) rfl rfl (hJ.hp.keep (by decide) (by decide)))
  ·have f3 : α 68 = .agg (iv .u8 Y).toArray := hJ.val 3 68 rfl (hd 3 (by decide))
   unfold XOm
   simp only [List.getElem?_cons_succ, List.getElem?_cons_zero]
   simp (disch := first | omega | (simp only [lnS]; try omega)) [-getElem?_pos, -getElem?_neg, -notTuple, nt_strG, nt_boolG, nt_aggG, nt_intG, nt_ptrG, f3, (hrow1 lY), XO_s, XO_z, XLk_val, XLk_call, headsO, behind, List.length_cons, List.length_nil, List.mem_cons, List.not_mem_nil, or_false, forall_eq_or_imp, forall_eq, List.contains_cons, List.contains_nil]
   exact hcont _ _ (hJ.put hND (t := 69) rfl trivial ⟨F, by rw [gs_ne (by decide), gs_ne (by decide)]; exact jt.push _, ⟨fun j hj => (hget_left (by have := jlw.2; omega)).trans (jlw.1 j hj), by have := jlw.2; simp; omega⟩, by simp; omega, jn, fun q hq => ⟨(hget_left (hget_lt (j4b q hq).1)).trans (j4b q hq).1, (j4b q hq).2⟩, fun _ _ => ⟨G.length, by (first | (simp [put_at, put_none, fr0_at]; done) | rfl), fun e => by have := jt.bound _ e; omega, by rw [hget_app0]; rfl⟩, fun h h2 => by
    rw [gs_ne (by decide)] at h h2
    obtain ⟨r, w1, w2, w3⟩ := jr9 h h2
    exact ⟨r, by (first | (simp [put_at, put_none, fr0_at, w1]; done) | rfl), w2, (hget_left (hget_lt w3)).trans w3⟩, fun h => by
    rw [gs_ne (by decide)] at h ⊢
    obtain ⟨r, w1, w2, w3, w4⟩ := ja h
    exact ⟨r, by (first | (simp [put_at, put_none, fr0_at, w1]; done) | rfl), w2, w3, (hget_left (hget_lt w4)).trans w4⟩⟩)
  ·have f1 : α 66 = .pointer (some ⟨tb, 0, none⟩) := hJ.val 1 66 rfl (hd 1 (by decide))
   have f2 : α 67 = .string t := hJ.val 2 67 rfl (hd 2 (by decide))
   obtain ⟨r4, w1, w2, w3⟩ := jr4 (hd 4 (by decide)) hsi
   rw [if_neg (by rw [hc 10 (by decide)]; simp), if_neg (by rw [hsi]; simp)] at jt
   have hcon := hash_ac (nro := H.length) (γ := γ) (hpw.low jlw) jt jn jlw.2 (s := t) (ks := [Y]) (mH_wf ht lY bY) (v := .slice (some ⟨r4, 0, none⟩) 1 1) (fun A _ hA => keys1 lY ((hA _ (hget_lt w3) w2).trans w3)) (by omega)
   unfold XOm
   simp only [List.getElem?_cons_succ, List.getElem?_cons_zero]
   simp (disch := first | omega | (simp only [lnS]; try omega)) [-getElem?_pos, -getElem?_neg, f1, f2, w1, XO_s, XO_z, XLk_val, XLk_call, headsO, behind, List.length_cons, List.length_nil, List.mem_cons, List.not_mem_nil, or_false, forall_eq_or_imp, forall_eq, List.contains_cons, List.contains_nil]
   refine ⟨by kernel_rfl, AC.mono hcon ?_⟩
   intro v' G' q
   obtain ⟨rfl, hlq, F', tq, kq, mq⟩ := q.keep
   rw [md.h5.1] at tq
   rw [md.h5.2]
   exact hcont _ _ (hJ.put hND (t := 70) rfl rfl ⟨F', by rw [gs_ne (by decide), if_neg (by rw [hc 10 (by decide)]; simp), if_pos (gs_eq (by omega))]; exact tq, ⟨fun j hj => ((kq j (by have := jlw.2; omega) (fun e => by have := jn j e; omega)).1).trans (jlw.1 j hj), by have := jlw.2; omega⟩, by omega, fun j hj => (mq j hj).elim (jn j) (fun e => by have := jlw.2; omega), fun q hq => ⟨((kq _ (hget_lt (j4b q hq).1) (j4b q hq).2).1).trans (j4b q hq).1, (kq _ (hget_lt (j4b q hq).1) (j4b q hq).2).2⟩, fun h h2 => (by rw [gs_eq (by omega)] at h2; cases h2), fun h h2 => by
    rw [gs_ne (by decide)] at h h2
    obtain ⟨r, w1, w2, w3⟩ := jr9 h h2
    exact ⟨r, by (first | (simp [put_at, put_none, fr0_at, w1]; done) | rfl), (kq _ (hget_lt w3) w2).2, ((kq _ (hget_lt w3) w2).1).trans w3⟩, fun h => by
    rw [gs_ne (by decide)] at h ⊢
    obtain ⟨r, w1, w2, w3, w4⟩ := ja h
    exact ⟨r, by (first | (simp [put_at, put_none, fr0_at, w1]; done) | rfl), (kq _ (hget_lt w4) w2).2, w3, ((kq _ (hget_lt w4) w2).1).trans w4⟩⟩)
  ·unfold XOm
   simp only [List.getElem?_cons_succ, List.getElem?_cons_zero]
   simp (disch := first | omega | (simp only [lnS]; try omega)) [-getElem?_pos, -getElem?_neg, -notTuple, nt_strG, nt_boolG, nt_aggG, nt_intG, nt_ptrG, j10, gz, lz, tZ, lZ, XO_s, XO_z, XLk_val, XLk_call, headsO, behind, List.length_cons, List.length_nil, List.mem_cons, List.not_mem_nil, or_false, forall_eq_or_imp, forall_eq, List.contains_cons, List.contains_nil]
   exact hcont _ _ (hJ.put hND (t := 71) rfl rfl (hJ.hp.keep (by decide) (by decide)))
  ·unfold XOm
   simp only [List.getElem?_cons_succ, List.getElem?_cons_zero]
   simp (disch := first | omega | (simp only [lnS]; try omega)) [-getElem?_pos, -getElem?_neg, -notTuple, nt_strG, nt_boolG, nt_aggG, nt_intG, nt_ptrG, j2, XO_s, XO_z, XLk_val, XLk_call, headsO, behind, List.length_cons, List.length_nil, List.mem_cons, List.not_mem_nil, or_false, forall_eq_or_imp, forall_eq, List.contains_cons, List.contains_nil]
   exact hcont _ _ (hJ.put hND (t := 72) rfl rfl (hJ.hp.keep (by decide) (by decide)))
  ·unfold XOm
   simp only [List.getElem?_cons_succ, List.getElem?_cons_zero]
   simp (disch := first | omega | (simp only [lnS]; try omega)) [-getElem?_pos, -getElem?_neg, -notTuple, nt_strG, nt_boolG, nt_aggG, nt_intG, nt_ptrG, j8, gx, lx, tX, lX, XO_s, XO_z, XLk_val, XLk_call, headsO, behind, List.length_cons, List.length_nil, List.mem_cons, List.not_mem_nil, or_false, forall_eq_or_imp, forall_eq, List.contains_cons, List.contains_nil]
   exact hcont _ _ (hJ.put hND (t := 73) rfl rfl (hJ.hp.keep (by decide) (by decide)))
  ·have f8 : α 73 = .agg (iv .u8 X).toArray := hJ.val 8 73 rfl (hd 8 (by decide))
   unfold XOm
   simp only [List.getElem?_cons_succ, List.getElem?_cons_zero]
   simp (disch := first | omega | (simp only [lnS]; try omega)) [-getElem?_pos, -getElem?_neg, -notTuple, nt_strG, nt_boolG, nt_aggG, nt_intG, nt_ptrG, f8, (hrow1 lX), XO_s, XO_z, XLk_val, XLk_call, headsO, behind, List.length_cons, List.length_nil, List.mem_cons, List.not_mem_nil, or_false, forall_eq_or_imp, forall_eq, List.contains_cons, List.contains_nil]
   exact hcont _ _ (hJ.put hND (t := 74) rfl trivial ⟨F, by rw [gs_ne (by decide), gs_ne (by decide)]; exact jt.push _, ⟨fun j hj => (hget_left (by have := jlw.2; omega)).trans (jlw.1 j hj), by have := jlw.2; simp; omega⟩, by simp; omega, jn, fun q hq => ⟨(hget_left (hget_lt (j4b q hq).1)).trans (j4b q hq).1, (j4b q hq).2⟩, fun h h2 => by
    rw [gs_ne (by decide)] at h h2
    obtain ⟨r, w1, w2, w3⟩ := jr4 h h2
    exact ⟨r, by (first | (simp [put_at, put_none, fr0_at, w1]; done) | rfl), w2, (hget_left (hget_lt w3)).trans w3⟩, fun _ _ => ⟨G.length, by (first | (simp [put_at, put_none, fr0_at]; done) | rfl), fun e => by have := jt.bound _ e; omega, by rw [hget_app0]; rfl⟩, fun h => by
    rw [gs_ne (by decide)] at h ⊢
    obtain ⟨r, w1, w2, w3, w4⟩ := ja h
    exact ⟨r, by (first | (simp [put_at, put_none, fr0_at, w1]; done) | rfl), w2, w3, (hget_left (hget_lt w4)).trans w4⟩⟩)
  ·have f0 : α 65 = .pointer (some ⟨tb, 0, none⟩) := hJ.val 0 65 rfl (hd 0 (by decide))
   have f5 : α 70 = .agg (iv .u8 E).toArray := hJ.val 5 70 rfl (hd 5 (by decide))
   have f6 : α 71 = .agg (iv .u8 Z).toArray := hJ.val 6 71 rfl (hd 6 (by decide))
   have f7 : α 72 = .string t := hJ.val 7 72 rfl (hd 7 (by decide))
   obtain ⟨r9, w1, w2, w3⟩ := jr9 (hd 9 (by decide)) hsi
   rw [if_neg (by rw [hsi]; simp), if_pos (hd 5 (by decide))] at jt
   have hcon := seal_ac (nro := H.length) (γ := γ) (hpw.low jlw) jt jn jlw.2 lE lZ (s := t) (ks := [X]) (mS_wf ht lE bE lZ bZ lX bX) (v := .slice (some ⟨r9, 0, none⟩) 1 1) (keys1 lX w3) (by omega)
   unfold XOm
   simp only [List.getElem?_cons_succ, List.getElem?_cons_zero]
   simp (disch := first | omega | (simp only [lnS]; try omega)) [-getElem?_pos, -getElem?_neg, f0, f5, f6, f7, w1, XO_s, XO_z, XLk_val, XLk_call, headsO, behind, List.length_cons, List.length_nil, List.mem_cons, List.not_mem_nil, or_false, forall_eq_or_imp, forall_eq, List.contains_cons, List.contains_nil]
   refine ⟨by kernel_rfl, AC.mono hcon ?_⟩
   rintro v' G' ⟨rfl, q⟩
   obtain ⟨_, hlq, F', tq, kq, mq⟩ := q.keep
   rw [md.h6.1] at tq
   rw [md.h6.2]
   exact hcont _ _ (hJ.put hND (t := 75) rfl rfl ⟨F', by rw [if_pos (gs_eq (by omega))]; exact tq, ⟨fun j hj => ((kq j (by have := jlw.2; omega) (fun e => by have := jn j e; omega)).1).trans (jlw.1 j hj), by have := jlw.2; omega⟩, by omega, fun j hj => (mq j hj).elim (jn j) (fun e => by have := jlw.2; omega), fun q hq => ⟨((kq _ (hget_lt (j4b q hq).1) (j4b q hq).2).1).trans (j4b q hq).1, (kq _ (hget_lt (j4b q hq).1) (j4b q hq).2).2⟩, fun h h2 => by
    rw [gs_ne (by decide)] at h h2
    obtain ⟨r, w1, w2, w3⟩ := jr4 h h2
    exact ⟨r, by (first | (simp [put_at, put_none, fr0_at, w1]; done) | rfl), (kq _ (hget_lt w3) w2).2, ((kq _ (hget_lt w3) w2).1).trans w3⟩, fun h h2 => (by rw [gs_eq (by omega)] at h2; cases h2), fun h => by
    rw [gs_ne (by decide)] at h ⊢
    obtain ⟨r, w1, w2, w3, w4⟩ := ja h
    exact ⟨r, by (first | (simp [put_at, put_none, fr0_at, w1]; done) | rfl), (kq _ (hget_lt w4) w2).2, w3, ((kq _ (hget_lt w4) w2).1).trans w4⟩⟩)
  ·have f10 : α 75 = .string (strOfNums D) := hJ.val 10 75 rfl (hd 10 (by decide))
   unfold XOm
   simp only [List.getElem?_cons_succ, List.getElem?_cons_zero]
   simp (disch := first | omega | (simp only [lnS]; try omega)) [-getElem?_pos, -getElem?_neg, f10, XO_s, XO_z, XLk_val, XLk_call, headsO, behind, List.length_cons, List.length_nil, List.mem_cons, List.not_mem_nil, or_false, forall_eq_or_imp, forall_eq, List.contains_cons, List.contains_nil]
   refine ⟨by kernel_rfl, ac_of_rc (key_rc lD bD) (by rw [pv_tup2, p2_bool, show plain2 (.agg (iv .u8 D).toArray) = true from iv_plain _ _]; rfl) ?_⟩
   exact hcont _ _ (hJ.put hND (t := 76) rfl rfl (hJ.hp.keep (by decide) (by decide)))
  ·have f11 : α 76 = .tuple #[.agg (iv .u8 D).toArray, .bool true] := hJ.val 11 76 rfl (hd 11 (by decide))
   unfold XOm
   simp only [List.getElem?_cons_succ, List.getElem?_cons_zero]
   simp (disch := first | omega | (simp only [lnS]; try omega)) [-getElem?_pos, -getElem?_neg, f11, XO_s, XO_z, XLk_val, XLk_call, headsO, behind, List.length_cons, List.length_nil, List.mem_cons, List.not_mem_nil, or_false, forall_eq_or_imp, forall_eq, List.contains_cons, List.contains_nil]
   exact hcont _ _ (hJ.put hND (t := 64) rfl rfl (hJ.hp.keep (by decide) (by decide)))
  ·have f12 : α 64 = .tuple #[.agg (iv .u8 D).toArray, .bool true] := hJ.val 12 64 rfl (hd 12 (by decide))
   unfold XOm
   simp only [List.getElem?_cons_succ, List.getElem?_cons_zero]
   simp (disch := first | omega | (simp only [lnS]; try omega)) [-getElem?_pos, -getElem?_neg, f12, XO_s, XO_z, XLk_val, XLk_call, headsO, behind, List.length_cons, List.length_nil, List.mem_cons, List.not_mem_nil, or_false, forall_eq_or_imp, forall_eq, List.contains_cons, List.contains_nil]
   exact hcont _ _ (hJ.put hND (t := 77) rfl rfl (hJ.hp.keep (by decide) (by decide)))
  ·have f12 : α 64 = .tuple #[.agg (iv .u8 D).toArray, .bool true] := hJ.val 12 64 rfl (hd 12 (by decide))
   unfold XOm
   simp only [List.getElem?_cons_succ, List.getElem?_cons_zero]
   simp (disch := first | omega | (simp only [lnS]; try omega)) [-getElem?_pos, -getElem?_neg, f12, XO_s, XO_z, XLk_val, XLk_call, headsO, behind, List.length_cons, List.length_nil, List.mem_cons, List.not_mem_nil, or_false, forall_eq_or_imp, forall_eq, List.contains_cons, List.contains_nil]
   exact hcont _ _ (hJ.put hND (t := 78) rfl rfl (hJ.hp.keep (by decide) (by decide)))
  ·unfold XOm
   simp only [List.getElem?_cons_succ, List.getElem?_cons_zero]
   simp (disch := first | omega | (simp only [lnS]; try omega)) [-getElem?_pos, -getElem?_neg, nt_aggG, (show H.length ≤ G.length from jlw.2), XO_s, XO_z, XLk_val, XLk_call, headsO, behind, List.length_cons, List.length_nil, List.mem_cons, List.not_mem_nil, or_false, forall_eq_or_imp, forall_eq, List.contains_cons, List.contains_nil]
   exact hcont _ _ (hJ.put hND (t := 13) rfl trivial ⟨F, by rw [gs_ne (by decide), gs_ne (by decide)]; exact jt.push _, ⟨fun j hj => (hget_left (by have := jlw.2; omega)).trans (jlw.1 j hj), by have := jlw.2; simp; omega⟩, by simp; omega, jn, fun q hq => ⟨(hget_left (hget_lt (j4b q hq).1)).trans (j4b q hq).1, (j4b q hq).2⟩, fun h h2 => by
    rw [gs_ne (by decide)] at h h2
    obtain ⟨r, w1, w2, w3⟩ := jr4 h h2
    exact ⟨r, by (first | (simp [put_at, put_none, fr0_at, w1]; done) | rfl), w2, (hget_left (hget_lt w3)).trans w3⟩, fun h h2 => by
    rw [gs_ne (by decide)] at h h2
    obtain ⟨r, w1, w2, w3⟩ := jr9 h h2
    exact ⟨r, by (first | (simp [put_at, put_none, fr0_at, w1]; done) | rfl), w2, (hget_left (hget_lt w3)).trans w3⟩, fun _ => ⟨G.length, by (first | (simp [put_at, put_none, fr0_at]; done) | rfl), fun e => by have := jt.bound _ e; omega, jn0, by rw [gs_ne (by decide), if_neg (by rw [hc 16 (by decide)]; simp), hget_app0]; rfl⟩⟩)
  ·have f13 : α 77 = .agg (iv .u8 D).toArray := hJ.val 13 77 rfl (hd 13 (by decide))
   have hg := jlw.2
   obtain ⟨r, w1, w2, w3, w4⟩ := ja (hd 15 (by decide))
   rw [if_neg (by rw [hsi]; simp)] at w4
   have wl := hget_lt w4
   have w5 : H.length ≤ r := by omega
   unfold XOm
   simp only [List.getElem?_cons_succ, List.getElem?_cons_zero]
   simp (disch := first | omega | (simp only [lnS]; try omega)) [-getElem?_pos, -getElem?_neg, f13, w1, w4, wl, w5, sD, lD, tD, nt_aggG, XO_s, XO_z, XLk_val, XLk_call, headsO, behind, List.length_cons, List.length_nil, List.mem_cons, List.not_mem_nil, or_false, forall_eq_or_imp, forall_eq, List.contains_cons, List.contains_nil]
   exact hcont _ _ (hJ.put0 rfl ⟨F, by rw [gs_ne (by decide), gs_ne (by decide)]; exact jt.low (fun j hj => hget_set_ne (fun e => w2 (e ▸ hj))) (by simp), ⟨fun j hj => (hget_set_ne (by omega)).trans (jlw.1 j hj), by simp; omega⟩, by simp; omega, jn, fun q hq => ⟨(hget_set_ne (by have := h4lt q hq; omega)).trans (j4b q hq).1, (j4b q hq).2⟩, fun h h2 => by
    rw [gs_ne (by decide)] at h h2
    obtain ⟨r2, x1, x2, x3⟩ := jr4 h h2
    refine ⟨r2, x1, x2, ?_⟩
    rw [hget_set_ne (fun e => by
     rw [e, x3] at w4
     simp only [Option.some.injEq, Blk.mk.injEq] at w4
     exact absurd w4.2.2 (by simp))]
    exact x3, fun h h2 => by
    rw [gs_ne (by decide)] at h h2
    obtain ⟨r2, x1, x2, x3⟩ := jr9 h h2
    refine ⟨r2, x1, x2, ?_⟩
    rw [hget_set_ne (fun e => by
     rw [e, x3] at w4
     simp only [Option.some.injEq, Blk.mk.injEq] at w4
     exact absurd w4.2.2 (by simp))]
    exact x3, fun _ => ⟨r, w1, w2, w3, by rw [if_pos (gs_eq (by omega))]; exact hget_set_eq wl⟩⟩)
  ·have f14 : α 78 = .bool true := hJ.val 14 78 rfl (hd 14 (by decide))
   unfold XOm
   simp only [List.getElem?_cons_succ, List.getElem?_cons_zero]
   simp (disch := first | omega | (simp only [lnS]; try omega)) [-getElem?_pos, -getElem?_neg, -notTuple, nt_strG, nt_boolG, nt_aggG, nt_intG, nt_ptrG, f14, XO_s, XO_z, XLk_val, XLk_call, headsO, behind, List.length_cons, List.length_nil, List.mem_cons, List.not_mem_nil, or_false, forall_eq_or_imp, forall_eq, List.contains_cons, List.contains_nil]
   exact hcont _ _ (hJ.put hND (t := 14) rfl rfl (hJ.hp.keep (by decide) (by decide)))
 rintro s α G hJ hall
 have hsz : s.size = 18 := hJ.sz
 have hg : ∀ i, i < 18 → s.getD i false = true := fun i hi => by
  rw [Array.getD_eq_getD_getElem?, Array.getElem?_eq_getElem (by omega)]
  exact Array.all_eq_true.1 hall i (by omega)
 obtain ⟨F, jt, jlw, jn0, jn, j4b, _, _, ja⟩ := hJ.hp
 rw [if_pos (hg 10 (by omega))] at jt
 obtain ⟨pd, a13, cd, hmd, gd⟩ := ja (hg 15 (by omega))
 rw [if_pos (hg 16 (by omega))] at gd
 have a7 := (hJ.lo 7 (by decide)).trans e7
 have a8 := (hJ.lo 8 (by decide)).trans e8
 have a9 := (hJ.lo 9 (by decide)).trans e9
 have a10 := (hJ.lo 10 (by decide)).trans e10
 have a11 := (hJ.lo 11 (by decide)).trans e11
 have gx := (j4b _ i1).1
 have gy := (j4b _ i2).1
 have gz := (j4b _ i3).1
 have gc := (j4b _ i4).1
 simp only at gx gy gz gc
 clear hall hsz hg hJ j4b ja jn0 hmd h4lt q9 t9 lw9 n8 i1 i2 i3 i4 e2 e7 e8 e9 e10 e11 cd
 have lx := hget_lt gx
 have ly := hget_lt gy
 have lz := hget_lt gz
 have lc := hget_lt gc
 have ld := hget_lt gd
 have r3 : setR (setR (setR (List.map (fun j => (iv .u8 (zl 32))[j % 32]?.getD undef) (List.range 96)) 0 (iv .u8 Z)) 32 (iv .u8 C)) 64 (iv .u8 D) = kr [Z, C, D] := by
  rw [row3 (by simp) (by simp [lZ]) (by simp [lC]) (by simp [lD])]
  simp [kr]
 have r4 : setR (setR (setR (setR (List.map (fun j => (iv .u8 (zl 32))[j % 32]?.getD undef) (List.range 128)) 0 (iv .u8 Z)) 32 (iv .u8 C)) 64 (iv .u8 D)) 96 (iv .u8 Y) = kr [Z, C, D, Y] := by
  rw [row4 (by simp) (by simp [lZ]) (by simp [lC]) (by simp [lD]) (by simp [lY])]
  simp [kr]
 have k3 : K32 [Z, C, D] := fun k hk => by
  simp only [List.mem_cons, List.not_mem_nil, or_false] at hk
  rcases hk with rfl | rfl | rfl <;> assumption
 have k4 : K32 [Z, C, D, Y] := fun k hk => by
  simp only [List.mem_cons, List.not_mem_nil, or_false] at hk
  rcases hk with rfl | rfl | rfl | rfl <;> assumption
 have b3 : ∀ k ∈ [Z, C, D], By k := fun k hk => by
  simp only [List.mem_cons, List.not_mem_nil, or_false] at hk
  rcases hk with rfl | rfl | rfl <;> assumption
 have b4 : ∀ k ∈ [Z, C, D, Y], By k := fun k hk => by
  simp only [List.mem_cons, List.not_mem_nil, or_false] at hk
  rcases hk with rfl | rfl | rfl | rfl <;> assumption
 obtain ⟨RA, hRA⟩ : ∃ RA : Option Blk, RA = some ⟨kr [Z, C, D], 28, some 32⟩ := ⟨_, rfl⟩
 have dA := follow_ac (nro := H.length) (γ := γ) (H := G ++ [RA]) (hpw.low ⟨fun j hj => (hget_left (by have := jlw.2; omega)).trans (jlw.1 j hj), by have := jlw.2; simp; omega⟩) (jt.push [RA]) (by have := jlw.2; simp; omega) md.w (v := .slice (some ⟨G.length, 0, none⟩) 3 3) (keysN rfl k3 (by rw [hget_app0, hRA]; rfl)) k3 b3 (by simp)
 refine aw_seq ?_
 refine aw_ops (by kernel_rfl) (fun K hK => ?_)
 simp (disch := first | omega | (simp only [lnS]; try omega)) [-getElem?_pos, -getElem?_neg, a7, a10, a11, a13, gz, gc, gd, lz, lc, ld, tZ, tC, tD, r3, nt_aggG]
 rw [← hRA]
 refine ⟨by kernel_rfl, AC.mono dA ?_⟩
 rintro _ GA ⟨kx, kb, rfl, lwA, e1, e2, _, _⟩
 have hlA : G.length + 1 ≤ GA.length := by have := lwA.2; simpa using this
 have kA : ∀ j, j < G.length → hget GA j = hget G j := fun j hj => (lwA.1 j (by simp; omega)).trans (hget_left hj)
 try simp (disch := first | omega | (simp only [lnS]; try omega)) [-getElem?_pos, -getElem?_neg]
 refine hK _ _ ?_; clear hK K
 have gx := (kA _ lx).trans gx
 have gy := (kA _ ly).trans gy
 have gz := (kA _ lz).trans gz
 have gc := (kA _ lc).trans gc
 have gd := (kA _ ld).trans gd
 have tA : Tbl GA tb F T6 := jt.low (fun j hj => kA j (jt.bound j hj)) (by omega)
 have lwA : Low H.length H GA := ⟨fun j hj => (kA j (by have := jlw.2; omega)).trans (jlw.1 j hj), by have := jlw.2; omega⟩
 clear dA jt jlw kA hRA hlA
 have lx := hget_lt gx
 have ly := hget_lt gy
 have lz := hget_lt gz
 have lc := hget_lt gc
 have ld := hget_lt gd
 obtain ⟨RB, hRB⟩ : ∃ RB : Option Blk, RB = some ⟨kr [Z, C, D, Y], 28, some 32⟩ := ⟨_, rfl⟩
 have dB := follow_ac (nro := H.length) (γ := γ) (H := GA ++ [RB]) (hpw.low ⟨fun j hj => (hget_left (by have := lwA.2; omega)).trans (lwA.1 j hj), by have := lwA.2; simp; omega⟩) (tA.push [RB]) (by have := lwA.2; simp; omega) md.w (v := .slice (some ⟨GA.length, 0, none⟩) 4 4) (keysN rfl k4 (by rw [hget_app0, hRB]; rfl)) k4 b4 (by simp)
 refine aw_seq ?_
 refine aw_ops (by kernel_rfl) (fun K hK => ?_)
 simp (disch := first | omega | (simp only [lnS]; try omega)) [-getElem?_pos, -getElem?_neg, a7, a9, a10, a11, a13, gy, gz, gc, gd, ly, lz, lc, ld, tY, tZ, tC, tD, r4, nt_aggG]
 rw [← hRB]
 refine ⟨by kernel_rfl, AC.mono dB ?_⟩
 rintro _ GB ⟨hx, hb_, rfl, lwB, u1, u2, _, _⟩
 have hlB : GA.length + 1 ≤ GB.length := by have := lwB.2; simpa using this
 have kB : ∀ j, j < GA.length → hget GB j = hget GA j := fun j hj => (lwB.1 j (by simp; omega)).trans (hget_left hj)
 try simp (disch := first | omega | (simp only [lnS]; try omega)) [-getElem?_pos, -getElem?_neg]
 refine hK _ _ ?_; clear hK K
 have bx := (kB _ lx).trans gx
 have by_ := (kB _ ly).trans gy
 have bz := (kB _ lz).trans gz
 have bc := (kB _ lc).trans gc
 have e1 := (kB _ (hget_lt e1)).trans e1
 have e2 := (kB _ (hget_lt e2)).trans e2
 have tB : Tbl GB tb F T6 := tA.low (fun j hj => kB j (tA.bound j hj)) (by omega)
 have lwB : Low H.length H GB := ⟨fun j hj => (kB j (by have := lwA.2; omega)).trans (lwA.1 j hj), by have := lwA.2; omega⟩
 obtain ⟨FB, hFB⟩ : ∃ FB, FB = F := ⟨_, rfl⟩
 rw [← hFB] at tB
 clear dB tA lwA kB hRB hlB gx gy gz gc gd lx ly lz lc ld
 have hblC := byteList_iv C
 refine aw_seq ?_
 refine name_aw (fun β2 hβ => ?_)
 have u7 : β2 7 = .pointer (some ⟨tb, 0, none⟩) := by rw [hβ]; (first | (simp [put_at, put_none, fr0_at, a7]; done) | rfl)
 have u8 : β2 8 = .pointer (some ⟨p, 0, none⟩) := by rw [hβ]; (first | (simp [put_at, put_none, fr0_at, a8]; done) | rfl)
 have u9 : β2 9 = .pointer (some ⟨p + 1, 0, none⟩) := by rw [hβ]; (first | (simp [put_at, put_none, fr0_at, a9]; done) | rfl)
 have u10 : β2 10 = .pointer (some ⟨pz, 0, none⟩) := by rw [hβ]; (first | (simp [put_at, put_none, fr0_at, a10]; done) | rfl)
 have u11 : β2 11 = .pointer (some ⟨pc, 0, none⟩) := by rw [hβ]; (first | (simp [put_at, put_none, fr0_at, a11]; done) | rfl)
 have u15 : β2 15 = .func (.func 37) #[] #[.pointer (some ⟨kx, 0, none⟩)] := by rw [hβ]; (first | (simp [put_at, put_none, fr0_at]; done) | rfl)
 have u16 : β2 16 = .func (.func 37) #[] #[.pointer (some ⟨hx, 0, none⟩)] := by rw [hβ]; (first | (simp [put_at, put_none, fr0_at]; done) | rfl)
 clear hβ a7 a8 a9 a10 a11 a13
 have hND2 : hoJD.Nodup := by decide
 have hST2 : ∀ (G1 G2 : AH) (i : Nat) (v : Value), G1.length ≤ G2.length → (∀ j, j < G1.length → hget G2 j = hget G1 j) → hoJV tb pc X Z C G1 i v → hoJV tb pc X Z C G2 i v := fun G1 G2 i v h1 h2 h => by
  unfold hoJV at h ⊢
  split at h <;> exact h
 refine aw_inv hoJP (IJ hoJD (hoJV tb pc X Z C) β2 GB) (by kernel_rfl) (by kernel_rfl) (by kernel_rfl) (IJ.start rfl) ?_ ?_
 ·intro i s α G k hJ hi0 hsi hd hc hcont
  have j7 := (hJ.lo 7 (by decide)).trans u7
  have j8 := (hJ.lo 8 (by decide)).trans u8
  have j10 := (hJ.lo 10 (by decide)).trans u10
  have j11 := (hJ.lo 11 (by decide)).trans u11
  have gx := (hJ.lw.2 _ (hget_lt bx)).trans bx
  have gz := (hJ.lw.2 _ (hget_lt bz)).trans bz
  have gc := (hJ.lw.2 _ (hget_lt bc)).trans bc
  have lx := hget_lt gx
  have lz := hget_lt gz
  have lc := hget_lt gc
  have lwG : Low H.length H G := ⟨fun j hj => (hJ.lw.2 j (by have := lwB.2; omega)).trans (lwB.1 j hj), by have := hJ.lw.1; have := lwB.2; omega⟩
  have tG : Tbl G tb FB T6 := tB.low (fun j hj => hJ.lw.2 j (tB.bound j hj)) hJ.lw.1
  have hi : i = 0 ∨ i = 1 ∨ i = 2 ∨ i = 3 ∨ i = 4 ∨ i = 5 ∨ i = 6 ∨ i = 7 ∨ i = 8 ∨ i = 9 ∨ i = 10 ∨ i = 11 ∨ i = 12 := by have hi0 : i < 13 := hi0; omega
  rcases hi with rfl | rfl | rfl | rfl | rfl | rfl | rfl | rfl | rfl | rfl | rfl | rfl | rfl
  ·unfold XOm
   simp only [List.getElem?_cons_succ, List.getElem?_cons_zero]
   simp (disch := first | omega | (simp only [lnS]; try omega)) [-getElem?_pos, -getElem?_neg, -notTuple, nt_strG, nt_boolG, nt_aggG, nt_intG, nt_ptrG, nt_slG, j7, XO_s, XO_z, XLk_val, XLk_call, headsO, behind, List.length_cons, List.length_nil, List.mem_cons, List.not_mem_nil, or_false, forall_eq_or_imp, forall_eq, List.contains_cons, List.contains_nil]
   exact hcont _ _ (hJ.put hND2 hST2 rfl (Nat.le_refl _) (fun _ _ => rfl) rfl)
  ·unfold XOm
   simp only [List.getElem?_cons_succ, List.getElem?_cons_zero]
   simp (disch := first | omega | (simp only [lnS]; try omega)) [-getElem?_pos, -getElem?_neg, -notTuple, nt_strG, nt_boolG, nt_aggG, nt_intG, nt_ptrG, nt_slG, j8, gx, lx, tX, lX, XO_s, XO_z, XLk_val, XLk_call, headsO, behind, List.length_cons, List.length_nil, List.mem_cons, List.not_mem_nil, or_false, forall_eq_or_imp, forall_eq, List.contains_cons, List.contains_nil]
   exact hcont _ _ (hJ.put hND2 hST2 rfl (Nat.le_refl _) (fun _ _ => rfl) rfl)
  ·unfold XOm
   simp only [List.getElem?_cons_succ, List.getElem?_cons_zero]
   simp (disch := first | omega | (simp only [lnS]; try omega)) [-getElem?_pos, -getElem?_neg, -notTuple, nt_strG, nt_boolG, nt_aggG, nt_intG, nt_ptrG, nt_slG, j10, gz, lz, tZ, lZ, XO_s, XO_z, XLk_val, XLk_call, headsO, behind, List.length_cons, List.length_nil, List.mem_cons, List.not_mem_nil, or_false, forall_eq_or_imp, forall_eq, List.contains_cons, List.contains_nil]
   exact hcont _ _ (hJ.put hND2 hST2 rfl (Nat.le_refl _) (fun _ _ => rfl) rfl)
  ·unfold XOm
   simp only [List.getElem?_cons_succ, List.getElem?_cons_zero]
   simp (disch := first | omega | (simp only [lnS]; try omega)) [-getElem?_pos, -getElem?_neg, -notTuple, nt_strG, nt_boolG, nt_aggG, nt_intG, nt_ptrG, nt_slG, j11, gc, lc, lC, XO_s, XO_z, XLk_val, XLk_call, headsO, behind, List.length_cons, List.length_nil, List.mem_cons, List.not_mem_nil, or_false, forall_eq_or_imp, forall_eq, List.contains_cons, List.contains_nil]
   exact hcont _ _ (hJ.put hND2 hST2 rfl (Nat.le_refl _) (fun _ _ => rfl) rfl)
  ·have f3 : α 96 = .slice (some ⟨pc, 0, none⟩) 32 32 := hJ.val 3 96 rfl (hd 3 (by decide))
   unfold XOm
   simp only [List.getElem?_cons_succ, List.getElem?_cons_zero]
   simp (disch := first | omega | (simp only [lnS]; try omega)) [-getElem?_pos, -getElem?_neg, -notTuple, nt_strG, nt_boolG, nt_aggG, nt_intG, nt_ptrG, nt_slG, gc, lc, lC, tC, hblC, f3, XO_s, XO_z, XLk_val, XLk_call, headsO, behind, List.length_cons, List.length_nil, List.mem_cons, List.not_mem_nil, or_false, forall_eq_or_imp, forall_eq, List.contains_cons, List.contains_nil]
   exact hcont _ _ (hJ.put hND2 hST2 rfl (Nat.le_refl _) (fun _ _ => rfl) rfl)
  ·have f0 : α 93 = .pointer (some ⟨tb, 0, none⟩) := hJ.val 0 93 rfl (hd 0 (by decide))
   have f1 : α 94 = .agg (iv .u8 X).toArray := hJ.val 1 94 rfl (hd 1 (by decide))
   have f2 : α 95 = .agg (iv .u8 Z).toArray := hJ.val 2 95 rfl (hd 2 (by decide))
   have f4 : α 97 = .string (strOfNums C) := hJ.val 4 97 rfl (hd 4 (by decide))
   unfold XOm
   simp only [List.getElem?_cons_succ, List.getElem?_cons_zero]
   simp (disch := first | omega | (simp only [lnS]; try omega)) [-getElem?_pos, -getElem?_neg, f0, f1, f2, f4, XO_s, XO_z, XLk_val, XLk_call, headsO, behind, List.length_cons, List.length_nil, List.mem_cons, List.not_mem_nil, or_false, forall_eq_or_imp, forall_eq, List.contains_cons, List.contains_nil]
   refine ⟨by kernel_rfl, (open_ac (nro := H.length) (γ := γ) tG lwG.2 (k := X) (y := Z) lX lZ (s := strOfNums C) (by rw [sn_size, lC]; omega)).mono ?_⟩
   rintro v' G' ⟨lw, q⟩
   rw [md.op] at q
   obtain rfl := q
   exact hcont _ _ (hJ.put hND2 hST2 rfl lw.2 lw.1 rfl)
  ·have f5 : α 98 = .tuple #[.string ⟨#[]⟩, .slice none 0 0, .bool false] := hJ.val 5 98 rfl (hd 5 (by decide))
   unfold XOm
   simp only [List.getElem?_cons_succ, List.getElem?_cons_zero]
   simp (disch := first | omega | (simp only [lnS]; try omega)) [-getElem?_pos, -getElem?_neg, f5, XO_s, XO_z, XLk_val, XLk_call, headsO, behind, List.length_cons, List.length_nil, List.mem_cons, List.not_mem_nil, or_false, forall_eq_or_imp, forall_eq, List.contains_cons, List.contains_nil]
   exact hcont _ _ (hJ.put hND2 hST2 rfl (Nat.le_refl _) (fun _ _ => rfl) rfl)
  ·have f6 : α 92 = .tuple #[.string ⟨#[]⟩, .slice none 0 0, .bool false] := hJ.val 6 92 rfl (hd 6 (by decide))
   unfold XOm
   simp only [List.getElem?_cons_succ, List.getElem?_cons_zero]
   simp (disch := first | omega | (simp only [lnS]; try omega)) [-getElem?_pos, -getElem?_neg, f6, XO_s, XO_z, XLk_val, XLk_call, headsO, behind, List.length_cons, List.length_nil, List.mem_cons, List.not_mem_nil, or_false, forall_eq_or_imp, forall_eq, List.contains_cons, List.contains_nil]
   exact hcont _ _ (hJ.put hND2 hST2 rfl (Nat.le_refl _) (fun _ _ => rfl) rfl)
  ·have f6 : α 92 = .tuple #[.string ⟨#[]⟩, .slice none 0 0, .bool false] := hJ.val 6 92 rfl (hd 6 (by decide))
   unfold XOm
   simp only [List.getElem?_cons_succ, List.getElem?_cons_zero]
   simp (disch := first | omega | (simp only [lnS]; try omega)) [-getElem?_pos, -getElem?_neg, f6, XO_s, XO_z, XLk_val, XLk_call, headsO, behind, List.length_cons, List.length_nil, List.mem_cons, List.not_mem_nil, or_false, forall_eq_or_imp, forall_eq, List.contains_cons, List.contains_nil]
   exact hcont _ _ (hJ.put hND2 hST2 rfl (Nat.le_refl _) (fun _ _ => rfl) rfl)
  ·have f6 : α 92 = .tuple #[.string ⟨#[]⟩, .slice none 0 0, .bool false] := hJ.val 6 92 rfl (hd 6 (by decide))
   unfold XOm
   simp only [List.getElem?_cons_succ, List.getElem?_cons_zero]
   simp (disch := first | omega | (simp only [lnS]; try omega)) [-getElem?_pos, -getElem?_neg, f6, XO_s, XO_z, XLk_val, XLk_call, headsO, behind, List.length_cons, List.length_nil, List.mem_cons, List.not_mem_nil, or_false, forall_eq_or_imp, forall_eq, List.contains_cons, List.contains_nil]
   exact hcont _ _ (hJ.put hND2 hST2 rfl (Nat.le_refl _) (fun _ _ => rfl) rfl)
  ·have f7 : α 99 = .string ⟨#[]⟩ := hJ.val 7 99 rfl (hd 7 (by decide))
   unfold XOm
   simp only [List.getElem?_cons_succ, List.getElem?_cons_zero]
   simp (disch := first | omega | (simp only [lnS]; try omega)) [-getElem?_pos, -getElem?_neg, -notTuple, nt_strG, nt_boolG, nt_aggG, nt_intG, nt_ptrG, nt_slG, f7, XO_s, XO_z, XLk_val, XLk_call, headsO, behind, List.length_cons, List.length_nil, List.mem_cons, List.not_mem_nil, or_false, forall_eq_or_imp, forall_eq, List.contains_cons, List.contains_nil]
   exact hcont _ _ (hJ.put hND2 hST2 rfl (Nat.le_refl _) (fun _ _ => rfl) rfl)
  ·have f8 : α 100 = .slice none 0 0 := hJ.val 8 100 rfl (hd 8 (by decide))
   unfold XOm
   simp only [List.getElem?_cons_succ, List.getElem?_cons_zero]
   simp (disch := first | omega | (simp only [lnS]; try omega)) [-getElem?_pos, -getElem?_neg, -notTuple, nt_strG, nt_boolG, nt_aggG, nt_intG, nt_ptrG, nt_slG, f8, XO_s, XO_z, XLk_val, XLk_call, headsO, behind, List.length_cons, List.length_nil, List.mem_cons, List.not_mem_nil, or_false, forall_eq_or_imp, forall_eq, List.contains_cons, List.contains_nil]
   exact hcont _ _ (hJ.put hND2 hST2 rfl (Nat.le_refl _) (fun _ _ => rfl) rfl)
  ·have f9 : α 101 = .bool false := hJ.val 9 101 rfl (hd 9 (by decide))
   unfold XOm
   simp only [List.getElem?_cons_succ, List.getElem?_cons_zero]
   simp (disch := first | omega | (simp only [lnS]; try omega)) [-getElem?_pos, -getElem?_neg, -notTuple, nt_strG, nt_boolG, nt_aggG, nt_intG, nt_ptrG, nt_slG, f9, XO_s, XO_z, XLk_val, XLk_call, headsO, behind, List.length_cons, List.length_nil, List.mem_cons, List.not_mem_nil, or_false, forall_eq_or_imp, forall_eq, List.contains_cons, List.contains_nil]
   exact hcont _ _ (hJ.put hND2 hST2 rfl (Nat.le_refl _) (fun _ _ => rfl) rfl)
 rintro s' α' B hJ hall
 have hsz : s'.size = 13 := hJ.sz
 have v19 : α' 19 = .bool false := hJ.val 12 19 rfl (by
  rw [Array.getD_eq_getD_getElem?, Array.getElem?_eq_getElem (by omega)]
  exact Array.all_eq_true.1 hall 12 (by omega))
 have v8 := (hJ.lo 8 (by decide)).trans u8
 have v9 := (hJ.lo 9 (by decide)).trans u9
 have v10 := (hJ.lo 10 (by decide)).trans u10
 have v15 := (hJ.lo 15 (by decide)).trans u15
 have v16 := (hJ.lo 16 (by decide)).trans u16
 have gx := (hJ.lw.2 _ (hget_lt bx)).trans bx
 have gy := (hJ.lw.2 _ (hget_lt by_)).trans by_
 have gz := (hJ.lw.2 _ (hget_lt bz)).trans bz
 have e1 := (hJ.lw.2 _ (hget_lt e1)).trans e1
 have e2 := (hJ.lw.2 _ (hget_lt e2)).trans e2
 have u1 := (hJ.lw.2 _ (hget_lt u1)).trans u1
 have u2 := (hJ.lw.2 _ (hget_lt u2)).trans u2
 have lwG : Low H.length H B := ⟨fun j hj => (hJ.lw.2 j (by have := lwB.2; omega)).trans (lwB.1 j hj), by have := hJ.lw.1; have := lwB.2; omega⟩
 clear hJ hall hsz bx by_ bz bc u7 u8 u9 u10 u11 u15 u16 tB lwB hND2 hST2 hblC
 have lx := hget_lt gx
 have ly := hget_lt gy
 have lz := hget_lt gz
 refine aw_seq ?_
 refine aw_ops (by kernel_rfl) (fun K hK => ?_)
 simp (disch := first | omega | (simp only [lnS]; try omega)) [-getElem?_pos, -getElem?_neg]
 refine ⟨by kernel_rfl, ac_of_rc (hal _ (hpw.low lwG)) (by simp [pv_iv, pv_int, pv_bool, pv_string, pv_tup2, pv_tup3, iv_plain, p2_int, p2_bool, p2_string]) ?_⟩
 try simp (disch := first | omega | (simp only [lnS]; try omega)) [-getElem?_pos, -getElem?_neg, v15, v8, gx, lx, tX, lX]
 refine ⟨by kernel_rfl, ac_of_rc (fol1_rc e1 e2 (fol_len _ _) (by omega) lX bX) (by simp [pv_iv, pv_int, pv_bool, pv_string, pv_tup2, pv_tup3, iv_plain, p2_int, p2_bool, p2_string]) ?_⟩
 rw [md.f1]
 try simp (disch := first | omega | (simp only [lnS]; try omega)) [-getElem?_pos, -getElem?_neg, v15, v9, gy, ly, tY, lY]
 refine ⟨by kernel_rfl, ac_of_rc (fol1_rc e1 e2 (fol_len _ _) (by omega) lY bY) (by simp [pv_iv, pv_int, pv_bool, pv_string, pv_tup2, pv_tup3, iv_plain, p2_int, p2_bool, p2_string]) ?_⟩
 rw [md.f2]
 try simp (disch := first | omega | (simp only [lnS]; try omega)) [-getElem?_pos, -getElem?_neg, v15, v10, gz, lz, tZ, lZ]
 refine ⟨by kernel_rfl, ac_of_rc (fol1_rc e1 e2 (fol_len _ _) (by omega) lZ bZ) (by simp [pv_iv, pv_int, pv_bool, pv_string, pv_tup2, pv_tup3, iv_plain, p2_int, p2_bool, p2_string]) ?_⟩
 rw [md.f3]
 try simp (disch := first | omega | (simp only [lnS]; try omega)) [-getElem?_pos, -getElem?_neg, v16, v8, gx, lx, tX, lX]
 refine ⟨by kernel_rfl, ac_of_rc (fol1_rc u1 u2 (fol_len _ _) (by omega) lX bX) (by simp [pv_iv, pv_int, pv_bool, pv_string, pv_tup2, pv_tup3, iv_plain, p2_int, p2_bool, p2_string]) ?_⟩
 rw [md.f4]
 try simp (disch := first | omega | (simp only [lnS]; try omega)) [-getElem?_pos, -getElem?_neg, v19]
 refine hK _ _ ?_; clear hK K
 (refine aw_ret ?_; simp (disch := first | omega | (simp only [lnS]; try omega)) [-getElem?_pos, -getElem?_neg, thenQ_ret, scopeQ_ret, inBlockQ_ret, RQ, resL, resV])
end
section
attribute [local simp] wb_bool wb_undef with_lit XL_nil XL_cons XLc_val XLc_call step1_eq stepW_t stepW_f stepC_n stepC_s stepX_s stepX_n stepN_s calleeX xrecv oneV xop_eq xopR_s xopR_n wantedA_eq wantedG_n wantedG_s plain1_int plain1_bool plain1_string bits_i64 bits_u64 bits_u32 bits_u16 bits_u8 xeqA xagg xcmp xarr allK_iv num_iv calleeOf xread xeff xbin xint xnil xun xstr xload xconv xpart xfield xfieldAddr xindexAddr xindex bnd asInt? xslice xlen xmin xmax xbuild xfill xappend xapp2 xappstr xappmk xcap xcopy xcells eval_tmp eval_const put_at put_none fr0_at cells_agg cells_int cells_bool cells_string cells_ptr cells_slice notTuple tab iv_all hget_app hget_app0 hget_cons0 hget_cons set_app set_app0 setR setR_one QL_nil QL_cons QLc_val stepQ_t stepQ_f stepQC_n stepQC_s stepQX_s SL_nil SL_cons SLc_val stepS_t stepS_f ltT ltF leT leF eqT eqF ltTn ltFn leTn leFn eqTn eqFn beqT beqF bneT bneF wi64 wu64 wu32 wu16 wu8 tmodP tdivP hgetL hgetNe hgetEq setL nums_def nums_len Nat.succ_le_of_lt List.getElem?_cons_zero List.getElem?_cons_succ Option.getD_some Int.toNat_add Int.toNat_mul agM okM agB agI agS agP agL agA okB okI okS okP okSl okA
theorem hides_law {γ : Nat → Option Nat} {H : AH} (hpw : Pw γ H) (a b t : ByteArray) (ha9 : a.size ≤ 9223372036854775807) (hb9 : b.size ≤ 9223372036854775807) (ht9 : t.size ≤ 9223372036854775807) : AC Tryd.prog H.length γ 5 #[.string a, .string b, .string t] H (fun v' _ => v' = .bool true) := by
 by_cases ha : a.size ≤ 300
 ·by_cases hb : b.size ≤ 300
  ·by_cases ht : t.size ≤ 300
   ·by_cases hab : a = b
    ·have hal := fun (G : AH) (hP : Pw γ G) => alive_rc (γ := γ) (H := G) hP
     have ha3 : ¬ (300 : Int) < a.size := by omega
     have hb3 : ¬ (300 : Int) < b.size := by omega
     have ht3 : ¬ (300 : Int) < t.size := by omega
     have hbe : (a.toList == b.toList) = true := by rw [hab]; simp
     refine ac_of_aw Tryd.func5 rfl Tryd.ntmps5 Tryd.results5 (by simp) ?_
     refine aw_seq ?_
     (refine aw_ops (by kernel_rfl) (fun K hK => ?_); simp (disch := first | omega | (simp only [lnS]; try omega)) [-getElem?_pos, -getElem?_neg]; refine hK _ _ ?_; clear hK K)
     refine aw_seq ?_
     refine aw_seq ?_
     refine aw_ops (by kernel_rfl) (fun K hK => ?_)
     simp (disch := first | omega | (simp only [lnS]; try omega)) [-getElem?_pos, -getElem?_neg]
     refine ⟨by kernel_rfl, ac_of_rc (hal _ hpw) (by simp [pv_iv, pv_int, pv_bool, pv_string, pv_tup2, pv_tup3, iv_plain, p2_int, p2_bool, p2_string]) ?_⟩
     try simp (disch := first | omega | (simp only [lnS]; try omega)) [-getElem?_pos, -getElem?_neg]
     refine hK _ _ ?_; clear hK K
     refine aw_f (by (first | (simp [eval_tmp, put_at]; done) | (simp [eval_tmp, put_at]; omega))) (by kernel_rfl) ?_
     refine aw_skip ?_
     refine aw_seq ?_
     refine aw_seq ?_
     (refine aw_ops (by kernel_rfl) (fun K hK => ?_); simp (disch := first | omega | (simp only [lnS]; try omega)) [-getElem?_pos, -getElem?_neg, ha9, hb9, ht9, ha3, hb3, ht3, hbe]; refine hK _ _ ?_; clear hK K)
     refine aw_t (by (first | (simp [eval_tmp, put_at]; done) | (simp [eval_tmp, put_at]; omega))) (by kernel_rfl) ?_
     refine aw_seq ?_
     refine aw_ops (by kernel_rfl) (fun K hK => ?_)
     simp (disch := first | omega | (simp only [lnS]; try omega)) [-getElem?_pos, -getElem?_neg]
     refine ⟨by kernel_rfl, ac_of_rc (hal _ hpw) (by simp [pv_iv, pv_int, pv_bool, pv_string, pv_tup2, pv_tup3, iv_plain, p2_int, p2_bool, p2_string]) ?_⟩
     try simp (disch := first | omega | (simp only [lnS]; try omega)) [-getElem?_pos, -getElem?_neg]
     refine hK _ _ ?_; clear hK K
     (refine aw_ret ?_; simp (disch := first | omega | (simp only [lnS]; try omega)) [-getElem?_pos, -getElem?_neg, thenQ_ret, scopeQ_ret, inBlockQ_ret, RQ, resL, resV])
    ·exact hides_go hpw ha hb ht (by rw [beq_eq_false_iff_ne]; exact fun e => hab (toList_inj e)) (hide_d ha hb ht hab)
   ·have hal := fun (G : AH) (hP : Pw γ G) => alive_rc (γ := γ) (H := G) hP
    have ha3 : ¬ (300 : Int) < a.size := by omega
    have hb3 : ¬ (300 : Int) < b.size := by omega
    have ht3 : (300 : Int) < t.size := by omega
    refine ac_of_aw Tryd.func5 rfl Tryd.ntmps5 Tryd.results5 (by simp) ?_
    refine aw_seq ?_
    (refine aw_ops (by kernel_rfl) (fun K hK => ?_); simp (disch := first | omega | (simp only [lnS]; try omega)) [-getElem?_pos, -getElem?_neg]; refine hK _ _ ?_; clear hK K)
    refine aw_seq ?_
    refine aw_seq ?_
    refine aw_ops (by kernel_rfl) (fun K hK => ?_)
    simp (disch := first | omega | (simp only [lnS]; try omega)) [-getElem?_pos, -getElem?_neg]
    refine ⟨by kernel_rfl, ac_of_rc (hal _ hpw) (by simp [pv_iv, pv_int, pv_bool, pv_string, pv_tup2, pv_tup3, iv_plain, p2_int, p2_bool, p2_string]) ?_⟩
    try simp (disch := first | omega | (simp only [lnS]; try omega)) [-getElem?_pos, -getElem?_neg]
    refine hK _ _ ?_; clear hK K
    refine aw_f (by (first | (simp [eval_tmp, put_at]; done) | (simp [eval_tmp, put_at]; omega))) (by kernel_rfl) ?_
    refine aw_skip ?_
    refine aw_seq ?_
    refine aw_seq ?_
    (refine aw_ops (by kernel_rfl) (fun K hK => ?_); simp (disch := first | omega | (simp only [lnS]; try omega)) [-getElem?_pos, -getElem?_neg, ha9, hb9, ht9, ha3, hb3, ht3]; refine hK _ _ ?_; clear hK K)
    refine aw_t (by (first | (simp [eval_tmp, put_at]; done) | (simp [eval_tmp, put_at]; omega))) (by kernel_rfl) ?_
    refine aw_seq ?_
    refine aw_ops (by kernel_rfl) (fun K hK => ?_)
    simp (disch := first | omega | (simp only [lnS]; try omega)) [-getElem?_pos, -getElem?_neg]
    refine ⟨by kernel_rfl, ac_of_rc (hal _ hpw) (by simp [pv_iv, pv_int, pv_bool, pv_string, pv_tup2, pv_tup3, iv_plain, p2_int, p2_bool, p2_string]) ?_⟩
    try simp (disch := first | omega | (simp only [lnS]; try omega)) [-getElem?_pos, -getElem?_neg]
    refine hK _ _ ?_; clear hK K
    (refine aw_ret ?_; simp (disch := first | omega | (simp only [lnS]; try omega)) [-getElem?_pos, -getElem?_neg, thenQ_ret, scopeQ_ret, inBlockQ_ret, RQ, resL, resV])
  ·have hal := fun (G : AH) (hP : Pw γ G) => alive_rc (γ := γ) (H := G) hP
   have ha3 : ¬ (300 : Int) < a.size := by omega
   have hb3 : (300 : Int) < b.size := by omega
   refine ac_of_aw Tryd.func5 rfl Tryd.ntmps5 Tryd.results5 (by simp) ?_
   refine aw_seq ?_
   (refine aw_ops (by kernel_rfl) (fun K hK => ?_); simp (disch := first | omega | (simp only [lnS]; try omega)) [-getElem?_pos, -getElem?_neg]; refine hK _ _ ?_; clear hK K)
   refine aw_seq ?_
   refine aw_seq ?_
   refine aw_ops (by kernel_rfl) (fun K hK => ?_)
   simp (disch := first | omega | (simp only [lnS]; try omega)) [-getElem?_pos, -getElem?_neg]
   refine ⟨by kernel_rfl, ac_of_rc (hal _ hpw) (by simp [pv_iv, pv_int, pv_bool, pv_string, pv_tup2, pv_tup3, iv_plain, p2_int, p2_bool, p2_string]) ?_⟩
   try simp (disch := first | omega | (simp only [lnS]; try omega)) [-getElem?_pos, -getElem?_neg]
   refine hK _ _ ?_; clear hK K
   refine aw_f (by (first | (simp [eval_tmp, put_at]; done) | (simp [eval_tmp, put_at]; omega))) (by kernel_rfl) ?_
   refine aw_skip ?_
   refine aw_seq ?_
   refine aw_seq ?_
   (refine aw_ops (by kernel_rfl) (fun K hK => ?_); simp (disch := first | omega | (simp only [lnS]; try omega)) [-getElem?_pos, -getElem?_neg, ha9, hb9, ht9, ha3, hb3]; refine hK _ _ ?_; clear hK K)
   refine aw_t (by (first | (simp [eval_tmp, put_at]; done) | (simp [eval_tmp, put_at]; omega))) (by kernel_rfl) ?_
   refine aw_seq ?_
   refine aw_ops (by kernel_rfl) (fun K hK => ?_)
   simp (disch := first | omega | (simp only [lnS]; try omega)) [-getElem?_pos, -getElem?_neg]
   refine ⟨by kernel_rfl, ac_of_rc (hal _ hpw) (by simp [pv_iv, pv_int, pv_bool, pv_string, pv_tup2, pv_tup3, iv_plain, p2_int, p2_bool, p2_string]) ?_⟩
   try simp (disch := first | omega | (simp only [lnS]; try omega)) [-getElem?_pos, -getElem?_neg]
   refine hK _ _ ?_; clear hK K
   (refine aw_ret ?_; simp (disch := first | omega | (simp only [lnS]; try omega)) [-getElem?_pos, -getElem?_neg, thenQ_ret, scopeQ_ret, inBlockQ_ret, RQ, resL, resV])
 ·have hal := fun (G : AH) (hP : Pw γ G) => alive_rc (γ := γ) (H := G) hP
  have ha3 : (300 : Int) < a.size := by omega
  refine ac_of_aw Tryd.func5 rfl Tryd.ntmps5 Tryd.results5 (by simp) ?_
  refine aw_seq ?_
  (refine aw_ops (by kernel_rfl) (fun K hK => ?_); simp (disch := first | omega | (simp only [lnS]; try omega)) [-getElem?_pos, -getElem?_neg]; refine hK _ _ ?_; clear hK K)
  refine aw_seq ?_
  refine aw_seq ?_
  refine aw_ops (by kernel_rfl) (fun K hK => ?_)
  simp (disch := first | omega | (simp only [lnS]; try omega)) [-getElem?_pos, -getElem?_neg]
  refine ⟨by kernel_rfl, ac_of_rc (hal _ hpw) (by simp [pv_iv, pv_int, pv_bool, pv_string, pv_tup2, pv_tup3, iv_plain, p2_int, p2_bool, p2_string]) ?_⟩
  try simp (disch := first | omega | (simp only [lnS]; try omega)) [-getElem?_pos, -getElem?_neg]
  refine hK _ _ ?_; clear hK K
  refine aw_f (by (first | (simp [eval_tmp, put_at]; done) | (simp [eval_tmp, put_at]; omega))) (by kernel_rfl) ?_
  refine aw_skip ?_
  refine aw_seq ?_
  refine aw_seq ?_
  (refine aw_ops (by kernel_rfl) (fun K hK => ?_); simp (disch := first | omega | (simp only [lnS]; try omega)) [-getElem?_pos, -getElem?_neg, ha9, hb9, ht9, ha3]; refine hK _ _ ?_; clear hK K)
  refine aw_t (by (first | (simp [eval_tmp, put_at]; done) | (simp [eval_tmp, put_at]; omega))) (by kernel_rfl) ?_
  refine aw_seq ?_
  refine aw_ops (by kernel_rfl) (fun K hK => ?_)
  simp (disch := first | omega | (simp only [lnS]; try omega)) [-getElem?_pos, -getElem?_neg]
  refine ⟨by kernel_rfl, ac_of_rc (hal _ hpw) (by simp [pv_iv, pv_int, pv_bool, pv_string, pv_tup2, pv_tup3, iv_plain, p2_int, p2_bool, p2_string]) ?_⟩
  try simp (disch := first | omega | (simp only [lnS]; try omega)) [-getElem?_pos, -getElem?_neg]
  refine hK _ _ ?_; clear hK K
  (refine aw_ret ?_; simp (disch := first | omega | (simp only [lnS]; try omega)) [-getElem?_pos, -getElem?_neg, thenQ_ret, scopeQ_ret, inBlockQ_ret, RQ, resL, resV])
end
end Go.Proofs.YtecjhpamfkfilaaDoor
