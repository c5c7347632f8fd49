/-
  TermMore.
-/
import Derived.Test.YtecjhpamfkfilaaDoorMzH
import Derived.Test.YtecjhpamfkfilaaDoorMzF
namespace Go.Proofs.YtecjhpamfkfilaaDoor
open Go Go.RowKit
set_option linter.unusedSimpArgs false
set_option linter.unusedVariables false
set_option maxRecDepth 100000
set_option maxHeartbeats 8000000
section
attribute [local simp] wb_bool wb_undef with_lit XL_nil XL_cons XLc_val XLc_call step1_eq stepW_t stepW_f stepC_n stepC_s stepX_s stepX_n stepN_s calleeX xrecv oneV xop_eq xopR_s xopR_n wantedA_eq wantedG_n wantedG_s plain1_int plain1_bool plain1_string bits_i64 bits_u64 bits_u32 bits_u16 bits_u8 xeqA xagg xcmp xarr allK_iv num_iv calleeOf xread xeff xbin xint xnil xun xstr xload xconv xpart xfield xfieldAddr xindexAddr xindex bnd asInt? xslice xlen xmin xmax xbuild xfill xappend xapp2 xappstr xappmk xcap xcopy xcells eval_tmp eval_const put_at put_none fr0_at cells_agg cells_int cells_bool cells_string cells_ptr cells_slice notTuple tab iv_all hget_app hget_app0 hget_cons0 hget_cons set_app set_app0 setR setR_one QL_nil QL_cons QLc_val stepQ_t stepQ_f stepQC_n stepQC_s stepQX_s SL_nil SL_cons SLc_val stepS_t stepS_f ltT ltF leT leF eqT eqF ltTn ltFn leTn leFn eqTn eqFn beqT beqF bneT bneF wi64 wu64 wu32 wu16 wu8 tmodP tdivP hgetL hgetNe hgetEq setL nums_def nums_len Nat.succ_le_of_lt List.getElem?_cons_zero List.getElem?_cons_succ Option.getD_some Int.toNat_add Int.toNat_mul agM okM agB agI agS agP agL agA okB okI okS okP okSl okA nt_strG nt_boolG nt_aggG nt_intG nt_ptrG nt_slG XO_s XO_z XLk_val XLk_call headsO behind List.length_cons List.length_nil List.mem_cons List.not_mem_nil or_false forall_eq_or_imp forall_eq List.contains_cons List.contains_nil XOm
section
theorem OkP.twf {T : List TermD} {l : List (List Int)} {n : Nat} (h : OkP T l n) (hn : n ≤ 1000) : TWf T := by
 refine ⟨h.wf, by have := h.tl; omega, fun x hx h4 => ?_⟩
 have hw := h.wf x hx
 have h2 := hw.agree h4
 match hk : x.keys, h2 with
 | [a, b], _ =>
  have la := hw.k32 a (by rw [hk]; simp)
  have lb := hw.k32 b (by rw [hk]; simp)
  have ba := hw.by_ a (by rw [hk]; simp)
  have bb := hw.by_ b (by rw [hk]; simp)
  exact ⟨a, b, rfl, wf_pub la ba, wf_pub lb bb⟩
theorem fol_pk {kn : List Bool} {k : List Int} {n : Nat} (h : pk k = some n) : fol kn k = kw kn n := by
 unfold fol
 rw [h]
theorem fol_nm {kn : List Bool} {n : Nat} (h : n < 4294967296) : fol kn (nmL n) = kw kn n := fol_pk (pk_nm h)
theorem more_le {T : List TermD} (hW : TWf T) (s m : List (List Int)) {n : Nat} (h : kw (folL T s) n = true) : kw (folL T (s ++ m)) n = true :=
 fol_sound hW.len (fol_closed hW (s ++ m)) (fun k hk p hp hl => fol_seen (List.mem_append_left _ hk) hp hl) n h
def againL (A : List Bool) (i : Nat) : List (List Int) := ((List.range i).filter (kw A)).map fun n => nmL (n : Nat)
theorem again_succ (A : List Bool) (i : Nat) : againL A (i + 1) = if kw A i = true then againL A i ++ [nmL (i : Nat)] else againL A i := by
 unfold againL
 rw [List.range_succ, List.filter_append, List.map_append]
 by_cases h : kw A i = true
 ·rw [if_pos h]
  simp [h]
 ·rw [if_neg h]
  simp [h]
theorem again_mem {A : List Bool} {i : Nat} {k : List Int} (h : k ∈ againL A i) : ∃ n, n < i ∧ kw A n = true ∧ k = nmL (n : Nat) := by
 obtain ⟨n, hn, rfl⟩ := List.mem_map.1 h
 rw [List.mem_filter] at hn
 exact ⟨n, List.mem_range.1 hn.1, hn.2, rfl⟩
theorem again_k32 (A : List Bool) (i : Nat) : K32 (againL A i) := fun k hk => by
 obtain ⟨n, _, _, rfl⟩ := again_mem hk
 rfl
theorem again_len (A : List Bool) (i : Nat) : (againL A i).length ≤ i := by
 unfold againL
 rw [List.length_map]
 have := List.length_filter_le (kw A) (List.range i)
 rw [List.length_range] at this
 exact this
theorem again_eq {T : List TermD} (hW : TWf T) (s : List (List Int)) {n : Nat} (hn : n < T.length) : kw (folL T (againL (folL T s) T.length)) n = kw (folL T s) n := by
 have hm := hW.len
 rw [Bool.eq_iff_iff]
 constructor
 ·intro h
  exact fol_sound hW.len (fol_closed hW s) (fun k hk p hp hl => by
   obtain ⟨q, hq, hk2, rfl⟩ := again_mem hk
   rw [pk_nm (by omega)] at hp
   cases hp
   exact hk2) n h
 ·intro h
  refine fol_seen (k := nmL (n : Nat)) ?_ (pk_nm (by omega)) hn
  unfold againL
  exact List.mem_map.2 ⟨n, List.mem_filter.2 ⟨List.mem_range.2 hn, h⟩, rfl⟩
def FQ (G : AH) (n : Nat) (kn : List Bool) (v : Value) : Prop := ∃ kx kb, v = .func (.func 37) #[] #[.pointer (some ⟨kx, 0, none⟩)] ∧ hget G kx = some ⟨[.slice (some ⟨kb, 0, none⟩) n n], 75, none⟩ ∧ hget G kb = some ⟨bsC kn, 4, some 1⟩
theorem pl_follow {γ : Nat → Option Nat} {H0 H : AH} {S : List Nat} {tb rb : Nat} {kv : Value} {T R : List TermD} {l : List (List Int)} (hpw : Pw γ H0) (h : Pl H0 S H tb rb kv T R l) (hW : TWf T) {v : Value} {ks : List (List Int)} (hK : KsV H v ks) (hk : (∀ k ∈ ks, k.length = 32 ∧ By k) ∧ ks.length ≤ 1000000) : AC Tryd.prog H0.length γ 11 #[.pointer (some ⟨tb, 0, none⟩), v] H (FolQ H T ks) := by
 obtain ⟨F, Ft, Fs, Fr, Fk, tv, sv, L, w⟩ := h
 exact follow_ac (nro := H0.length) (hpw.low w.lw) w.a w.lw.2 hW hK (fun k hm => (hk.1 k hm).1) (fun k hm => (hk.1 k hm).2) hk.2
def pickL (l : List (List Int)) (s : List Int) (i : Nat) : List (List Int) := (s.take i).map (atK l)
theorem pick_succ {l : List (List Int)} {s : List Int} {i : Nat} (hi : i < s.length) : pickL l s (i + 1) = pickL l s i ++ [atK l (s.getD i 0)] := by
 unfold pickL
 rw [List.take_add_one, List.getElem?_eq_getElem hi, List.map_append, List.getD_eq_getElem?_getD, List.getElem?_eq_getElem hi]; rfl
theorem pick_k {l : List (List Int)} (h0 : 0 < l.length) (hk : ∀ k ∈ l, k.length = 32 ∧ By k) (s : List Int) (i : Nat) : ∀ k ∈ pickL l s i, k.length = 32 ∧ By k := fun k hk2 => by
 obtain ⟨n, _, rfl⟩ := List.mem_map.1 hk2
 exact hk _ (atK_mem h0 n)
theorem pick_len {l : List (List Int)} {s : List Int} {i : Nat} : (pickL l s i).length ≤ i := by
 unfold pickL
 rw [List.length_map, List.length_take]
 omega
theorem pick_end {l : List (List Int)} {s : List Int} {i : Nat} (h : ¬ (i < s.length ∧ i < 8)) (hi : i ≤ s.length) (h8 : i ≤ 8) : pickL l s i = pickL l s 8 := by
 unfold pickL
 by_cases e : i = 8
 ·rw [e]
 ·rw [List.take_of_length_le (by omega), List.take_of_length_le (l := s) (i := 8) (by omega)]
theorem own_push {nro lo : Nat} {G : AH} {out : Value} {ks : List (List Int)} {Fo : List Nat} (ho : OwnF G out 28 32 (kr ks) Fo) (hk : K32 ks) (hFo : ∀ j ∈ Fo, lo ≤ j) (hnro : nro ≤ lo) (hlo : lo ≤ G.length) {Y : List Int} (hY : Y.length = 32) (hm : ks.length ≤ 1000000) :
  ∃ v1 G1 F1, xappend Tryd.prog nro 33 out (.slice (some ⟨G.length, 0, none⟩) 1 1) (G ++ [some ⟨iv .u8 Y, 28, some 32⟩]) = some (v1, G1) ∧ OwnF G1 v1 28 32 (kr (ks ++ [Y])) F1 ∧ G.length ≤ G1.length ∧ (∀ j, j < lo → hget G1 j = hget G j) ∧ (∀ j ∈ F1, lo ≤ j) ∧ notTuple v1 = true ∧ v1.cells = #[v1] := by
 have hkr := kr_len hk
 have htY : (iv .u8 Y).take 32 = iv .u8 Y := List.take_of_length_le (by simp [hY])
 have hxc : xcells 32 (.slice (some ⟨G.length, 0, none⟩) 1 1) (G ++ [some ⟨iv .u8 Y, 28, some 32⟩]) = some (iv .u8 Y) := by
  unfold xcells
  simp only [hget_app0]
  have : hget [some (⟨iv .u8 Y, 28, some 32⟩ : Blk)] 0 = some ⟨iv .u8 Y, 28, some 32⟩ := rfl
  simp only [this]
  rw [if_pos (by simp [hY])]
  simp [htY]
 obtain ⟨v1, G1, F1, hap, ho1, hl1, hk1, hF1⟩ := ownF_appQ (P := Tryd.prog) (nro := nro) (t := 33) (e := 28) (H := G ++ [some ⟨iv .u8 Y, 28, some 32⟩]) (v := out) (x := .slice (some ⟨G.length, 0, none⟩) 1 1) (sz := 32) (cells := kr ks) (news := iv .u8 Y) (F := Fo) (by kernel_rfl) (by kernel_rfl) (by omega) (by kernel_rfl)
  (ho.low (fun j hj => hget_left (ho.lt j hj))) (fun j hj => by have := hFo j hj; omega) (fun s e => by cases e) hxc (by simp [hY]) (by rw [hkr, show byt Tryd.prog 28 = 32 by kernel_rfl]; simp [hY]; omega) (by rw [hkr]; simp [hY, maxLen]; omega)
 have n1 := ownF_nt ho1
 simp only [List.length_append, List.length_cons, List.length_nil] at hl1 hF1
 exact ⟨v1, G1, F1, hap, by rw [kr_app, kr_one]; exact ho1, by omega, fun j hj => (hk1 j (by simp; omega) (fun e => by have := hFo j e; omega)).trans (hget_left (by omega)), fun j hj => by have := hF1 j hj; omega, n1.1, n1.2⟩
def moFD : List Nat := [79, 80, 81, 82, 83, 84, 85, 86, 87, 88, 89, 90, 13, 14]
def moFP : List (List Nat) := [[], [0], [1], [2], [], [3, 4], [], [6], [7], [8], [], [9, 10], [5], [11]]
def moFV (p tb n : Nat) (w1 w2 : Value) (A C : List Bool) (G : AH) (i : Nat) (v : Value) : Prop := match i with
 | 0 => v = .pointer (some ⟨p, 0, none⟩)
 | 1 => v = .pointer (some ⟨p, 0, none⟩)
 | 2 => v = .pointer (some ⟨p, 0, none⟩)
 | 3 => v = .pointer (some ⟨tb, 0, none⟩)
 | 4 => v = w1
 | 5 => FQ G n A v
 | 6 => v = .pointer (some ⟨p, 0, none⟩)
 | 7 => v = .pointer (some ⟨p, 0, none⟩)
 | 8 => v = .pointer (some ⟨p, 0, none⟩)
 | 9 => v = .pointer (some ⟨tb, 0, none⟩)
 | 10 => v = w2
 | 11 => FQ G n C v
 | 12 => FQ G n A v
 | 13 => FQ G n C v
 | _ => True
theorem moF_st' {p tb n : Nat} {w1 w2 : Value} {A C : List Bool} : ∀ (G1 G2 : AH) (i : Nat) (v : Value), G1.length ≤ G2.length → (∀ j, j < G1.length → hget G2 j = hget G1 j) → moFV p tb n w1 w2 A C G1 i v → moFV p tb n w1 w2 A C G2 i v := fun G1 G2 i v h1 h2 h => by
 have up : ∀ kn, FQ G1 n kn v → FQ G2 n kn v := fun kn ⟨kx, kb, a, b, c⟩ => ⟨kx, kb, a, (h2 _ (hget_lt b)).trans b, (h2 _ (hget_lt c)).trans c⟩
 unfold moFV at h ⊢
 split at h
 all_goals first | exact h | exact up _ h
theorem more_law {γ : Nat → Option Nat} {H : AH} (hpw : Pw γ H) {va vs vm : Value} {L : List StepD} {sn mo : List Int} (hv : StV H va L) (hL : ∀ x ∈ L, x.Wf) (hm : L.length ≤ maxLen) (hs : InV H vs sn) (hsm : sn.length ≤ maxLen) (hmo : InV H vm mo) (hmm : mo.length ≤ maxLen) : AC Tryd.prog H.length γ 4 #[va, vs, vm] H (fun v' _ => v' = .bool true) := by
 have hal := fun (G : AH) (hP : Pw γ G) => alive_rc (γ := γ) (H := G) hP
 obtain ⟨hnt, hvc, hxl, hat⟩ := hv.acc hL
 obtain ⟨snt, svc, sxl, sat⟩ := hs.acc
 obtain ⟨mnt, mvc, mxl, mat⟩ := hmo.acc
 have hm63 : L.length ≤ 9223372036854775807 := by simp only [maxLen] at hm; omega
 have sm63 : sn.length ≤ 9223372036854775807 := by simp only [maxLen] at hsm; omega
 have mm63 : mo.length ≤ 9223372036854775807 := by simp only [maxLen] at hmm; omega
 refine ac_of_aw Tryd.func4 rfl Tryd.ntmps4 Tryd.results4 (by simp) ?_
 (refine aw_seq (aoo fun K hK => ?_); simp (disch := first | omega | (simp only [lnS]; try omega)) [-getElem?_pos, -getElem?_neg]; refine hK _ _ ?_; clear hK K)
 refine aw_seq (aw_seq ?_)
 refine aoo fun K hK => ?_
 simp (disch := first | omega | (simp only [lnS]; try omega)) [-getElem?_pos, -getElem?_neg]
 refine ⟨by kernel_rfl, ac_of_rc (hal _ hpw) (by simp [pv_iv, pv_int, pv_bool, pv_string, pv_tup2, pv_tup3, iv_plain, p2_int, p2_bool, p2_string]) ?_⟩
 try simp (disch := first | omega | (simp only [lnS]; try omega)) [-getElem?_pos, -getElem?_neg]
 refine hK _ _ ?_; clear hK K
 refine aw_f (by (first | (simp; done) | (simp; omega))) (by kernel_rfl) ?_
 refine aw_skip (aw_seq ?_)
 refine aoo fun K hK => ?_
 simp (disch := first | omega | (simp only [lnS]; try omega)) [-getElem?_pos, -getElem?_neg]
 refine ⟨by kernel_rfl, AC.mono (pbegin_ac (Nat.le_refl _)) ?_⟩
 intro v' G hB
 obtain ⟨tb, rb, kv0, p, rfl, hpn, gp0, hP0⟩ := beg_pl hB
 try simp (disch := first | omega | (simp only [lnS]; try omega)) [-getElem?_pos, -getElem?_neg]
 refine hK _ _ ?_; clear hK K
 refine aw_seq (aw_seq ?_)
 (refine aoo fun K hK => ?_; simp (disch := first | omega | (simp only [lnS]; try omega)) [-getElem?_pos, -getElem?_neg]; refine hK _ _ ?_; clear hK K)
 refine aw_block ?_
 refine aw_loop (fun q α G => ∃ (i : Nat) (kv : Value) (T : List TermD) (l : List (List Int)), i + q = 40 ∧ i ≤ L.length ∧ α 0 = va ∧ α 1 = vs ∧ α 2 = vm ∧ α 7 = .pointer (some ⟨p, 0, none⟩) ∧ α 8 = .int .i64 (i : Nat) ∧ hget G p = some ⟨[.pointer (some ⟨tb, 0, none⟩), .pointer (some ⟨rb, 0, none⟩), kv], 39, none⟩ ∧ Pl H [p] G tb rb kv T T l ∧ OkP T l i) 40 ?_ ?_
 ·exact ⟨0, kv0, [], _, by omega, by omega, by (first | (simp; done) | rfl), by (first | (simp; done) | rfl), by (first | (simp; done) | rfl), by (first | (simp; done) | rfl), by (first | (simp; done) | rfl), gp0, hP0, beg_ok⟩
 rintro q α G ⟨i, kv, T, l, hiq, his, a0, a1, a2, a7, a8, gp, hP, ok⟩
 refine aw_seq (aw_seq ?_)
 by_cases hi : i < L.length ∧ i < 40
 ·obtain ⟨hi1, hi2⟩ := hi
  have hi1' : (i : Int) < L.length := by omega
  have hi2' : (i : Int) < 40 := by omega
  obtain ⟨qa, y, q1, q2, q3, ⟨us, x, sv, rfl, hx, hc⟩, q4⟩ := hat i hi1
  have q5 := q4 G hP.lw
  have hdo := do_ac (γ := γ) hpw hP gp (by simp) hpn ok (by omega) hc (hL x (List.mem_of_getElem? hx))
  (refine aoo fun K hK => ?_; simp (disch := first | omega | (simp only [lnS]; try omega)) [-getElem?_pos, -getElem?_neg, a0, a8, -notTuple, hnt, -xlen, hxl, hi1', hi2']; refine hK _ _ ?_; clear hK K)
  refine aw_t (by (first | (simp; done) | (simp; omega))) (by kernel_rfl) ?_
  refine aw_skip (aw_seq ?_)
  refine aw_block ?_
  refine aoo fun K hK => ?_
  simp (disch := first | omega | (simp only [lnS]; try omega)) [-getElem?_pos, -getElem?_neg, a0, a7, a8, -xload, q5, -notTuple, hnt, q1, q3, -xindexAddr, q2]
  refine ⟨by kernel_rfl, AC.mono hdo ?_⟩
  rintro _ G2 ⟨rfl, kv2, T2, l2, gp2, hP2, ok2, _⟩
  try simp (disch := first | omega | (simp only [lnS]; try omega)) [-getElem?_pos, -getElem?_neg]
  refine hK _ _ ?_; clear hK K
  (refine aoo fun K hK => ?_; simp (disch := first | omega | (simp only [lnS]; try omega)) [-getElem?_pos, -getElem?_neg, a8]; refine hK _ _ ?_; clear hK K)
  exact ⟨q - 1, by omega, i + 1, kv2, T2, l2, by omega, by omega, by (first | (simp [a0]; done) | rfl), by (first | (simp [a1]; done) | rfl), by (first | (simp [a2]; done) | rfl), by (first | (simp [a7]; done) | rfl), by (first | (simp; done) | rfl), gp2, hP2, ok2⟩
 refine aw_cut (fun α G' => α 1 = vs ∧ α 2 = vm ∧ α 7 = .pointer (some ⟨p, 0, none⟩) ∧ α 29 = .bool false ∧ G' = G) ?_ ?_
 ·by_cases hi1 : i < L.length
  ·have hi1' : (i : Int) < L.length := by omega
   have hi2' : ¬ (i : Int) < 40 := by omega
   (refine aoo fun K hK => ?_; simp (disch := first | omega | (simp only [lnS]; try omega)) [-getElem?_pos, -getElem?_neg, a0, a8, -notTuple, hnt, -xlen, hxl, hi1', hi2']; refine hK _ _ ?_; clear hK K)
   exact ⟨by (first | (simp [a1]; done) | rfl), by (first | (simp [a2]; done) | rfl), by (first | (simp [a7]; done) | rfl), by (first | (simp; done) | rfl), rfl⟩
  ·have hi1' : ¬ (i : Int) < L.length := by omega
   (refine aoo fun K hK => ?_; simp (disch := first | omega | (simp only [lnS]; try omega)) [-getElem?_pos, -getElem?_neg, a0, a8, -notTuple, hnt, -xlen, hxl, hi1']; refine hK _ _ ?_; clear hK K)
   exact ⟨by (first | (simp [a1]; done) | rfl), by (first | (simp [a2]; done) | rfl), by (first | (simp [a7]; done) | rfl), by (first | (simp; done) | rfl), rfl⟩
 rintro α1 G' ⟨a1, a2, a7, a29, rfl⟩
 refine aw_f (by (first | (simp [a29]; done) | (simp [a29]; omega))) (by kernel_rfl) ?_
 refine aw_exit ?_
 have hi40 : i ≤ 40 := by omega
 have hW := ok.twf (by omega)
 have h0l : 0 < l.length := by have := ok.l2; omega
 have hlm : l.length ≤ 1000000 := by have := ok.ll; omega
 have hk32 : K32 l := fun k hk => (ok.kk k hk).1
 have hTm : T.length ≤ 200 := by have := ok.tl; omega
 have hkk := ok.kk
 clear a0 a8 hi his hiq gp0 hP0 hB hat hxl hnt hvc ok hv hL hm hm63
 obtain ⟨B, hBB⟩ : ∃ B, B = G' := ⟨_, rfl⟩
 rw [← hBB] at gp hP ⊢
 clear hBB
 have hBn : H.length ≤ B.length := hP.lw.2
 have hpk : ∀ (n : Int) (G : AH), Low B.length B G → AC Tryd.prog G.length γ 10 #[.pointer (some ⟨p, 0, none⟩), .int .i64 n] G (fun v' _ => v' = .agg (iv .u8 (atK l n)).toArray) := fun n G lw => at_rc ((lw.1 p (hget_lt gp)).trans gp) ((hP.low lw).ksv hk32) hk32 h0l hlm n
 have lk := fun (n : Int) => hk32 _ (atK_mem h0l n)
 have lwHB : ∀ G, Low B.length B G → Low H.length H G := fun G lw => ⟨fun j hj => (lw.1 j (by omega)).trans (hP.lw.1 j hj), by have := lw.2; omega⟩
 (refine aw_seq (aoo fun K hK => ?_); simp (disch := first | omega | (simp only [lnS]; try omega)) [-getElem?_pos, -getElem?_neg]; refine hK _ _ ?_; clear hK K)
 refine aw_seq (aw_seq ?_)
 (refine aoo fun K hK => ?_; simp (disch := first | omega | (simp only [lnS]; try omega)) [-getElem?_pos, -getElem?_neg]; refine hK _ _ ?_; clear hK K)
 refine aw_block ?_
 refine aw_loop (fun q α G => ∃ (i : Nat) (out : Value) (Fo : List Nat), i + q = 8 ∧ i ≤ sn.length ∧ α 1 = vs ∧ α 2 = vm ∧ α 7 = .pointer (some ⟨p, 0, none⟩) ∧ α 9 = out ∧ α 10 = .slice none 0 0 ∧ α 11 = .int .i64 (i : Nat) ∧ Low B.length B G ∧ OwnF G out 28 32 (kr (pickL l sn i)) Fo ∧ ∀ j ∈ Fo, B.length ≤ j) 8 ?_ ?_
 ·exact ⟨0, .slice none 0 0, [], by omega, by omega, by (first | (simp [a1]; done) | rfl), by (first | (simp [a2]; done) | rfl), by (first | (simp [a7]; done) | rfl), by (first | (simp; done) | rfl), by (first | (simp; done) | rfl), by (first | (simp; done) | rfl), Low.refl (Nat.le_refl _), .inl ⟨rfl, rfl, rfl⟩, fun j hj => by cases hj⟩
 clear a1 a2 a7 a29
 rintro q α G ⟨i, out, Fo, hiq, his, a1, a2, a7, a9, a10, a11, lwG, ho, hFo⟩
 have hto := ownF_nt ho
 refine aw_seq (aw_seq ?_)
 by_cases hi : i < sn.length ∧ i < 8
 ·obtain ⟨hi1, hi2⟩ := hi
  have hi1' : (i : Int) < sn.length := by omega
  have hi2' : (i : Int) < 8 := by omega
  obtain ⟨qa, y, q1, q2, q3, rfl, q4⟩ := sat i hi1
  have q5 := q4 G (lwHB G lwG)
  have hps := pick_succ (l := l) hi1
  have hlz := lk (sn.getD i 0)
  have hat3 := hpk (sn.getD i 0) G lwG
  generalize sn.getD i 0 = z at *
  generalize atK l z = Y at *
  have hrow1 : setR (List.map (fun j => (iv .u8 (zl 32))[j % 32]?.getD undef) (List.range 32)) 0 (iv .u8 Y) = iv .u8 Y := setR_all _ _ (by simp [hlz])
  obtain ⟨v1, G1, F1, hap, ho1, hl1, hk1, hF1, n1, n2⟩ := own_push (nro := H.length) (lo := B.length) ho (fun k hk => (pick_k h0l hkk sn i k hk).1) hFo hBn lwG.2 hlz (by have := pick_len (l := l) (s := sn) (i := i); omega)
  (refine aoo fun K hK => ?_; simp (disch := first | omega | (simp only [lnS]; try omega)) [-getElem?_pos, -getElem?_neg, a1, a11, -notTuple, snt, -xlen, sxl, hi1', hi2']; refine hK _ _ ?_; clear hK K)
  refine aw_t (by (first | (simp; done) | (simp; omega))) (by kernel_rfl) ?_
  refine aw_skip (aw_seq ?_)
  refine aw_block ?_
  refine aoo fun K hK => ?_
  simp (disch := first | omega | (simp only [lnS]; try omega)) [-getElem?_pos, -getElem?_neg, a1, a7, a9, a11, -xload, q5, -notTuple, snt, q1, q3, hto.1, -xindexAddr, q2]
  refine ⟨by kernel_rfl, ac_of_rc hat3 (by simp [pv_iv, pv_int, pv_bool, pv_string, pv_tup2, pv_tup3, iv_plain, p2_int, p2_bool, p2_string]) ?_⟩
  try simp (disch := first | omega | (simp only [lnS]; try omega)) [-getElem?_pos, -getElem?_neg, hrow1, hlz, -notTuple, hto.1, n1, n2, -xappend, hap]
  refine hK _ _ ?_; clear hK K
  (refine aoo fun K hK => ?_; simp (disch := first | omega | (simp only [lnS]; try omega)) [-getElem?_pos, -getElem?_neg, a11]; refine hK _ _ ?_; clear hK K)
  exact ⟨q - 1, by omega, i + 1, v1, F1, by omega, by omega, by (first | (simp [a1]; done) | rfl), by (first | (simp [a2]; done) | rfl), by (first | (simp [a7]; done) | rfl), by (first | (simp; done) | rfl), by (first | (simp [a10]; done) | rfl), by (first | (simp; done) | rfl), ⟨fun j hj => (hk1 j hj).trans (lwG.1 j hj), by have := lwG.2; omega⟩, by rw [hps]; exact ho1, hF1⟩
 refine aw_cut (fun α G' => α 2 = vm ∧ α 7 = .pointer (some ⟨p, 0, none⟩) ∧ α 9 = out ∧ α 10 = .slice none 0 0 ∧ α 45 = .bool false ∧ G' = G) ?_ ?_
 ·by_cases hi1 : i < sn.length
  ·have hi1' : (i : Int) < sn.length := by omega
   have hi2' : ¬ (i : Int) < 8 := by omega
   (refine aoo fun K hK => ?_; simp (disch := first | omega | (simp only [lnS]; try omega)) [-getElem?_pos, -getElem?_neg, a1, a11, -notTuple, snt, -xlen, sxl, hi1', hi2']; refine hK _ _ ?_; clear hK K)
   exact ⟨by (first | (simp [a2]; done) | rfl), by (first | (simp [a7]; done) | rfl), by (first | (simp [a9]; done) | rfl), by (first | (simp [a10]; done) | rfl), by (first | (simp; done) | rfl), rfl⟩
  ·have hi1' : ¬ (i : Int) < sn.length := by omega
   (refine aoo fun K hK => ?_; simp (disch := first | omega | (simp only [lnS]; try omega)) [-getElem?_pos, -getElem?_neg, a1, a11, -notTuple, snt, -xlen, sxl, hi1']; refine hK _ _ ?_; clear hK K)
   exact ⟨by (first | (simp [a2]; done) | rfl), by (first | (simp [a7]; done) | rfl), by (first | (simp [a9]; done) | rfl), by (first | (simp [a10]; done) | rfl), by (first | (simp; done) | rfl), rfl⟩
 rintro α1 G' ⟨b2, b7, b9, b10, b45, rfl⟩
 rw [pick_end hi his (by omega)] at ho
 clear a1 a2 a7 a9 a10 a11 hi his hiq sat sxl snt svc hs hsm sm63
 refine aw_f (by (first | (simp [b45]; done) | (simp [b45]; omega))) (by kernel_rfl) ?_
 refine aw_exit ?_
 have hks1 := pick_k h0l hkk sn 8
 have hkn1 : K32 (pickL l sn 8) := fun k hk => (hks1 k hk).1
 have hkl1 : (pickL l sn 8).length ≤ 8 := pick_len
 generalize pickL l sn 8 = S1 at *
 obtain ⟨B2, hBB⟩ : ∃ B2, B2 = G' := ⟨_, rfl⟩
 rw [← hBB] at ho lwG ⊢
 clear hBB
 have hB2n : B.length ≤ B2.length := lwG.2
 have hx1 : xcells 32 out B2 = some (kr S1) := by
  rw [← ksC_kr]
  exact val_cells (by omega) (kr_ksv ho hkn1) (kd_len hkn1) (kd_flat _)
 have hstr : ∀ s, out ≠ .string s := fun s e => by
  rcases ho with ⟨e2, _⟩ | ⟨j, len, e2, _⟩ <;> rw [e] at e2 <;> cases e2
 have hkr1 := kr_len hkn1
 obtain ⟨v2, G3, F2, hap, ho2, hl2, hk2, hF2⟩ := ownF_appQ (P := Tryd.prog) (nro := H.length) (t := 33) (e := 28) (H := B2) (v := .slice none 0 0) (x := out) (sz := 32) (cells := []) (news := kr S1) (F := []) (by kernel_rfl) (by kernel_rfl) (by omega) (by kernel_rfl)
  (.inl ⟨rfl, rfl, rfl⟩) (fun j hj => by cases hj) hstr hx1 (by rw [hkr1]; omega) (by rw [hkr1, show byt Tryd.prog 28 = 32 by kernel_rfl]; simp; omega) (by rw [hkr1]; simp [maxLen]; omega)
 have n2 := ownF_nt ho2
 (refine aw_seq (aoo fun K hK => ?_); simp (disch := first | omega | (simp only [lnS]; try omega)) [-getElem?_pos, -getElem?_neg, b9, b10, -notTuple, hto.1, n2.1, n2.2, -xappend, hap]; refine hK _ _ ?_; clear hK K)
 have lw3 : Low B2.length B2 G3 := ⟨fun j hj => hk2 j hj (by simp), hl2⟩
 refine aw_seq (aw_seq ?_)
 (refine aoo fun K hK => ?_; simp (disch := first | omega | (simp only [lnS]; try omega)) [-getElem?_pos, -getElem?_neg]; refine hK _ _ ?_; clear hK K)
 refine aw_block ?_
 refine aw_loop (fun q α G => ∃ (i : Nat) (o2 : Value) (Fo : List Nat), i + q = 8 ∧ i ≤ mo.length ∧ α 2 = vm ∧ α 7 = .pointer (some ⟨p, 0, none⟩) ∧ α 9 = out ∧ α 10 = o2 ∧ α 12 = .int .i64 (i : Nat) ∧ Low B2.length B2 G ∧ OwnF G o2 28 32 (kr (S1 ++ pickL l mo i)) Fo ∧ ∀ j ∈ Fo, B2.length ≤ j) 8 ?_ ?_
 ·exact ⟨0, v2, F2, by omega, by omega, by (first | (simp [b2]; done) | rfl), by (first | (simp [b7]; done) | rfl), by (first | (simp [b9]; done) | rfl), by (first | (simp; done) | rfl), by (first | (simp; done) | rfl), lw3, by simpa [pickL] using ho2, hF2⟩
 clear b2 b7 b9 b10 b45 hap ho2 hl2 hk2 hF2 n2 lw3
 rintro q α G ⟨i, o2, Fo2, hiq, his, a2, a7, a9, a10, a12, lwG2, ho2, hFo2⟩
 have hto2 := ownF_nt ho2
 have lwBG : Low B.length B G := ⟨fun j hj => (lwG2.1 j (by omega)).trans (lwG.1 j hj), by have := lwG2.2; omega⟩
 refine aw_seq (aw_seq ?_)
 by_cases hi : i < mo.length ∧ i < 8
 ·obtain ⟨hi1, hi2⟩ := hi
  have hi1' : (i : Int) < mo.length := by omega
  have hi2' : (i : Int) < 8 := by omega
  obtain ⟨qa, y, q1, q2, q3, rfl, q4⟩ := mat i hi1
  have q5 := q4 G (lwHB G lwBG)
  have hps := pick_succ (l := l) hi1
  have hlz := lk (mo.getD i 0)
  have hat3 := hpk (mo.getD i 0) G lwBG
  generalize mo.getD i 0 = z at *
  generalize atK l z = Y at *
  have hrow1 : setR (List.map (fun j => (iv .u8 (zl 32))[j % 32]?.getD undef) (List.range 32)) 0 (iv .u8 Y) = iv .u8 Y := setR_all _ _ (by simp [hlz])
  obtain ⟨v1, G1, F1, hap, ho1, hl1, hk1, hF1, n1, n2⟩ := own_push (nro := H.length) (lo := B2.length) ho2 (fun k hk => (List.mem_append.1 hk).elim (hkn1 k) (fun e => (pick_k h0l hkk mo i k e).1)) hFo2 (by omega) lwG2.2 hlz (by have := pick_len (l := l) (s := mo) (i := i); rw [List.length_append]; omega)
  (refine aoo fun K hK => ?_; simp (disch := first | omega | (simp only [lnS]; try omega)) [-getElem?_pos, -getElem?_neg, a2, a12, -notTuple, mnt, -xlen, mxl, hi1', hi2']; refine hK _ _ ?_; clear hK K)
  refine aw_t (by (first | (simp; done) | (simp; omega))) (by kernel_rfl) ?_
  refine aw_skip (aw_seq ?_)
  refine aw_block ?_
  refine aoo fun K hK => ?_
  simp (disch := first | omega | (simp only [lnS]; try omega)) [-getElem?_pos, -getElem?_neg, a2, a7, a10, a12, -xload, q5, -notTuple, mnt, q1, q3, hto2.1, -xindexAddr, q2]
  refine ⟨by kernel_rfl, ac_of_rc hat3 (by simp [pv_iv, pv_int, pv_bool, pv_string, pv_tup2, pv_tup3, iv_plain, p2_int, p2_bool, p2_string]) ?_⟩
  try simp (disch := first | omega | (simp only [lnS]; try omega)) [-getElem?_pos, -getElem?_neg, hrow1, hlz, -notTuple, hto2.1, n1, n2, -xappend, hap]
  refine hK _ _ ?_; clear hK K
  (refine aoo fun K hK => ?_; simp (disch := first | omega | (simp only [lnS]; try omega)) [-getElem?_pos, -getElem?_neg, a12]; refine hK _ _ ?_; clear hK K)
  exact ⟨q - 1, by omega, i + 1, v1, F1, by omega, by omega, by (first | (simp [a2]; done) | rfl), by (first | (simp [a7]; done) | rfl), by (first | (simp [a9]; done) | rfl), by (first | (simp; done) | rfl), by (first | (simp; done) | rfl), ⟨fun j hj => (hk1 j hj).trans (lwG2.1 j hj), by have := lwG2.2; omega⟩, by rw [hps, ← List.append_assoc]; exact ho1, hF1⟩
 refine aw_cut (fun α G' => α 7 = .pointer (some ⟨p, 0, none⟩) ∧ α 9 = out ∧ α 10 = o2 ∧ α 67 = .bool false ∧ G' = G) ?_ ?_
 ·by_cases hi1 : i < mo.length
  ·have hi1' : (i : Int) < mo.length := by omega
   have hi2' : ¬ (i : Int) < 8 := by omega
   (refine aoo fun K hK => ?_; simp (disch := first | omega | (simp only [lnS]; try omega)) [-getElem?_pos, -getElem?_neg, a2, a12, -notTuple, mnt, -xlen, mxl, hi1', hi2']; refine hK _ _ ?_; clear hK K)
   exact ⟨by (first | (simp [a7]; done) | rfl), by (first | (simp [a9]; done) | rfl), by (first | (simp [a10]; done) | rfl), by (first | (simp; done) | rfl), rfl⟩
  ·have hi1' : ¬ (i : Int) < mo.length := by omega
   (refine aoo fun K hK => ?_; simp (disch := first | omega | (simp only [lnS]; try omega)) [-getElem?_pos, -getElem?_neg, a2, a12, -notTuple, mnt, -xlen, mxl, hi1']; refine hK _ _ ?_; clear hK K)
   exact ⟨by (first | (simp [a7]; done) | rfl), by (first | (simp [a9]; done) | rfl), by (first | (simp [a10]; done) | rfl), by (first | (simp; done) | rfl), rfl⟩
 rintro α1 G' ⟨b7, b9, b10, b67, rfl⟩
 rw [pick_end hi his (by omega)] at ho2
 clear a2 a7 a9 a10 a12 hi his hiq mat mxl mnt mvc hmo hmm mm63
 refine aw_f (by (first | (simp [b67]; done) | (simp [b67]; omega))) (by kernel_rfl) ?_
 refine aw_exit ?_
 have hks2 := pick_k h0l hkk mo 8
 have hkl2 : (pickL l mo 8).length ≤ 8 := pick_len
 generalize pickL l mo 8 = M1 at *
 have s1 : (∀ k ∈ S1, k.length = 32 ∧ By k) ∧ S1.length ≤ 1000000 := ⟨hks1, by omega⟩
 have s2 : (∀ k ∈ S1 ++ M1, k.length = 32 ∧ By k) ∧ (S1 ++ M1).length ≤ 1000000 := ⟨fun k hk => (List.mem_append.1 hk).elim (hks1 k) (hks2 k), by rw [List.length_append]; omega⟩
 obtain ⟨B4, hBB⟩ : ∃ B4, B4 = G' := ⟨_, rfl⟩
 rw [← hBB] at ho2 lwG2 lwBG ⊢
 clear hBB
 have hP := hP.low lwBG
 have gp := (lwBG.1 p (hget_lt gp)).trans gp
 have k1 : KsV B4 out S1 := kr_ksv (ho.low (fun j hj => lwG2.1 j (ho.lt j hj))) (fun k hk => (s1.1 k hk).1)
 have k2 : KsV B4 o2 (S1 ++ M1) := kr_ksv ho2 (fun k hk => (s2.1 k hk).1)
 obtain ⟨n1, n1c⟩ := hto
 obtain ⟨n2, n2c⟩ := hto2
 have hmle := fun n => more_le hW S1 M1 (n := n)
 have haeq := fun n (hn : n < T.length) => again_eq hW S1 (n := n) hn
 have lA := fol_len T S1
 have lC := fol_len T (S1 ++ M1)
 refine aw_seq ?_
 refine name_aw (fun β hβ => ?_)
 have e7 : β 7 = .pointer (some ⟨p, 0, none⟩) := by rw [hβ, b7]
 have e9 : β 9 = out := by rw [hβ, b9]
 have e10 : β 10 = o2 := by rw [hβ, b10]
 clear hβ b7 b9 b10 b67 hpk lwHB lwG lwG2 lwBG ho ho2 hFo hFo2 hstr hx1
 have moF_nd : moFD.Nodup := by decide
 have moF_st := @moF_st' p tb T.length out o2 (folL T S1) (folL T (S1 ++ M1))
 refine aw_inv moFP (IJ moFD (moFV p tb T.length out o2 (folL T S1) (folL T (S1 ++ M1))) β B4) (by kernel_rfl) (by kernel_rfl) (by kernel_rfl) (IJ.start rfl) ?_ ?_
 ·intro i s α G k hJ hi0 hsi hd hcc hcont
  have lwG : Low B4.length B4 G := ⟨hJ.lw.2, hJ.lw.1⟩
  have j7 := (hJ.lo 7 (by decide)).trans e7
  have j9 := (hJ.lo 9 (by decide)).trans e9
  have j10 := (hJ.lo 10 (by decide)).trans e10
  obtain ⟨ldt, _, _⟩ := play_loads ((lwG.1 _ (hget_lt gp)).trans gp)
  have hi : i = 0 ∨ i = 1 ∨ i = 2 ∨ i = 3 ∨ i = 4 ∨ i = 5 ∨ i = 6 ∨ i = 7 ∨ i = 8 ∨ i = 9 ∨ i = 10 ∨ i = 11 ∨ i = 12 ∨ i = 13 := by have hi0 : i < 14 := hi0; omega
  rcases hi with rfl | rfl | rfl | rfl | rfl | rfl | rfl | rfl | rfl | rfl | rfl | rfl | rfl | rfl
  ·simp (disch := first | omega | (simp only [lnS]; try omega)) [-getElem?_pos, -getElem?_neg, -notTuple, j7]
   exact hcont _ _ (hJ.put moF_nd moF_st rfl (Nat.le_refl _) (fun _ _ => rfl) rfl)
  ·have f0 : α 79 = .pointer (some ⟨p, 0, none⟩) := hJ.val 0 79 rfl (hd 0 (by decide))
   simp (disch := first | omega | (simp only [lnS]; try omega)) [-getElem?_pos, -getElem?_neg, -notTuple, f0]
   exact hcont _ _ (hJ.put moF_nd moF_st rfl (Nat.le_refl _) (fun _ _ => rfl) rfl)
  ·have f1 : α 80 = .pointer (some ⟨p, 0, none⟩) := hJ.val 1 80 rfl (hd 1 (by decide))
   simp (disch := first | omega | (simp only [lnS]; try omega)) [-getElem?_pos, -getElem?_neg, -notTuple, f1]
   exact hcont _ _ (hJ.put moF_nd moF_st rfl (Nat.le_refl _) (fun _ _ => rfl) rfl)
  ·have f2 : α 81 = .pointer (some ⟨p, 0, none⟩) := hJ.val 2 81 rfl (hd 2 (by decide))
   simp (disch := first | omega | (simp only [lnS]; try omega)) [-getElem?_pos, -getElem?_neg, -notTuple, -xload, ldt, f2]
   exact hcont _ _ (hJ.put moF_nd moF_st rfl (Nat.le_refl _) (fun _ _ => rfl) rfl)
  ·simp (disch := first | omega | (simp only [lnS]; try omega)) [-getElem?_pos, -getElem?_neg, -notTuple, j9, n1]
   exact hcont _ _ (hJ.put moF_nd moF_st rfl (Nat.le_refl _) (fun _ _ => rfl) rfl)
  ·have f3 : α 82 = .pointer (some ⟨tb, 0, none⟩) := hJ.val 3 82 rfl (hd 3 (by decide))
   have f4 : α 83 = out := hJ.val 4 83 rfl (hd 4 (by decide))
   simp (disch := first | omega | (simp only [lnS]; try omega)) [-getElem?_pos, -getElem?_neg, f3, f4]
   refine ⟨by kernel_rfl, AC.mono (pl_follow hpw (hP.low lwG) hW (CD.Val.low (fun j hj => lwG.1 j hj) k1) s1) ?_⟩
   rintro v' G' ⟨kx, kb, rfl, lwq, q1, q2, _, _⟩
   exact hcont _ _ (hJ.put moF_nd moF_st (t := 84) rfl lwq.2 lwq.1 ⟨kx, kb, rfl, q1, q2⟩)
  ·simp (disch := first | omega | (simp only [lnS]; try omega)) [-getElem?_pos, -getElem?_neg, -notTuple, j7]
   exact hcont _ _ (hJ.put moF_nd moF_st rfl (Nat.le_refl _) (fun _ _ => rfl) rfl)
  ·have f6 : α 85 = .pointer (some ⟨p, 0, none⟩) := hJ.val 6 85 rfl (hd 6 (by decide))
   simp (disch := first | omega | (simp only [lnS]; try omega)) [-getElem?_pos, -getElem?_neg, -notTuple, f6]
   exact hcont _ _ (hJ.put moF_nd moF_st rfl (Nat.le_refl _) (fun _ _ => rfl) rfl)
  ·have f7 : α 86 = .pointer (some ⟨p, 0, none⟩) := hJ.val 7 86 rfl (hd 7 (by decide))
   simp (disch := first | omega | (simp only [lnS]; try omega)) [-getElem?_pos, -getElem?_neg, -notTuple, f7]
   exact hcont _ _ (hJ.put moF_nd moF_st rfl (Nat.le_refl _) (fun _ _ => rfl) rfl)
  ·have f8 : α 87 = .pointer (some ⟨p, 0, none⟩) := hJ.val 8 87 rfl (hd 8 (by decide))
   simp (disch := first | omega | (simp only [lnS]; try omega)) [-getElem?_pos, -getElem?_neg, -notTuple, -xload, ldt, f8]
   exact hcont _ _ (hJ.put moF_nd moF_st rfl (Nat.le_refl _) (fun _ _ => rfl) rfl)
  ·simp (disch := first | omega | (simp only [lnS]; try omega)) [-getElem?_pos, -getElem?_neg, -notTuple, j10, n2]
   exact hcont _ _ (hJ.put moF_nd moF_st rfl (Nat.le_refl _) (fun _ _ => rfl) rfl)
  ·have f9 : α 88 = .pointer (some ⟨tb, 0, none⟩) := hJ.val 9 88 rfl (hd 9 (by decide))
   have f10 : α 89 = o2 := hJ.val 10 89 rfl (hd 10 (by decide))
   simp (disch := first | omega | (simp only [lnS]; try omega)) [-getElem?_pos, -getElem?_neg, f9, f10]
   refine ⟨by kernel_rfl, AC.mono (pl_follow hpw (hP.low lwG) hW (CD.Val.low (fun j hj => lwG.1 j hj) k2) s2) ?_⟩
   rintro v' G' ⟨kx, kb, rfl, lwq, q1, q2, _, _⟩
   exact hcont _ _ (hJ.put moF_nd moF_st (t := 90) rfl lwq.2 lwq.1 ⟨kx, kb, rfl, q1, q2⟩)
  ·have f5 := hJ.val 5 84 rfl (hd 5 (by decide))
   obtain ⟨kx, kb, e, q1, q2⟩ := f5
   simp (disch := first | omega | (simp only [lnS]; try omega)) [-getElem?_pos, -getElem?_neg, e]
   exact hcont _ _ (hJ.put moF_nd moF_st (t := 13) rfl (Nat.le_refl _) (fun _ _ => rfl) ⟨kx, kb, rfl, q1, q2⟩)
  ·have f11 := hJ.val 11 90 rfl (hd 11 (by decide))
   obtain ⟨kx, kb, e, q1, q2⟩ := f11
   simp (disch := first | omega | (simp only [lnS]; try omega)) [-getElem?_pos, -getElem?_neg, e]
   exact hcont _ _ (hJ.put moF_nd moF_st (t := 14) rfl (Nat.le_refl _) (fun _ _ => rfl) ⟨kx, kb, rfl, q1, q2⟩)
 rintro s α G hJ hall
 have hsz : s.size = 14 := hJ.sz
 have hg : ∀ i, i < 14 → s.getD i false = true := fun i hi => by
  rw [Array.getD_eq_getD_getElem?, Array.getElem?_eq_getElem (by omega)]
  exact Array.all_eq_true.1 hall i (by omega)
 have lw5 : Low B4.length B4 G := ⟨hJ.lw.2, hJ.lw.1⟩
 have a7 := (hJ.lo 7 (by decide)).trans e7
 obtain ⟨x1, y1, a13, ex1, ey1⟩ : FQ G T.length (folL T S1) (α 13) := hJ.val 12 13 rfl (hg 12 (by omega))
 obtain ⟨x2, y2, a14, ex2, ey2⟩ : FQ G T.length (folL T (S1 ++ M1)) (α 14) := hJ.val 13 14 rfl (hg 13 (by omega))
 clear hall hsz hg hJ e7 e9 e10 moF_st moF_nd
 have hP := hP.low lw5
 have gp := (lw5.1 p (hget_lt gp)).trans gp
 generalize folL T (S1 ++ M1) = C1 at *
 generalize hA1 : folL T S1 = A1 at *
 obtain ⟨B5, hBB⟩ : ∃ B5, B5 = G := ⟨_, rfl⟩
 rw [← hBB] at hP gp ex1 ey1 ex2 ey2 ⊢
 clear hBB lw5 k1 k2 s1 s2
 have hB5n : H.length ≤ B5.length := hP.lw.2
 have fpl : ∀ x : Nat, True := fun _ => trivial
 (refine aw_seq (aoo fun K hK => ?_); simp (disch := first | omega | (simp only [lnS]; try omega)) [-getElem?_pos, -getElem?_neg]; refine hK _ _ ?_; clear hK K)
 refine aw_seq (aw_seq ?_)
 (refine aoo fun K hK => ?_; simp (disch := first | omega | (simp only [lnS]; try omega)) [-getElem?_pos, -getElem?_neg]; refine hK _ _ ?_; clear hK K)
 refine aw_block ?_
 refine aw_loop (fun q α G => ∃ (i : Nat) (o3 : Value) (Fo : List Nat), i + q = T.length ∧ α 7 = .pointer (some ⟨p, 0, none⟩) ∧ α 13 = .func (.func 37) #[] #[.pointer (some ⟨x1, 0, none⟩)] ∧ α 14 = .func (.func 37) #[] #[.pointer (some ⟨x2, 0, none⟩)] ∧ α 15 = o3 ∧ α 16 = .int .i64 (i : Nat) ∧ Low B5.length B5 G ∧ OwnF G o3 28 32 (kr (againL A1 i)) Fo ∧ ∀ j ∈ Fo, B5.length ≤ j) T.length ?_ ?_
 ·exact ⟨0, .slice none 0 0, [], by omega, by (first | (simp [a7]; done) | rfl), by (first | (simp [a13]; done) | rfl), by (first | (simp [a14]; done) | rfl), by (first | (simp; done) | rfl), by (first | (simp; done) | rfl), Low.refl (Nat.le_refl _), .inl ⟨rfl, by simp [againL, kr], rfl⟩, fun j hj => by cases hj⟩
 clear a7 a13 a14
 rintro q α G ⟨i, o3, Fo3, hiq, a7, a13, a14, a15, a16, lw6, ho3, hFo3⟩
 have hto3 := ownF_nt ho3
 have hPG := hP.low lw6
 obtain ⟨ldt, _, _⟩ := play_loads ((lw6.1 p (hget_lt gp)).trans gp)
 have hlen := pl_len (γ := γ) hPG
 refine aw_seq (aw_seq ?_)
 by_cases hi : i < T.length
 ·have hi' : (i : Int) < T.length := by omega
  obtain ⟨N, hN⟩ : ∃ N : List Int, N = nmL (i : Nat) := ⟨_, rfl⟩
  have lN : N.length = 32 := by rw [hN]; rfl
  have bN : By N := by rw [hN]; exact nmL_by _
  have hnm := fun (G : AH) => rname_rc (γ := γ) (H := G) (n := (i : Nat)) ⟨by omega, by omega⟩
  rw [← hN] at hnm
  have hf1 := fol1_rc (γ := γ) ((lw6.1 _ (hget_lt ex1)).trans ex1) ((lw6.1 _ (hget_lt ey1)).trans ey1) lA (by omega) lN bN
  rw [hN, fol_nm (by omega), ← hN] at hf1
  have hsuc := again_succ A1 i
  refine aoo fun K hK => ?_
  simp (disch := first | omega | (simp only [lnS]; try omega)) [-getElem?_pos, -getElem?_neg, a7, a16, -xload, ldt, -notTuple]
  refine ⟨by kernel_rfl, ac_of_rc hlen (by simp [pv_iv, pv_int, pv_bool, pv_string, pv_tup2, pv_tup3, iv_plain, p2_int, p2_bool, p2_string]) ?_⟩
  try simp (disch := first | omega | (simp only [lnS]; try omega)) [-getElem?_pos, -getElem?_neg, hi']
  refine hK _ _ ?_; clear hK K
  refine aw_t (by (first | (simp; done) | (simp; omega))) (by kernel_rfl) ?_
  refine aw_skip (aw_seq ?_)
  refine aw_block ?_
  refine aw_seq (aoo fun K hK => ?_)
  simp (disch := first | omega | (simp only [lnS]; try omega)) [-getElem?_pos, -getElem?_neg, a13, a16]
  refine ⟨by kernel_rfl, ac_of_rc (hnm _) (by simp [pv_iv]) ?_⟩
  try simp (disch := first | omega | (simp only [lnS]; try omega)) [-getElem?_pos, -getElem?_neg, a13, lN]
  refine ⟨by kernel_rfl, ac_of_rc hf1 (by simp [pv_iv, pv_int, pv_bool, pv_string, pv_tup2, pv_tup3, iv_plain, p2_int, p2_bool, p2_string]) ?_⟩
  try simp (disch := first | omega | (simp only [lnS]; try omega)) [-getElem?_pos, -getElem?_neg]
  refine hK _ _ ?_; clear hK K
  by_cases hkA : kw A1 i = true
  ·rw [hkA]
   rw [if_pos hkA] at hsuc
   have hkC := hmle i hkA
   have hrow1 : setR (List.map (fun j => (iv .u8 (zl 32))[j % 32]?.getD undef) (List.range 32)) 0 (iv .u8 N) = iv .u8 N := setR_all _ _ (by simp [lN])
   obtain ⟨v1, G1, F1, hap, ho1, hl1, hk1, hF1, m1, m2⟩ := own_push (nro := H.length) (lo := B5.length) ho3 (again_k32 A1 i) hFo3 hB5n lw6.2 lN (by have := again_len A1 i; omega)
   have lw7 : Low B5.length B5 G1 := ⟨fun j hj => (hk1 j hj).trans (lw6.1 j hj), by have := lw6.2; omega⟩
   have hf2 := fol1_rc (γ := γ) ((lw7.1 _ (hget_lt ex2)).trans ex2) ((lw7.1 _ (hget_lt ey2)).trans ey2) lC (by omega) lN bN
   rw [hN, fol_nm (by omega), ← hN, hkC] at hf2
   refine aw_t (by (first | (simp; done) | (simp; omega))) (by kernel_rfl) ?_
   refine aw_seq (aoo fun K hK => ?_)
   simp (disch := first | omega | (simp only [lnS]; try omega)) [-getElem?_pos, -getElem?_neg, a15, a16, -notTuple, hto3.1]
   refine ⟨by kernel_rfl, ac_of_rc (hnm _) (by simp [pv_iv]) ?_⟩
   try simp (disch := first | omega | (simp only [lnS]; try omega)) [-getElem?_pos, -getElem?_neg, hrow1, lN, -notTuple, hto3.1, m1, m2, -xappend, hap]
   refine hK _ _ ?_; clear hK K
   refine aw_seq (aoo fun K hK => ?_)
   simp (disch := first | omega | (simp only [lnS]; try omega)) [-getElem?_pos, -getElem?_neg, a14, a16]
   refine ⟨by kernel_rfl, ac_of_rc (hnm _) (by simp [pv_iv]) ?_⟩
   try simp (disch := first | omega | (simp only [lnS]; try omega)) [-getElem?_pos, -getElem?_neg, a14, lN]
   refine ⟨by kernel_rfl, ac_of_rc hf2 (by simp [pv_iv, pv_int, pv_bool, pv_string, pv_tup2, pv_tup3, iv_plain, p2_int, p2_bool, p2_string]) ?_⟩
   try simp (disch := first | omega | (simp only [lnS]; try omega)) [-getElem?_pos, -getElem?_neg]
   refine hK _ _ ?_; clear hK K
   refine aw_f (by (first | (simp; done) | (simp; omega))) (by kernel_rfl) ?_
   refine aw_skip ?_
   (refine aoo fun K hK => ?_; simp (disch := first | omega | (simp only [lnS]; try omega)) [-getElem?_pos, -getElem?_neg, a16]; refine hK _ _ ?_; clear hK K)
   exact ⟨q - 1, by omega, i + 1, v1, F1, by omega, by (first | (simp [a7]; done) | rfl), by (first | (simp [a13]; done) | rfl), by (first | (simp [a14]; done) | rfl), by (first | (simp; done) | rfl), by (first | (simp; done) | rfl), lw7, by rw [hsuc, ← hN]; exact ho1, hF1⟩
  ·have hkf : kw A1 i = false := by simpa using hkA
   rw [hkf]
   rw [if_neg hkA] at hsuc
   refine aw_f (by (first | (simp; done) | (simp; omega))) (by kernel_rfl) ?_
   refine aw_skip ?_
   (refine aoo fun K hK => ?_; simp (disch := first | omega | (simp only [lnS]; try omega)) [-getElem?_pos, -getElem?_neg, a16]; refine hK _ _ ?_; clear hK K)
   exact ⟨q - 1, by omega, i + 1, o3, Fo3, by omega, by (first | (simp [a7]; done) | rfl), by (first | (simp [a13]; done) | rfl), by (first | (simp [a14]; done) | rfl), by (first | (simp [a15]; done) | rfl), by (first | (simp; done) | rfl), lw6, by rw [hsuc]; exact ho3, hFo3⟩
 obtain rfl : i = T.length := by omega
 refine aoo fun K hK => ?_
 simp (disch := first | omega | (simp only [lnS]; try omega)) [-getElem?_pos, -getElem?_neg, a7, a16, -xload, ldt, -notTuple]
 refine ⟨by kernel_rfl, ac_of_rc hlen (by simp [pv_iv, pv_int, pv_bool, pv_string, pv_tup2, pv_tup3, iv_plain, p2_int, p2_bool, p2_string]) ?_⟩
 try simp (disch := first | omega | (simp only [lnS]; try omega)) [-getElem?_pos, -getElem?_neg]
 refine hK _ _ ?_; clear hK K
 refine aw_f (by (first | (simp; done) | (simp; omega))) (by kernel_rfl) ?_
 refine aw_exit ?_
 have hak : (∀ k ∈ againL A1 T.length, k.length = 32 ∧ By k) ∧ (againL A1 T.length).length ≤ 1000000 := ⟨fun k hk => by
  obtain ⟨n, _, _, rfl⟩ := again_mem hk
  exact ⟨rfl, nmL_by _⟩, by have := again_len A1 T.length; omega⟩
 have hfo := pl_follow (γ := γ) hpw hPG hW (kr_ksv ho3 (again_k32 A1 T.length)) hak
 refine aw_seq (aoo fun K hK => ?_)
 simp (disch := first | omega | (simp only [lnS]; try omega)) [-getElem?_pos, -getElem?_neg, a7, a15, -xload, ldt, -notTuple, hto3.1]
 refine ⟨by kernel_rfl, AC.mono hfo ?_⟩
 rintro _ G8 ⟨x3, y3, rfl, lw8, ex3, ey3, _, _⟩
 try simp (disch := first | omega | (simp only [lnS]; try omega)) [-getElem?_pos, -getElem?_neg]
 refine hK _ _ ?_; clear hK K
 have lA3 := fol_len T (againL A1 T.length)
 have gp := (lw8.1 p (by have := hPG.sl (j := p) (by simp); exact this)).trans ((lw6.1 p (hget_lt gp)).trans gp)
 have hP8 := hPG.low lw8
 have ex1 := (lw8.1 _ (by have := hget_lt ex1; have := lw6.2; omega)).trans ((lw6.1 _ (hget_lt ex1)).trans ex1)
 have ey1 := (lw8.1 _ (by have := hget_lt ey1; have := lw6.2; omega)).trans ((lw6.1 _ (hget_lt ey1)).trans ey1)
 obtain ⟨ldt, _, _⟩ := play_loads gp
 have hlen := pl_len (γ := γ) hP8
 generalize folL T (againL A1 T.length) = E1 at *
 refine aw_seq (aw_seq ?_)
 (refine aoo fun K hK => ?_; simp (disch := first | omega | (simp only [lnS]; try omega)) [-getElem?_pos, -getElem?_neg]; refine hK _ _ ?_; clear hK K)
 refine aw_block ?_
 refine aw_loop (fun q α G => ∃ i : Nat, i + q = T.length ∧ α 7 = .pointer (some ⟨p, 0, none⟩) ∧ α 13 = .func (.func 37) #[] #[.pointer (some ⟨x1, 0, none⟩)] ∧ α 17 = .func (.func 37) #[] #[.pointer (some ⟨x3, 0, none⟩)] ∧ α 18 = .int .i64 (i : Nat) ∧ G = G8) T.length ?_ ?_
 ·exact ⟨0, by omega, by (first | (simp [a7]; done) | rfl), by (first | (simp [a13]; done) | rfl), by (first | (simp; done) | rfl), by (first | (simp; done) | rfl), rfl⟩
 clear a7 a13 a14 a15 a16
 rintro q α G ⟨i, hiq, a7, a13, a17, a18, rfl⟩
 refine aw_seq (aw_seq ?_)
 by_cases hi : i < T.length
 ·have hi' : (i : Int) < T.length := by omega
  obtain ⟨N, hN⟩ : ∃ N : List Int, N = nmL (i : Nat) := ⟨_, rfl⟩
  have lN : N.length = 32 := by rw [hN]; rfl
  have bN : By N := by rw [hN]; exact nmL_by _
  have hnm := fun (G : AH) => rname_rc (γ := γ) (H := G) (n := (i : Nat)) ⟨by omega, by omega⟩
  rw [← hN] at hnm
  have hf1 := fol1_rc (γ := γ) ex1 ey1 lA (by omega) lN bN
  rw [hN, fol_nm (by omega), ← hN] at hf1
  have hf3 := fol1_rc (γ := γ) ex3 ey3 lA3 (by omega) lN bN
  rw [hN, fol_nm (by omega), ← hN, haeq i hi] at hf3
  generalize kw A1 i = bb at *
  refine aoo fun K hK => ?_
  simp (disch := first | omega | (simp only [lnS]; try omega)) [-getElem?_pos, -getElem?_neg, a7, a18, -xload, ldt, -notTuple]
  refine ⟨by kernel_rfl, ac_of_rc hlen (by simp [pv_iv, pv_int, pv_bool, pv_string, pv_tup2, pv_tup3, iv_plain, p2_int, p2_bool, p2_string]) ?_⟩
  try simp (disch := first | omega | (simp only [lnS]; try omega)) [-getElem?_pos, -getElem?_neg, hi']
  refine hK _ _ ?_; clear hK K
  refine aw_t (by (first | (simp; done) | (simp; omega))) (by kernel_rfl) ?_
  refine aw_skip (aw_seq ?_)
  refine aw_block ?_
  refine aw_seq (aoo fun K hK => ?_)
  simp (disch := first | omega | (simp only [lnS]; try omega)) [-getElem?_pos, -getElem?_neg, a17, a18]
  refine ⟨by kernel_rfl, ac_of_rc (hnm _) (by simp [pv_iv]) ?_⟩
  try simp (disch := first | omega | (simp only [lnS]; try omega)) [-getElem?_pos, -getElem?_neg, a17, lN]
  refine ⟨by kernel_rfl, ac_of_rc hf3 (by simp [pv_iv, pv_int, pv_bool, pv_string, pv_tup2, pv_tup3, iv_plain, p2_int, p2_bool, p2_string]) ?_⟩
  try simp (disch := first | omega | (simp only [lnS]; try omega)) [-getElem?_pos, -getElem?_neg, a13, a18]
  refine ⟨by kernel_rfl, ac_of_rc (hnm _) (by simp [pv_iv]) ?_⟩
  try simp (disch := first | omega | (simp only [lnS]; try omega)) [-getElem?_pos, -getElem?_neg, a13, lN]
  refine ⟨by kernel_rfl, ac_of_rc hf1 (by simp [pv_iv, pv_int, pv_bool, pv_string, pv_tup2, pv_tup3, iv_plain, p2_int, p2_bool, p2_string]) ?_⟩
  try simp (disch := first | omega | (simp only [lnS]; try omega)) [-getElem?_pos, -getElem?_neg]
  refine hK _ _ ?_; clear hK K
  refine aw_f (by (first | (simp; done) | (simp; omega))) (by kernel_rfl) ?_
  refine aw_skip ?_
  (refine aoo fun K hK => ?_; simp (disch := first | omega | (simp only [lnS]; try omega)) [-getElem?_pos, -getElem?_neg, a18]; refine hK _ _ ?_; clear hK K)
  exact ⟨q - 1, by omega, i + 1, by omega, by (first | (simp [a7]; done) | rfl), by (first | (simp [a13]; done) | rfl), by (first | (simp [a17]; done) | rfl), by (first | (simp; done) | rfl), rfl⟩
 obtain rfl : i = T.length := by omega
 refine aoo fun K hK => ?_
 simp (disch := first | omega | (simp only [lnS]; try omega)) [-getElem?_pos, -getElem?_neg, a7, a18, -xload, ldt, -notTuple]
 refine ⟨by kernel_rfl, ac_of_rc hlen (by simp [pv_iv, pv_int, pv_bool, pv_string, pv_tup2, pv_tup3, iv_plain, p2_int, p2_bool, p2_string]) ?_⟩
 try simp (disch := first | omega | (simp only [lnS]; try omega)) [-getElem?_pos, -getElem?_neg]
 refine hK _ _ ?_; clear hK K
 refine aw_f (by (first | (simp; done) | (simp; omega))) (by kernel_rfl) ?_
 refine aw_exit (aw_seq ?_)
 refine aoo fun K hK => ?_
 simp (disch := first | omega | (simp only [lnS]; try omega)) [-getElem?_pos, -getElem?_neg]
 refine ⟨by kernel_rfl, ac_of_rc (hal _ (hpw.low hP8.lw)) (by simp [pv_iv, pv_int, pv_bool, pv_string, pv_tup2, pv_tup3, iv_plain, p2_int, p2_bool, p2_string]) ?_⟩
 try simp (disch := first | omega | (simp only [lnS]; try omega)) [-getElem?_pos, -getElem?_neg]
 refine hK _ _ ?_; clear hK K
 (refine aw_ret ?_; simp (disch := first | omega | (simp only [lnS]; try omega)) [-getElem?_pos, -getElem?_neg, thenQ_ret, scopeQ_ret, inBlockQ_ret, RQ, resL, resV])
theorem more_in {γ : Nat → Option Nat} {H : AH} (hpw : Pw γ H) {ds dt du : List CD} {u v w : Value} (ok : OkL [CK.sl stepK] ds) (vl : ValL H ds [u]) (ok2 : OkL [CK.sl [CK.int .i64]] dt) (vl2 : ValL H dt [v]) (ok3 : OkL [CK.sl [CK.int .i64]] du) (vl3 : ValL H du [w]) : AC Tryd.prog H.length γ 4 #[u, v, w] H (fun v' _ => v' = .bool true) := by
 obtain ⟨d, r, rfl, o1, n1⟩ := ok.cons
 obtain rfl := n1.nil
 obtain ⟨L, rfl, hL, hm⟩ := steps_of o1
 obtain ⟨u', r', e, v1, n2⟩ := vl.cons
 cases e
 obtain ⟨d2, r2, rfl, o2, n2⟩ := ok2.cons
 obtain rfl := n2.nil
 obtain ⟨zs, rfl, _, hz⟩ := ok_ints o2
 obtain ⟨u2, r2', e, v2, _⟩ := vl2.cons
 cases e
 obtain ⟨d3, r3, rfl, o3, n3⟩ := ok3.cons
 obtain rfl := n3.nil
 obtain ⟨ys, rfl, _, hy⟩ := ok_ints o3
 obtain ⟨u3, r3', e, v3, _⟩ := vl3.cons
 cases e
 exact more_law hpw v1 hL hm v2 hz v3 hy
end
end
end Go.Proofs.YtecjhpamfkfilaaDoor
