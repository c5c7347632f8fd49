/-
  Table.Follow, and what it answers.
  Table: Agree.
  Table: Seal.
  Table.Open; the law's key.
  The law's key of a text.
  The law's alive.
  Table: Agree with a public key.
  Two who know one another's public keys: their table, and what follows.
-/
import Derived.Test.YtecjhpamfkfilaaDoorM8E
import Derived.Test.YtecjhpamfkfilaaDoorM8D
import Derived.Test.YtecjhpamfkfilaaDoorM8C
namespace Go.Proofs.YtecjhpamfkfilaaDoor
open Go Go.RowKit
set_option linter.unusedSimpArgs false
set_option linter.unusedVariables false
set_option maxRecDepth 100000
set_option maxHeartbeats 4000000
section
theorem SR.pop {γ : Nat → Option Nat} {nro : Nat} {H : AH} {c : SrC} {F : List Nat} {s : FSt} (h : SR γ nro H c F s) {i : Nat} (hi : s.2.getLast? = some i) :
  ∃ tdv tv2 q, hget H c.sb = some ⟨[c.tv, .map (some c.mb), .map (some c.ub), .slice (some ⟨c.kb, 0, none⟩) c.L.length c.L.length, tdv], 77, none⟩ ∧ notTuple tdv = true ∧ xlen Tryd.prog 29 tdv = some (.int .i64 (s.2.length : Nat)) ∧ 0 < s.2.length ∧
   xindexAddr Tryd.prog 29 tdv (.int .i64 ((s.2.length - 1 : Nat) : Int)) = some q ∧ notTuple q = true ∧ xload Tryd.prog 3 q H = some (.int .i64 (i : Nat)) ∧
   (∀ G : AH, xslice Tryd.prog 29 tdv none (some (.int .i64 ((s.2.length - 1 : Nat) : Int))) G = some tv2) ∧ notTuple tv2 = true ∧ tv2.cells = #[tv2] ∧
   SRQ γ nro H c F (s.1, s.2.dropLast) (.tuple #[]) (H.set c.sb (some ⟨[c.tv, .map (some c.mb), .map (some c.ub), .slice (some ⟨c.kb, 0, none⟩) c.L.length c.L.length, tv2], 77, none⟩)) := by
 have e2 := last_split hi
 have hu : und Tryd.prog 29 = .slice 3 := by kernel_rfl
 have hs : szt Tryd.prog 3 = 1 := by kernel_rfl
 have hlen : s.2.length = s.2.dropLast.length + 1 := by
  have := congrArg List.length e2
  simpa using this
 obtain ⟨tdv, Fd, hF, hsb, hkb, hsl, htd, hne, hsF, hkF, hm⟩ := h.dy
 have hl := hget_lt hsb
 have hTn := htd.nt
 have hgd : s.2.getD (s.2.length - 1) 0 = i := by
  rw [List.getD_eq_getElem?_getD]
  rw [List.getLast?_eq_getElem?] at hi
  rw [hi]; rfl
 obtain ⟨q, q1, q2, q3⟩ := htd.at_ (i := s.2.length - 1) (by omega)
 have q4 := q3 H (fun _ _ => rfl)
 rw [hgd] at q4
 rcases htd with ⟨_, e0, _⟩ | ⟨j, cs, rfl, rfl, h3, h4⟩
 ·rw [e0] at hlen
  simp at hlen
 ·have hdl : s.2.length - 1 = s.2.dropLast.length := by omega
  refine ⟨_, .slice (some ⟨j, 0, none⟩) s.2.dropLast.length s.2.dropLast.length, q, hsb, rfl, hTn.2.2.2, by omega, q1, q2, q4, fun G => ?_, rfl, rfl, h.step ⟨rfl, by simp, fun t ht hn => hget_set_ne (fun e => hn (by rw [hF]; simp [e])), F, ⟨.slice (some ⟨j, 0, none⟩) s.2.dropLast.length s.2.dropLast.length, [j], hF, hget_set_eq hl, (hget_set_ne hne).trans hkb, hsl, .inr ⟨j, cs, rfl, rfl, (hget_set_ne (by intro e; exact hsF (by simp [e]))).trans h3, ?_⟩, hne, hsF, hkF, ?_⟩, fun t ht => .inl ht⟩⟩
  ·unfold xslice
   simp only [hu, bnd, hs]
   rw [show asInt? (Value.int .i64 ((s.2.length - 1 : Nat) : Int)) = some ((s.2.length - 1 : Nat) : Int) from rfl]
   dsimp only
   rw [if_pos ⟨by omega, by omega, by omega, by omega⟩, if_neg (by omega), if_pos trivial]
   simp only [Int.toNat_natCast, Int.toNat_zero, Nat.sub_zero, Nat.zero_mul, Nat.add_zero, hdl]
  ·refine List.IsPrefix.trans ?_ h4
   conv => rhs; rw [e2]
   unfold tdC
   rw [List.map_append]
   exact List.prefix_append _ _
  ·unfold muF at hm ⊢
   simp only at hm ⊢
   omega
def FolQ (H : AH) (T : List TermD) (ks : List (List Int)) (v' : Value) (H' : AH) : Prop :=
 ∃ kx kb, v' = .func (.func 37) #[] #[.pointer (some ⟨kx, 0, none⟩)] ∧ Low H.length H H' ∧ hget H' kx = some ⟨[.slice (some ⟨kb, 0, none⟩) T.length T.length], 75, none⟩ ∧ hget H' kb = some ⟨bsC (folL T ks), 4, some 1⟩ ∧ H.length ≤ kx ∧ H.length ≤ kb
attribute [local simp] wb_bool wb_undef with_lit XL_nil XL_cons XLc_val XLc_call step1_eq stepW_t stepW_f stepC_n stepC_s stepX_s stepX_n stepN_s calleeX xrecv oneV xop_eq xopR_s xopR_n wantedA_eq wantedG_n wantedG_s plain1_int plain1_bool plain1_string bits_i64 bits_u64 bits_u32 bits_u16 bits_u8 xeqA xagg xcmp xarr allK_iv num_iv calleeOf xread xeff xbin xint xnil xun xstr xload xconv xpart xfield xfieldAddr xindexAddr xindex bnd asInt? xslice xlen xmin xmax xbuild xfill xappend xapp2 xappstr xappmk xcap xcopy xcells eval_tmp eval_const put_at put_none fr0_at cells_agg cells_int cells_bool cells_string cells_ptr cells_slice notTuple tab iv_all hget_app hget_app0 hget_cons0 hget_cons set_app set_app0 setR setR_one QL_nil QL_cons QLc_val stepQ_t stepQ_f stepQC_n stepQC_s stepQX_s SL_nil SL_cons SLc_val stepS_t stepS_f ltT ltF leT leF eqT eqF ltTn ltFn leTn leFn eqTn eqFn beqT beqF bneT bneF wi64 wu64 wu32 wu16 wu8 tmodP tdivP hgetL hgetNe hgetEq setL nums_def nums_len Nat.succ_le_of_lt List.getElem?_cons_zero List.getElem?_cons_succ Option.getD_some Int.toNat_add Int.toNat_mul agM okM agB agI agS agP agL agA okB okI okS okP okSl okA
theorem fol1_rc {γ : Nat → Option Nat} {H : AH} {kx kb n : Nat} {kn : List Bool} (hx : hget H kx = some ⟨[.slice (some ⟨kb, 0, none⟩) n n], 75, none⟩) (hg : hget H kb = some ⟨bsC kn, 4, some 1⟩) (hl : kn.length = n) (hn : n ≤ 1000000) {k : List Int} (hk : k.length = 32) (hb : By k) :
  AC Tryd.prog H.length γ 37 #[.agg (iv .u8 k).toArray, .pointer (some ⟨kx, 0, none⟩)] H (fun v' _ => v' = .bool (fol kn k)) := by
 have htk : (iv .u8 k).take 32 = iv .u8 k := List.take_of_length_le (by simp [hk])
 have lx := hget_lt hx
 have lg := hget_lt hg
 have hc := fun (N : AH) => follows_rc (γ := γ) (H := H ++ N) ((hget_left lg).trans hg) hl hn hk hb
 refine ac_of_aw Tryd.func37 rfl Tryd.ntmps37 Tryd.results37 (by simp) ?_
 refine aw_seq ?_
 (refine aw_ops (by kernel_rfl) (fun K hK => ?_); simp (disch := first | omega | (simp only [lnS]; try omega)) [-getElem?_pos, -getElem?_neg, htk]; refine hK _ _ ?_; clear hK K)
 refine aw_seq ?_
 refine aw_ops (by kernel_rfl) (fun K hK => ?_)
 simp (disch := first | omega | (simp only [lnS]; try omega)) [-getElem?_pos, -getElem?_neg, hx, lx, htk, nt_slG]
 refine ⟨by kernel_rfl, ac_of_rc (hc _) (by simp [pv_iv, pv_int, pv_bool, pv_string, pv_tup2, pv_tup3, iv_plain, p2_int, p2_bool, p2_string]) ?_⟩
 try simp (disch := first | omega | (simp only [lnS]; try omega)) [-getElem?_pos, -getElem?_neg]
 refine hK _ _ ?_; clear hK K
 (refine aw_ret ?_; simp (disch := first | omega | (simp only [lnS]; try omega)) [-getElem?_pos, -getElem?_neg, thenQ_ret, scopeQ_ret, inBlockQ_ret, RQ, resL, resV])
theorem follow_ac {nro : Nat} {γ : Nat → Option Nat} {H : AH} (hp : Pw γ H) {b : Nat} {F : List Nat} {T : List TermD} (h : Tbl H b F T) (hnH : nro ≤ H.length) (hW : TWf T) {v : Value} {ks : List (List Int)} (hK : KsV H v ks) (hk : ∀ k ∈ ks, k.length = 32) (hkb : ∀ k ∈ ks, By k) (hkm : ks.length ≤ 1000000) :
  AC Tryd.prog nro γ 11 #[.pointer (some ⟨b, 0, none⟩), v] H (FolQ H T ks) := by
 have hbeg := begin_ac (nro := nro) hp h hnH hW.len
 have hacc := hK.acc hk
 have hnt := hacc.nt
 have hcs := hacc.cs
 refine ac_of_aw Tryd.func11 rfl Tryd.ntmps11 Tryd.results11 (by simp) ?_
 refine aw_seq ?_
 (refine aw_ops (by kernel_rfl) (fun K hK => ?_); simp (disch := first | omega | (simp only [lnS]; try omega)) [-getElem?_pos, -getElem?_neg]; refine hK _ _ ?_; clear hK K)
 refine aw_seq ?_
 refine aw_ops (by kernel_rfl) (fun K hK => ?_)
 simp (disch := first | omega | (simp only [lnS]; try omega)) [-getElem?_pos, -getElem?_neg]
 refine ⟨by kernel_rfl, AC.mono hbeg ?_⟩
 rintro v1 G0 ⟨c, F0, hcT, rfl, lw0, hS0, hF0⟩
 have hn : c.L.length = T.length := by rw [← hcT]; simp [SrC.T]
 have hTm := hW.len
 try simp (disch := first | omega | (simp only [lnS]; try omega)) [-getElem?_pos, -getElem?_neg]
 refine hK _ _ ?_; clear hK K
 have hq0 : SRQ γ nro G0 c F0 (List.replicate T.length false, []) (.tuple #[]) G0 := hS0.same (Low.refl (Nat.le_refl _))
 have hlow : ∀ (t : FSt) (G : AH), SRQ γ nro G0 c F0 t (.tuple #[]) G → Low H.length H G := fun t G q => ⟨fun j hj => (q.2.2.1 j (by have := lw0.2; omega) (fun e => by have := hF0 j e; omega)).trans (lw0.1 j hj), by have := lw0.2; have := q.2.1; omega⟩
 refine aw_seq ?_
 refine aw_seq ?_
 (refine aw_ops (by kernel_rfl) (fun K hK => ?_); simp (disch := first | omega | (simp only [lnS]; try omega)) [-getElem?_pos, -getElem?_neg, -notTuple, hnt, -xlen, hacc.len, nt_intG]; refine hK _ _ ?_; clear hK K)
 refine aw_block ?_
 refine aw_loop (fun q α G => ∃ j : Nat, j + q = ks.length ∧ α 5 = .pointer (some ⟨c.sb, 0, none⟩) ∧ α 13 = v ∧ α 14 = .int .i64 (ks.length : Nat) ∧ α 15 = .int .i64 (j : Nat) ∧ SRQ γ nro G0 c F0 ((ks.take j).foldl lrn (List.replicate T.length false, [])) (.tuple #[]) G) ks.length ?_ ?_
 ·exact ⟨0, by omega, by (first | (simp [put_at, put_none, fr0_at]; done) | rfl), by (first | (simp [put_at, put_none, fr0_at]; done) | rfl), by (first | (simp [put_at, put_none, fr0_at]; done) | rfl), by (first | (simp [put_at, put_none, fr0_at]; done) | rfl), hq0⟩
 rintro q α G ⟨j, hjq, h5, h13, h14, h15, hq⟩
 refine aw_seq ?_
 by_cases hj : j < ks.length
 ·have lwG := hlow _ _ hq
  obtain ⟨_, hGl, hGk, F1, hS, hF1⟩ := hq
  obtain ⟨q1, y, r1, r2, r3', r4, r5⟩ := hacc.at_ j hj
  have r5 := r5 G lwG
  subst r4
  have hfd := fold_take (f := lrn) (b := (List.replicate T.length false, ([] : List Nat))) (d := []) hj
  obtain ⟨k32, kby⟩ : (ks.getD j []).length = 32 ∧ By (ks.getD j []) := by
   rw [List.getD_eq_getElem?_getD, List.getElem?_eq_getElem hj]
   exact ⟨hk _ (List.getElem_mem hj), hkb _ (List.getElem_mem hj)⟩
  generalize ks.getD j [] = z at *
  have htz : (iv .u8 z).take 32 = iv .u8 z := List.take_of_length_le (by simp [k32])
  have hsz : setR (iv .u8 (zl 32)) 0 (iv .u8 z) = iv .u8 z := setR_all _ _ (by simp [k32])
  have hng : nro ≤ G.length := by have := lwG.2; omega
  (refine aw_ops (by kernel_rfl) (fun K hK => ?_); simp (disch := first | omega | (simp only [lnS]; try omega)) [-getElem?_pos, -getElem?_neg, h14, h15, hj]; refine hK _ _ ?_; clear hK K)
  refine aw_seq ?_
  refine aw_t (by (first | (simp [eval_tmp, put_at, hj]; done) | (simp [eval_tmp, put_at, hj]; omega))) (by kernel_rfl) ?_
  refine aw_skip ?_
  refine aw_seq ?_
  refine aw_block ?_
  refine aw_seq ?_
  (refine aw_ops (by kernel_rfl) (fun K hK => ?_); simp (disch := first | omega | (simp only [lnS]; try omega)) [-getElem?_pos, -getElem?_neg, h13, h15, -xindexAddr, r1, r2, -xload, r5, -notTuple, hnt, nt_aggG, htz, hsz, k32, hng]; refine hK _ _ ?_; clear hK K)
  have hz := learnS_ac (hS.push [some ⟨iv .u8 z, 28, none⟩]) k32 kby
  refine aw_ops (by kernel_rfl) (fun K hK => ?_)
  simp (disch := first | omega | (simp only [lnS]; try omega)) [-getElem?_pos, -getElem?_neg, h5, htz, k32]
  refine ⟨by kernel_rfl, AC.mono hz ?_⟩
  intro v' A q2
  obtain rfl := q2.1
  try simp (disch := first | omega | (simp only [lnS]; try omega)) [-getElem?_pos, -getElem?_neg]
  refine hK _ _ ?_; clear hK K
  (refine aw_ops (by kernel_rfl) (fun K hK => ?_); simp (disch := first | omega | (simp only [lnS]; try omega)) [-getElem?_pos, -getElem?_neg, h15]; refine hK _ _ ?_; clear hK K)
  refine ⟨q - 1, by omega, j + 1, by omega, by (first | (simp [put_at, put_none, fr0_at, h5]; done) | rfl), by (first | (simp [put_at, put_none, fr0_at, h13]; done) | rfl), by (first | (simp [put_at, put_none, fr0_at, h14]; done) | rfl), by (first | (simp [put_at, put_none, fr0_at]; done) | rfl), ?_⟩
  rw [hfd]
  exact (q2.up ⟨fun j hj => hget_left hj, by simp⟩ hS.bound).then_ hGl hGk hF1
 (refine aw_ops (by kernel_rfl) (fun K hK => ?_); simp (disch := first | omega | (simp only [lnS]; try omega)) [-getElem?_pos, -getElem?_neg, h14, h15, hj]; refine hK _ _ ?_; clear hK K)
 refine aw_seq ?_
 refine aw_f (by (first | (simp [eval_tmp, put_at, hj]; done) | (simp [eval_tmp, put_at, hj]; omega))) (by kernel_rfl) ?_
 refine aw_exit ?_
 obtain rfl : j = ks.length := by omega
 rw [List.take_length] at hq
 have hseed : ks.foldl lrn (List.replicate T.length false, []) = seedS T.length ks := rfl
 rw [hseed] at hq
 clear h13 h14 h15
 have hq1 := hq
 have hseedw : ∀ t : FSt, FExt (seedS T.length ks) t → ∀ p ∈ t.2, p < T.length := fun t ht => by
  have hx : FExt (List.replicate T.length false, []) t := FExt.trans (foldl_ext lrn_ext ks _) ht
  obtain ⟨M, e1, _, e3⟩ := hx.new
  intro p hp
  rw [e1] at hp
  simpa using (e3 p (by simpa using hp)).2
 obtain ⟨tdv1, s1b, s1n, _, _, _, hnt2, hcs2⟩ := hq1.2.2.2.elim fun F1 h => h.1.blocks
 have hxl := hS0.st.tb.tvlen.1
 have l1b := hget_lt s1b
 refine aw_seq ?_
 refine aw_seq ?_
 (refine aw_ops (by kernel_rfl) (fun K hK => ?_); simp (disch := first | omega | (simp only [lnS]; try omega)) [-getElem?_pos, -getElem?_neg, h5, s1b, l1b, -notTuple, hnt2, s1n, -xlen, hxl, nt_mapG, nt_slG, nt_intG]; refine hK _ _ ?_; clear hK K)
 refine aw_block ?_
 refine aw_loop (fun q α G => ∃ j : Nat, j + q = c.L.length ∧ α 5 = .pointer (some ⟨c.sb, 0, none⟩) ∧ α 27 = .int .i64 (c.L.length : Nat) ∧ α 28 = .int .i64 (j : Nat) ∧ SRQ γ nro G0 c F0 (((List.range c.L.length).take j).foldl (tryS c.T) (seedS T.length ks)) (.tuple #[]) G) c.L.length ?_ ?_
 ·exact ⟨0, by omega, by (first | (simp [put_at, put_none, fr0_at, h5]; done) | rfl), by (first | (simp [put_at, put_none, fr0_at]; done) | rfl), by (first | (simp [put_at, put_none, fr0_at]; done) | rfl), hq⟩
 clear h5 s1b l1b
 rintro q α G ⟨j, hjq, h5, h27, h28, hq⟩
 refine aw_seq ?_
 by_cases hj : j < c.L.length
 ·obtain ⟨_, hGl, hGk, F1, hS, hF1⟩ := hq
  have hfd := fold_take (f := tryS c.T) (b := seedS T.length ks) (d := 0) (l := List.range c.L.length) (i := j) (by simpa using hj)
  have hgd : (List.range c.L.length).getD j 0 = j := by
   rw [List.getD_eq_getElem?_getD, List.getElem?_range hj]; rfl
  rw [hgd] at hfd
  (refine aw_ops (by kernel_rfl) (fun K hK => ?_); simp (disch := first | omega | (simp only [lnS]; try omega)) [-getElem?_pos, -getElem?_neg, h27, h28, hj]; refine hK _ _ ?_; clear hK K)
  refine aw_seq ?_
  refine aw_t (by (first | (simp [eval_tmp, put_at, hj]; done) | (simp [eval_tmp, put_at, hj]; omega))) (by kernel_rfl) ?_
  refine aw_skip ?_
  refine aw_seq ?_
  refine aw_block ?_
  refine aw_seq ?_
  (refine aw_ops (by kernel_rfl) (fun K hK => ?_); simp (disch := first | omega | (simp only [lnS]; try omega)) [-getElem?_pos, -getElem?_neg, h28]; refine hK _ _ ?_; clear hK K)
  refine aw_ops (by kernel_rfl) (fun K hK => ?_)
  simp (disch := first | omega | (simp only [lnS]; try omega)) [-getElem?_pos, -getElem?_neg, h5]
  refine ⟨by kernel_rfl, AC.mono (try_ac hS hj) ?_⟩
  intro v' A q2
  obtain rfl := q2.1
  try simp (disch := first | omega | (simp only [lnS]; try omega)) [-getElem?_pos, -getElem?_neg]
  refine hK _ _ ?_; clear hK K
  (refine aw_ops (by kernel_rfl) (fun K hK => ?_); simp (disch := first | omega | (simp only [lnS]; try omega)) [-getElem?_pos, -getElem?_neg, h28]; refine hK _ _ ?_; clear hK K)
  refine ⟨q - 1, by omega, j + 1, by omega, by (first | (simp [put_at, put_none, fr0_at, h5]; done) | rfl), by (first | (simp [put_at, put_none, fr0_at, h27]; done) | rfl), by (first | (simp [put_at, put_none, fr0_at]; done) | rfl), ?_⟩
  rw [hfd]
  exact q2.then_ hGl hGk hF1
 (refine aw_ops (by kernel_rfl) (fun K hK => ?_); simp (disch := first | omega | (simp only [lnS]; try omega)) [-getElem?_pos, -getElem?_neg, h27, h28, hj]; refine hK _ _ ?_; clear hK K)
 refine aw_seq ?_
 refine aw_f (by (first | (simp [eval_tmp, put_at, hj]; done) | (simp [eval_tmp, put_at, hj]; omega))) (by kernel_rfl) ?_
 refine aw_exit ?_
 obtain rfl : j = c.L.length := by omega
 rw [List.take_of_length_le (by simp), hn, hcT] at hq
 have hpass : (List.range T.length).foldl (tryS T) (seedS T.length ks) = passS T ks := rfl
 rw [hpass] at hq
 obtain ⟨hip, hmp⟩ := inv_pass hW ks
 have hwp : ∀ p ∈ (passS T ks).2, p < T.length := hseedw _ (foldl_ext (tryS_ext T) _ _)
 refine aw_seq ?_
 refine aw_block ?_
 refine aw_loop (fun q α G => ∃ t : FSt, α 5 = .pointer (some ⟨c.sb, 0, none⟩) ∧ SRQ γ nro G0 c F0 t (.tuple #[]) G ∧ runS T q t = runS T T.length (passS T ks) ∧ muF t ≤ q ∧ ∀ p ∈ t.2, p < T.length) T.length ?_ ?_
 ·exact ⟨passS T ks, by (first | (simp [put_at, put_none, fr0_at, h5]; done) | rfl), hq, rfl, by omega, hwp⟩
 clear h5 h27 h28 hq
 rintro q α G ⟨t, h5, hq, hrun, hmu, hwt⟩
 have lwG := hlow _ _ hq
 obtain ⟨_, hGl, hGk, F1, hS, hF1⟩ := hq
 obtain ⟨tdv, Fd, hF, hsb, hkb, hsl, htd, hne, hsF, hkF, hm9⟩ := hS.dy
 have hTn := htd.nt
 have lsb := hget_lt hsb
 refine aw_seq ?_
 refine aw_seq ?_
 by_cases h0 : 0 < t.2.length
 ·obtain ⟨i, hi⟩ : ∃ i, t.2.getLast? = some i := by
   cases hg : t.2.getLast? with
   | some i => exact ⟨i, rfl⟩
   | none => rw [List.getLast?_eq_none_iff.1 hg] at h0; simp at h0
  obtain ⟨tdv', tv2, q1, b1, b2, b3, _, b4, b5, b6, b7, b8, b9, b10⟩ := hS.pop hi
  have e0 : tdv' = tdv := by
   rw [hsb] at b1
   simp at b1
   exact b1.symm
  subst e0
  have hin : i < T.length := hwt i (by rw [last_split hi]; simp)
  obtain ⟨q', rfl⟩ : ∃ q', q = q' + 1 := ⟨q - 1, by unfold muF at hmu; omega⟩
  have hrun2 : runS T (q' + 1) t = runS T q' (useS T (t.1, t.2.dropLast) i) := by
   conv => lhs; unfold runS
   rw [hi]
  have hlen1 : t.2.length = t.2.dropLast.length + 1 := by
   have := congrArg List.length (last_split hi)
   simpa using this
  have hsub : ((t.2.length : Int) - 1) = ((t.2.length - 1 : Nat) : Int) := by omega
  have hmt : t.2.length ≤ 1000000 := by unfold muF at hm9; omega
  have ld4 : xload Tryd.prog 29 (.pointer (some ⟨c.sb, 4, none⟩)) G = some tdv' := by simp [xload, hsb]
  have hi0 : (0 : Int) < (t.2.length : Int) := by omega
  have hwx : ∀ p ∈ (useS T (t.1, t.2.dropLast) i).2, p < T.length := by
   obtain ⟨M, e1, _, e3⟩ := (useS_ext T (t.1, t.2.dropLast) i).new
   intro p hp
   rw [e1] at hp
   rcases List.mem_append.1 hp with hp | hp
   ·exact hwt p ((List.dropLast_sublist _).subset hp)
   ·have := (e3 p hp).2
    simp only at this
    omega
  have hmx : muF (useS T (t.1, t.2.dropLast) i) ≤ q' := by
   rw [(useS_ext T _ i).mu]
   unfold muF at hmu ⊢
   simp only
   omega
  have hsn : nro ≤ c.sb := hS.nr _ (by rw [hF]; simp)
  generalize hNn : t.2.length = N at *
  generalize N - 1 = N1 at *
  (refine aw_ops (by kernel_rfl) (fun K hK => ?_); simp (disch := first | omega | (simp only [lnS]; try omega)) [-getElem?_pos, -getElem?_neg, h5, hsb, lsb, -notTuple, hnt2, hTn.1, -xlen, hTn.2.2.2, nt_mapG, nt_slG, nt_intG, h0, hi0]; refine hK _ _ ?_; clear hK K)
  refine aw_t (by (first | (simp [eval_tmp, put_at, h0]; done) | (simp [eval_tmp, put_at, h0]; omega))) (by kernel_rfl) ?_
  refine aw_skip ?_
  refine aw_block ?_
  refine aw_seq ?_
  (refine aw_plan [] [] [0, 1, 2, 3, 4, 5, 6, 7, 8, 9, 10, 11, 12] 13 0 (by kernel_rfl) (by kernel_rfl) (by kernel_rfl) (fun K hK => ?_)); simp only [sel, List.getElem?_cons_succ, List.getElem?_cons_zero, List.drop_succ_cons, List.drop_zero]; simp (disch := first | omega | (simp only [lnS]; try omega)) [-getElem?_pos, -getElem?_neg, h5, -xload, ld4, b6, -xlen, b3, -xindexAddr, b4, b5, b2, hsub, -notTuple, nt_intG, PL_nil, plainB_lit, PL_cons, PLc_val, PLc_new, stepP_t, stepP_f, stepPC_n, stepPC_s, stepPX_s, stepPX_n, stepPV_n, stepPV_s, stepPA_t, stepPA_c, stepPA_l, stepPN_s, allocOp, reloc_sl, reloc_ptr, List.map_cons, List.map_nil, List.nil_append, List.append_assoc, List.cons_append, Nat.add_assoc]
  refine hK _ _ ?_; clear hK K
  refine aw_seq ?_
  (refine aw_plan [] [] [0, 1, 2, 3, 4, 5, 6, 7, 8, 9, 10, 11, 12, 13] 14 1 (by kernel_rfl) (by kernel_rfl) (by kernel_rfl) (fun K hK => ?_)); simp only [sel, List.getElem?_cons_succ, List.getElem?_cons_zero, List.drop_succ_cons, List.drop_zero]; simp (disch := first | omega | (simp only [lnS]; try omega)) [-getElem?_pos, -getElem?_neg, h5, -xload, ld4, -xlen, b3, -xslice, b7, b8, b9, hsb, lsb, hsub, b2, hsn, -notTuple, hnt2, nt_intG, nt_mapG, nt_slG, PL_nil, plainB_lit, PL_cons, PLc_val, PLc_new, stepP_t, stepP_f, stepPC_n, stepPC_s, stepPX_s, stepPX_n, stepPV_n, stepPV_s, stepPA_t, stepPA_c, stepPA_l, stepPN_s, allocOp, reloc_sl, reloc_ptr, List.map_cons, List.map_nil, List.nil_append, List.append_assoc, List.cons_append, Nat.add_assoc]
  refine hK _ _ ?_; clear hK K
  obtain ⟨_, hDl, hDk, F2, hS2, hF2⟩ := b10
  have huse := use_ac hS2 (i := i) (by omega)
  rw [hcT] at huse
  generalize G.set c.sb (some ⟨[c.tv, .map (some c.mb), .map (some c.ub), .slice (some ⟨c.kb, 0, none⟩) c.L.length c.L.length, tv2], 77, none⟩) = D at *
  refine aw_ops (by kernel_rfl) (fun K hK => ?_)
  simp (disch := first | omega | (simp only [lnS]; try omega)) [-getElem?_pos, -getElem?_neg, h5]
  refine ⟨by kernel_rfl, AC.mono huse ?_⟩
  intro v' A q2
  obtain rfl := q2.1
  try simp (disch := first | omega | (simp only [lnS]; try omega)) [-getElem?_pos, -getElem?_neg]
  refine hK _ _ ?_; clear hK K
  exact ⟨q', by omega, _, by (first | (simp [put_at, put_none, fr0_at, h5]; done) | rfl), (q2.then_ hDl hDk hF2).then_ hGl hGk hF1, hrun2.symm.trans hrun, hmx, hwx⟩
 ·have ht0 : t.2 = [] := List.eq_nil_of_length_eq_zero (by omega)
  have hfin : t.1 = folL T ks := by
   have : runS T q t = t := by
    cases q with
    | zero => rfl
    | succ q => unfold runS; rw [ht0]; rfl
   rw [this] at hrun
   unfold folL
   rw [hrun]
  have hi0 : ¬ ((0 : Int) < (t.2.length : Int)) := by omega
  (refine aw_ops (by kernel_rfl) (fun K hK => ?_); simp (disch := first | omega | (simp only [lnS]; try omega)) [-getElem?_pos, -getElem?_neg, h5, hsb, lsb, -notTuple, hnt2, hTn.1, -xlen, hTn.2.2.2, nt_mapG, nt_slG, nt_intG, h0, hi0]; refine hK _ _ ?_; clear hK K)
  refine aw_f (by (first | (simp [eval_tmp, put_at, h0]; done) | (simp [eval_tmp, put_at, h0]; omega))) (by kernel_rfl) ?_
  refine aw_exit ?_
  refine aw_seq ?_
  have hng : nro ≤ G.length := by have := lwG.2; have := hnH; omega
  have p1 : plain1 (.slice none 0 0) = true := rfl
  (refine aw_ops (by kernel_rfl) (fun K hK => ?_); simp (disch := first | omega | (simp only [lnS]; try omega)) [-getElem?_pos, -getElem?_neg, h5, hsb, lsb, -notTuple, hnt2, hTn.1, nt_mapG, nt_slG, nt_intG, hng, p1]; refine hK _ _ ?_; clear hK K)
  refine aw_seq ?_
  (refine aw_ops (by kernel_rfl) (fun K hK => ?_); simp (disch := first | omega | (simp only [lnS]; try omega)) [-getElem?_pos, -getElem?_neg]; refine hK _ _ ?_; clear hK K)
  (refine aw_ret ?_; simp (disch := first | omega | (simp only [lnS]; try omega)) [-getElem?_pos, -getElem?_neg, thenQ_ret, scopeQ_ret, inBlockQ_ret, RQ, resL, resV])
  have hFb := hS.bound
  have hk2 : c.kb ∈ F1 := by rw [hF]; simp
  refine ⟨G.length, c.kb, rfl, ⟨fun j hj => (hget_left (by have := lwG.2; omega)).trans (lwG.1 j hj), by have := lwG.2; simp; omega⟩, ?_, ?_, lwG.2, ?_⟩
  ·rw [hget_app0, hn]; rfl
  ·rw [hget_left (hFb _ hk2), ← hfin]
   exact hkb
  ·rcases hF1 _ hk2 with e | e
   ·exact hF0 _ e
   ·have := lw0.2; omega
end
section
theorem TermQ.layG {H H2 G : AH} {b : Nat} {F : List Nat} {T : List TermD} {x : TermD} {v : Value} (h : TermQ H2 b F T x v G) (lw : Low H.length H H2) (hF : ∀ j ∈ F, j < H.length) {r : Nat} (hr0 : H.length ≤ r) (hr : hget H2 r = some ⟨iv .u8 (zl 32), 28, none⟩) : ∃ N : List Int, N = nmL (nameT x T) ∧ N.length = 32 ∧ (iv .u8 N).take 32 = iv .u8 N ∧ setR (iv .u8 (zl 32)) 0 (iv .u8 N) = iv .u8 N ∧ v = .agg (iv .u8 N).toArray ∧ r < G.length ∧ hget G r = some ⟨iv .u8 (zl 32), 28, none⟩ ∧ ∀ X : Option Blk, TermQ H b F T x (.agg (iv .u8 N).toArray) (G.set r X) := by
 obtain ⟨h0, h2, h3, F', h4, h5⟩ := h
 have hl := hget_lt hr
 have hn : r ∉ F := fun e => by have := hF _ e; omega
 have hg := (h3 r hl hn).trans hr
 have hle := lw.2
 refine ⟨nmL (nameT x T), rfl, rfl, rfl, ?_, h0, hget_lt hg, hg, fun X => ⟨rfl, by simp; omega, fun j hj hjn => ?_, F', h4.low (fun j hj => hget_set_ne ?_) (by simp), fun j hj => ?_⟩⟩
 ·exact setR_all _ _ (by simp [nmL_len])
 ·rw [hget_set_ne (by omega), h3 j (by omega) hjn, lw.1 j hj]
 ·rcases h5 j hj with h | h
  ·have := hF j h; omega
  ·omega
 ·rcases h5 j hj with h | h
  ·exact .inl h
  ·exact .inr (by omega)
theorem hget_at2 (G : AH) (R R2 : Option Blk) : hget (G ++ [R, R2]) (G.length + 1) = R2 := by rw [hget_app]; rfl
theorem wf_two {n : Nat} (hn : n = 4 ∨ n = 5) {k l : List Int} (hk : k.length = 32) (hb : By k) (hl : l.length = 32) (hbl : By l) : TermD.Wf ⟨n, ⟨#[]⟩, [k, l]⟩ := by
 refine ⟨(by show n ≤ 6; omega), (by show (0 : Nat) ≤ _; omega), fun y hy => ?_, fun y hy => ?_, (by show 2 ≤ 1000000; omega), fun h => ?_, fun h => rfl, fun h => ?_⟩
 ·rcases List.mem_cons.1 hy with rfl | hy
  ·exact hk
  ·rw [List.mem_singleton.1 hy]; exact hl
 ·rcases List.mem_cons.1 hy with rfl | hy
  ·exact hb
  ·rw [List.mem_singleton.1 hy]; exact hbl
 all_goals
  have h : n = _ := h
  omega
def agreeT (T : List TermD) (s p : List Int) : TermD := match findT T p with
 | some x => if x.kind = 3 then (if 0 < cmpL s (x.keys.getD 0 []) then ⟨4, ⟨#[]⟩, [x.keys.getD 0 [], s]⟩ else ⟨4, ⟨#[]⟩, [s, x.keys.getD 0 []]⟩) else ⟨5, ⟨#[]⟩, [s, p]⟩
 | none => ⟨5, ⟨#[]⟩, [s, p]⟩
def AgreeQ (H : AH) (b : Nat) (F : List Nat) (T : List TermD) (s p : List Int) (v' : Value) (H' : AH) : Prop :=
 (p = zl 32 ∧ v' = .tuple #[.agg (iv .u8 (zl 32)).toArray, .bool false] ∧ Low H.length H H') ∨ (p ≠ zl 32 ∧ ∃ v1, v' = .tuple #[v1, .bool true] ∧ TermQ H b F T (agreeT T s p) v1 H')
theorem row2 {C a b : List Value} (h : C.length = 64) (ha : a.length = 32) (hb : b.length = 32) : setR (setR C 0 a) 32 b = a ++ b := by
 have e := setR_app a b C 0
 rw [Nat.zero_add, ha] at e
 rw [← e, setR_all _ _ (by rw [List.length_append]; omega)]
attribute [local simp] wb_bool wb_undef with_lit XL_nil XL_cons XLc_val XLc_call step1_eq stepW_t stepW_f stepC_n stepC_s stepX_s stepX_n stepN_s calleeX xrecv oneV xop_eq xopR_s xopR_n wantedA_eq wantedG_n wantedG_s plain1_int plain1_bool plain1_string bits_i64 bits_u64 bits_u32 bits_u16 bits_u8 xeqA xagg xcmp xarr allK_iv num_iv calleeOf xread xeff xbin xint xnil xun xstr xload xconv xpart xfield xfieldAddr xindexAddr xindex bnd asInt? xslice xlen xmin xmax xbuild xfill xappend xapp2 xappstr xappmk xcap xcopy xcells eval_tmp eval_const put_at put_none fr0_at cells_agg cells_int cells_bool cells_string cells_ptr cells_slice notTuple tab iv_all hget_app hget_app0 hget_cons0 hget_cons set_app set_app0 setR setR_one QL_nil QL_cons QLc_val stepQ_t stepQ_f stepQC_n stepQC_s stepQX_s SL_nil SL_cons SLc_val stepS_t stepS_f ltT ltF leT leF eqT eqF ltTn ltFn leTn leFn eqTn eqFn beqT beqF bneT bneF wi64 wu64 wu32 wu16 wu8 tmodP tdivP hgetL hgetNe hgetEq setL nums_def nums_len Nat.succ_le_of_lt List.getElem?_cons_zero List.getElem?_cons_succ Option.getD_some Int.toNat_add Int.toNat_mul agM okM agB agI agS agP agL agA okB okI okS okP okSl okA
theorem agree0_ac {nro : Nat} {γ : Nat → Option Nat} {H : AH} {b : Nat} {F : List Nat} {T : List TermD} (hnH : nro ≤ H.length) {s : List Int} (hs : s.length = 32) : AC Tryd.prog nro γ 21 #[.pointer (some ⟨b, 0, none⟩), .agg (iv .u8 s).toArray, .agg (iv .u8 (zl 32)).toArray] H (AgreeQ H b F T s (zl 32)) := by
 have hts : (iv .u8 s).take 32 = iv .u8 s := List.take_of_length_le (by simp [hs])
 have hz : (List.take 32 (zl 32) == zl 32) = true := by decide
 have hz2 : setR (iv .u8 (zl 32)) 0 (iv .u8 (zl 32)) = iv .u8 (zl 32) := rfl
 refine ac_of_aw Tryd.func21 rfl Tryd.ntmps21 Tryd.results21 (by simp) ?_
 refine aw_seq ?_
 (refine aw_ops (by kernel_rfl) (fun K hK => ?_); simp (disch := first | omega | (simp only [lnS]; try omega)) [-getElem?_pos, -getElem?_neg, hts]; refine hK _ _ ?_; clear hK K)
 refine aw_seq ?_
 refine aw_seq ?_
 (refine aw_ops (by kernel_rfl) (fun K hK => ?_); simp (disch := first | omega | (simp only [lnS]; try omega)) [-getElem?_pos, -getElem?_neg, hz]; refine hK _ _ ?_; clear hK K)
 refine aw_t (by (first | (simp [eval_tmp, put_at]; done) | (simp [eval_tmp, put_at]; omega))) (by kernel_rfl) ?_
 refine aw_seq ?_
 (refine aw_ops (by kernel_rfl) (fun K hK => ?_); simp (disch := first | omega | (simp only [lnS]; try omega)) [-getElem?_pos, -getElem?_neg, hz2]; refine hK _ _ ?_; clear hK K)
 (refine aw_ret ?_; simp (disch := first | omega | (simp only [lnS]; try omega)) [-getElem?_pos, -getElem?_neg, thenQ_ret, scopeQ_ret, inBlockQ_ret, RQ, resL, resV])
 exact .inl ⟨rfl, rfl, Low.push (Nat.le_refl _) _⟩
theorem agreeN_ac {nro : Nat} {γ : Nat → Option Nat} {H : AH} (hpw : Pw γ H) {b : Nat} {F : List Nat} {T : List TermD} (h : Tbl H b F T) (hnro : ∀ j ∈ F, nro ≤ j) (hnH : nro ≤ H.length) {s p : List Int} (hs : s.length = 32) (hbs : By s) (hp : p.length = 32) (hbp : By p) (hp0 : p ≠ zl 32) (hT : T.length ≤ 1000000)
  (hk : ∀ x, findT T p = some x → x.kind ≠ 3) :
  AC Tryd.prog nro γ 21 #[.pointer (some ⟨b, 0, none⟩), .agg (iv .u8 s).toArray, .agg (iv .u8 p).toArray] H (AgreeQ H b F T s p) := by
 have hag : agreeT T s p = ⟨5, ⟨#[]⟩, [s, p]⟩ := by
  unfold agreeT
  cases hf : findT T p with
  | none => rfl
  | some x => simp only [if_neg (hk x hf)]
 have hFl := h.bound
 have hT0 := h
 obtain ⟨mb, tv, Ft, Fk, L, rfl, hL, rfl, _⟩ := h
 have hts : (iv .u8 s).take 32 = iv .u8 s := List.take_of_length_le (by simp [hs])
 have htp : (iv .u8 p).take 32 = iv .u8 p := List.take_of_length_le (by simp [hp])
 have hpb : (p == zl 32) = false := by rw [beq_eq_false_iff_ne]; exact hp0
 have p1 : plain1 (.slice none 0 0) = true := rfl
 have r3 : List.range 3 = [0, 1, 2] := rfl
 have hf := fun (N : AH) => find_ac (nro := nro) (γ := γ) (hL.low (G := H ++ N) (fun j hj => hget_left (hFl j hj))) hp hbp
 have hcase := findV_T L p
 have hrow : setR (setR (List.map (fun j => (iv .u8 (zl 32))[j % 32]?.getD undef) (List.range 64)) 0 (iv .u8 s)) 32 (iv .u8 p) = iv .u8 s ++ iv .u8 p := row2 (by simp) (by simp [hs]) (by simp [hp])
 have hc : ∀ (G : AH) (R : Option Blk), Low H.length H G → hget G (H.length + 2) = some ⟨iv .u8 (zl 32), 28, none⟩ → hget (G ++ [R, some ⟨iv .u8 s ++ iv .u8 p, 28, some 32⟩]) (G.length + 1) = some ⟨iv .u8 s ++ iv .u8 p, 28, some 32⟩ → AC Tryd.prog nro γ 39 #[.pointer (some ⟨b, 0, none⟩), .int .i64 5, .string ⟨#[]⟩, .slice (some ⟨G.length + 1, 0, none⟩) 2 2] (G ++ [R, some ⟨iv .u8 s ++ iv .u8 p, 28, some 32⟩])
   (fun v' G3 => ∃ N : List Int, N = nmL (nameT ⟨5, ⟨#[]⟩, [s, p]⟩ (L.map (·.2))) ∧ N.length = 32 ∧ (iv .u8 N).take 32 = iv .u8 N ∧ setR (iv .u8 (zl 32)) 0 (iv .u8 N) = iv .u8 N ∧ v' = .agg (iv .u8 N).toArray ∧ H.length + 2 < G3.length ∧ hget G3 (H.length + 2) = some ⟨iv .u8 (zl 32), 28, none⟩ ∧ ∀ X : Option Blk, TermQ H b (b :: mb :: (Ft ++ Fk)) (L.map (·.2)) ⟨5, ⟨#[]⟩, [s, p]⟩ (.agg (iv .u8 N).toArray) (G3.set (H.length + 2) X)) := by
  intro G R lwG gz g2
  have lw2 : Low H.length H (G ++ [R, some ⟨iv .u8 s ++ iv .u8 p, 28, some 32⟩]) := ⟨fun j hj => (hget_left (by have := lwG.2; omega)).trans (lwG.1 j hj), by have := lwG.2; simp; omega⟩
  have gz2 := (hget_left (L := [R, some ⟨iv .u8 s ++ iv .u8 p, 28, some 32⟩]) (hget_lt gz)).trans gz
  have hlg := lwG.2
  generalize G ++ [R, some ⟨iv .u8 s ++ iv .u8 p, 28, some 32⟩] = G2 at *
  refine (term_ac (nro := nro) (γ := γ) (hpw.low lw2) (hT0.low (fun j hj => lw2.1 j (hFl j hj)) lw2.2) hnro (by have := lw2.2; omega) (wf_two (.inr rfl) hs hbs hp hbp) (v := .slice (some ⟨G.length + 1, 0, none⟩) 2 2) (fun D _ hj => keys2 hs hp ((hj _ (hget_lt g2) (fun e => by have := hFl _ e; omega)).trans g2)) hT).mono fun v' G3 hQ => ?_
  exact hQ.layG lw2 hFl (by omega) gz2
 generalize findV L p = fv at *
 rcases hcase with ⟨⟨kv, x⟩, hm, rfl, hft⟩ | ⟨rfl, hft⟩
 ·have hkn := hL.key_nt hm
  have hk3 : x.kind ≠ 3 := hk x hft
  have hk3b : ((x.kind : Int) == 3) = false := by rw [beq_eq_false_iff_ne]; omega
  have hk3i : ¬ (x.kind : Int) = 3 := by omega
  refine ac_of_aw Tryd.func21 rfl Tryd.ntmps21 Tryd.results21 (by simp) ?_
  refine aw_seq ?_
  (refine aw_ops (by kernel_rfl) (fun K hK => ?_); simp (disch := first | omega | (simp only [lnS]; try omega)) [-getElem?_pos, -getElem?_neg, hts, htp]; refine hK _ _ ?_; clear hK K)
  refine aw_seq ?_
  refine aw_seq ?_
  (refine aw_ops (by kernel_rfl) (fun K hK => ?_); simp (disch := first | omega | (simp only [lnS]; try omega)) [-getElem?_pos, -getElem?_neg, htp, hp0, hpb]; refine hK _ _ ?_; clear hK K)
  refine aw_f (by (first | (simp [eval_tmp, put_at]; done) | (simp [eval_tmp, put_at]; omega))) (by kernel_rfl) ?_
  refine aw_skip ?_
  refine aw_seq ?_
  refine aw_ops (by kernel_rfl) (fun K hK => ?_)
  simp (disch := first | omega | (simp only [lnS]; try omega)) [-getElem?_pos, -getElem?_neg, htp]
  refine ⟨by kernel_rfl, AC.mono (hf _) ?_⟩
  rintro _ G ⟨rfl, lw⟩
  have hGl := lw.2
  rw [List.length_append] at lw hGl
  have gs : hget G H.length = some ⟨iv .u8 s, 28, none⟩ := (lw.1 _ (by simp)).trans (by rw [hget_app0]; rfl)
  have gp : hget G (H.length + 1) = some ⟨iv .u8 p, 28, none⟩ := (lw.1 _ (by simp)).trans (by rw [hget_app]; rfl)
  have gz : hget G (H.length + 2) = some ⟨iv .u8 (zl 32), 28, none⟩ := (lw.1 _ (by simp)).trans (by rw [hget_app]; rfl)
  have ls := hget_lt gs
  have lp := hget_lt gp
  have lz := hget_lt gz
  have lwH : Low H.length H G := ⟨fun j hj => (lw.1 j (by omega)).trans (hget_left hj), by omega⟩
  unfold tmRow
  try simp (disch := first | omega | (simp only [lnS]; try omega)) [-getElem?_pos, -getElem?_neg, -notTuple, hkn.1, hkn.2, nt_aggG, nt_intG, p1, r3]
  refine hK _ _ ?_; clear hK K
  refine aw_seq ?_
  refine aw_seq ?_
  refine aw_ops (by kernel_rfl) (fun K hK => ?_)
  simp (disch := first | omega | (simp only [lnS]; try omega)) [-getElem?_pos, -getElem?_neg, hk3b, hk3i, nt_intG]
  refine hK _ _ ?_; clear hK K
  refine aw_t (by (first | (simp [eval_tmp, put_at]; done) | (simp [eval_tmp, put_at]; omega))) (by kernel_rfl) ?_
  refine aw_seq ?_
  refine aw_ops (by kernel_rfl) (fun K hK => ?_)
  simp (disch := first | omega | (simp only [lnS]; try omega)) [-getElem?_pos, -getElem?_neg, gs, gp, ls, lp, hts, htp, hrow]
  refine ⟨by kernel_rfl, AC.mono (hc _ _ lwH gz (hget_at2 _ _ _)) ?_⟩
  intro v' G3 hQ
  obtain ⟨N, _, lN, ht, hse, rfl, hlt, hg, hfin⟩ := hQ
  have hn2 : nro ≤ H.length + 2 := by omega
  try simp (disch := first | omega | (simp only [lnS]; try omega)) [-getElem?_pos, -getElem?_neg, hn2, lN, ht, hse, hg, hlt]
  refine hK _ _ ?_; clear hK K
  (refine aw_ret ?_; simp (disch := first | omega | (simp only [lnS]; try omega)) [-getElem?_pos, -getElem?_neg, thenQ_ret, scopeQ_ret, inBlockQ_ret, RQ, resL, resV, lN, ht, hlt])
  exact .inr ⟨hp0, _, rfl, hag ▸ hfin _⟩
 ·unfold zkey at *
  refine ac_of_aw Tryd.func21 rfl Tryd.ntmps21 Tryd.results21 (by simp) ?_
  refine aw_seq ?_
  (refine aw_ops (by kernel_rfl) (fun K hK => ?_); simp (disch := first | omega | (simp only [lnS]; try omega)) [-getElem?_pos, -getElem?_neg, hts, htp]; refine hK _ _ ?_; clear hK K)
  refine aw_seq ?_
  refine aw_seq ?_
  (refine aw_ops (by kernel_rfl) (fun K hK => ?_); simp (disch := first | omega | (simp only [lnS]; try omega)) [-getElem?_pos, -getElem?_neg, htp, hp0, hpb]; refine hK _ _ ?_; clear hK K)
  refine aw_f (by (first | (simp [eval_tmp, put_at]; done) | (simp [eval_tmp, put_at]; omega))) (by kernel_rfl) ?_
  refine aw_skip ?_
  refine aw_seq ?_
  refine aw_ops (by kernel_rfl) (fun K hK => ?_)
  simp (disch := first | omega | (simp only [lnS]; try omega)) [-getElem?_pos, -getElem?_neg, htp]
  refine ⟨by kernel_rfl, AC.mono (hf _) ?_⟩
  rintro _ G ⟨rfl, lw⟩
  have hGl := lw.2
  rw [List.length_append] at lw hGl
  have gs : hget G H.length = some ⟨iv .u8 s, 28, none⟩ := (lw.1 _ (by simp)).trans (by rw [hget_app0]; rfl)
  have gp : hget G (H.length + 1) = some ⟨iv .u8 p, 28, none⟩ := (lw.1 _ (by simp)).trans (by rw [hget_app]; rfl)
  have gz : hget G (H.length + 2) = some ⟨iv .u8 (zl 32), 28, none⟩ := (lw.1 _ (by simp)).trans (by rw [hget_app]; rfl)
  have ls := hget_lt gs
  have lp := hget_lt gp
  have lz := hget_lt gz
  have lwH : Low H.length H G := ⟨fun j hj => (lw.1 j (by omega)).trans (hget_left hj), by omega⟩
  try simp (disch := first | omega | (simp only [lnS]; try omega)) [-getElem?_pos, -getElem?_neg, nt_aggG, nt_intG, p1, r3]
  refine hK _ _ ?_; clear hK K
  refine aw_seq ?_
  refine aw_seq ?_
  refine aw_ops (by kernel_rfl) (fun K hK => ?_)
  simp (disch := first | omega | (simp only [lnS]; try omega)) [-getElem?_pos, -getElem?_neg, nt_intG]
  refine hK _ _ ?_; clear hK K
  refine aw_t (by (first | (simp [eval_tmp, put_at]; done) | (simp [eval_tmp, put_at]; omega))) (by kernel_rfl) ?_
  refine aw_seq ?_
  refine aw_ops (by kernel_rfl) (fun K hK => ?_)
  simp (disch := first | omega | (simp only [lnS]; try omega)) [-getElem?_pos, -getElem?_neg, gs, gp, ls, lp, hts, htp, hrow]
  refine ⟨by kernel_rfl, AC.mono (hc _ _ lwH gz (hget_at2 _ _ _)) ?_⟩
  intro v' G3 hQ
  obtain ⟨N, _, lN, ht, hse, rfl, hlt, hg, hfin⟩ := hQ
  have hn2 : nro ≤ H.length + 2 := by omega
  try simp (disch := first | omega | (simp only [lnS]; try omega)) [-getElem?_pos, -getElem?_neg, hn2, lN, ht, hse, hg, hlt]
  refine hK _ _ ?_; clear hK K
  (refine aw_ret ?_; simp (disch := first | omega | (simp only [lnS]; try omega)) [-getElem?_pos, -getElem?_neg, thenQ_ret, scopeQ_ret, inBlockQ_ret, RQ, resL, resV, lN, ht, hlt])
  exact .inr ⟨hp0, _, rfl, hag ▸ hfin _⟩
end
section
theorem TermQ.down {H H2 G A : AH} {b : Nat} {F : List Nat} {T : List TermD} {x : TermD} {v v2 : Value} (h : TermQ H2 b F T x v G) (lw : Low H.length H H2) (hF : ∀ j ∈ F, j < H.length) (hv : v2 = v) (hA : G.length ≤ A.length) (hk : ∀ j, j < G.length → hget A j = hget G j) : TermQ H b F T x v2 A := by
 subst hv
 obtain ⟨h0, h2, h3, F', h4, h5⟩ := h
 have hle := lw.2
 refine ⟨h0, by omega, fun j hj hn => (hk j (by omega)).trans ((h3 j (by omega) hn).trans (lw.1 j hj)), F', h4.low (fun j hj => hk j (h4.bound j hj)) hA, fun j hj => ?_⟩
 rcases h5 j hj with h | h
 ·exact .inl h
 ·exact .inr (by omega)
def SealQ (H : AH) (b : Nat) (F : List Nat) (T : List TermD) (x : TermD) (v' : Value) (H' : AH) : Prop :=
 v' = .string (strOfNums (nmL (nameT x T))) ∧ TermQ H b F T x (.agg (iv .u8 (nmL (nameT x T))).toArray) H'
theorem wf_seal {s : ByteArray} (hs : s.size ≤ 100000000) {k y : List Int} {ks : List (List Int)} (hk : k.length = 32) (hbk : By k) (hy : y.length = 32) (hby : By y) (hks : ∀ z ∈ ks, z.length = 32 ∧ By z) (hm : ks.length ≤ 999998) : TermD.Wf ⟨6, s, k :: y :: ks⟩ := by
 refine ⟨(by show 6 ≤ 6; omega), hs, fun z hz => ?_, fun z hz => ?_, (by show ks.length + 2 ≤ 1000000; omega), fun h => (by cases h), fun h => (by cases h), fun _ => (by show 2 ≤ ks.length + 2; omega)⟩
 ·simp only [List.mem_cons] at hz
  rcases hz with rfl | rfl | hz
  ·exact hk
  ·exact hy
  ·exact (hks z hz).1
 ·simp only [List.mem_cons] at hz
  rcases hz with rfl | rfl | hz
  ·exact hbk
  ·exact hby
  ·exact (hks z hz).2
attribute [local simp] wb_bool wb_undef with_lit XL_nil XL_cons XLc_val XLc_call step1_eq stepW_t stepW_f stepC_n stepC_s stepX_s stepX_n stepN_s calleeX xrecv oneV xop_eq xopR_s xopR_n wantedA_eq wantedG_n wantedG_s plain1_int plain1_bool plain1_string bits_i64 bits_u64 bits_u32 bits_u16 bits_u8 xeqA xagg xcmp xarr allK_iv num_iv calleeOf xread xeff xbin xint xnil xun xstr xload xconv xpart xfield xfieldAddr xindexAddr xindex bnd asInt? xslice xlen xmin xmax xbuild xfill xappend xapp2 xappstr xappmk xcap xcopy xcells eval_tmp eval_const put_at put_none fr0_at cells_agg cells_int cells_bool cells_string cells_ptr cells_slice notTuple tab iv_all hget_app hget_app0 hget_cons0 hget_cons set_app set_app0 setR setR_one QL_nil QL_cons QLc_val stepQ_t stepQ_f stepQC_n stepQC_s stepQX_s SL_nil SL_cons SLc_val stepS_t stepS_f ltT ltF leT leF eqT eqF ltTn ltFn leTn leFn eqTn eqFn beqT beqF bneT bneF wi64 wu64 wu32 wu16 wu8 tmodP tdivP hgetL hgetNe hgetEq setL nums_def nums_len Nat.succ_le_of_lt List.getElem?_cons_zero List.getElem?_cons_succ Option.getD_some Int.toNat_add Int.toNat_mul agM okM agB agI agS agP agL agA okB okI okS okP okSl okA
theorem seal_ac {nro : Nat} {γ : Nat → Option Nat} {H : AH} (hpw : Pw γ H) {b : Nat} {F : List Nat} {T : List TermD} (h : Tbl H b F T) (hnro : ∀ j ∈ F, nro ≤ j) (hnH : nro ≤ H.length) {k y : List Int} (hk : k.length = 32) (hy : y.length = 32) {s : ByteArray} {ks : List (List Int)} (hx : TermD.Wf ⟨6, s, k :: y :: ks⟩) {v : Value} (hK : KsV H v ks) (hT : T.length ≤ 1000000) :
  AC Tryd.prog nro γ 18 #[.pointer (some ⟨b, 0, none⟩), .agg (iv .u8 k).toArray, .agg (iv .u8 y).toArray, .string s, v] H (SealQ H b F T ⟨6, s, k :: y :: ks⟩) := by
 unfold SealQ
 have hFl := h.bound
 have hv := val_nt hK
 have k32 : K32 ks := fun z hz => hx.k32 z (by simp [hz])
 have hkm : ks.length ≤ 1000000 := by have := hx.many; simp at this; omega
 have htk : (iv .u8 k).take 32 = iv .u8 k := List.take_of_length_le (by simp [hk])
 have hty : (iv .u8 y).take 32 = iv .u8 y := List.take_of_length_le (by simp [hy])
 have hrow : setR (setR (List.map (fun j => (iv .u8 (zl 32))[j % 32]?.getD undef) (List.range 64)) 0 (iv .u8 k)) 32 (iv .u8 y) = iv .u8 k ++ iv .u8 y := row2 (by simp) (by simp [hk]) (by simp [hy])
 obtain ⟨N4, hN4⟩ : ∃ N4 : AH, N4 = [some ⟨iv .u8 k, 28, none⟩, some ⟨iv .u8 y, 28, none⟩, some ⟨iv .u8 k ++ iv .u8 y, 28, some 32⟩, some ⟨[.slice (some ⟨H.length + 2, 0, none⟩) 2 2, v], 33, some 1⟩] := ⟨_, rfl⟩
 have g2 : hget (H ++ N4) (H.length + 2) = some ⟨iv .u8 k ++ iv .u8 y, 28, some 32⟩ := by rw [hget_app, hN4]; rfl
 have g3 : hget (H ++ N4) (H.length + 3) = some ⟨[.slice (some ⟨H.length + 2, 0, none⟩) 2 2, v], 33, some 1⟩ := by rw [hget_app, hN4]; rfl
 have hlN : (H ++ N4).length = H.length + 4 := by rw [hN4]; simp
 have hcc := concatK_ac (nro := nro) (γ := γ) (H := H ++ N4) (v := undef) (j := H.length + 3) (xs := [.slice (some ⟨H.length + 2, 0, none⟩) 2 2, v]) (L := [[k, y], ks]) (fun l hl => by
   simp only [List.mem_cons, List.not_mem_nil, or_false] at hl
   rcases hl with rfl | rfl
   ·intro z hz
    simp only [List.mem_cons, List.not_mem_nil, or_false] at hz
    rcases hz with rfl | rfl
    ·exact hk
    ·exact hy
   ·exact k32) g3 rfl (fun i x c hx1 hc1 => by
   match i, hx1, hc1 with
   | 0, hx1, hc1 =>
    cases hx1
    cases hc1
    exact (keys2 hk hy g2).part (fun z hz => by
     simp only [List.mem_cons, List.not_mem_nil, or_false] at hz
     rcases hz with rfl | rfl
     ·exact hk
     ·exact hy)
   | 1, hx1, hc1 =>
    cases hx1
    cases hc1
    have hK2 : KsV (H ++ N4) v ks := CD.Val.low (fun j hj => hget_left hj) hK
    exact hK2.part k32
   | i + 2, hx1, hc1 => simp at hx1) (by simp [sumK]; omega) (by simp) (by omega)
 have hfl : [[k, y], ks].flatten = k :: y :: ks := by simp
 rw [hfl] at hcc
 rw [hN4] at hcc
 have r2 : List.range 2 = [0, 1] := rfl
 have p1 : plain1 (.slice none 0 0) = true := rfl
 refine ac_of_aw Tryd.func18 rfl Tryd.ntmps18 Tryd.results18 (by simp) ?_
 refine aw_seq ?_
 (refine aw_ops (by kernel_rfl) (fun K hK => ?_); simp (disch := first | omega | (simp only [lnS]; try omega)) [-getElem?_pos, -getElem?_neg, htk, hty]; refine hK _ _ ?_; clear hK K)
 refine aw_seq ?_
 refine aw_ops (by kernel_rfl) (fun K hK => ?_)
 simp (disch := first | omega | (simp only [lnS]; try omega)) [-getElem?_pos, -getElem?_neg, htk, hty, hrow, r2, p1, -notTuple, hv.1, hv.2, nt_aggG, nt_slG]
 refine ⟨by kernel_rfl, AC.mono hcc ?_⟩
 rintro v1 G ⟨ho, hlG, hkG⟩
 rw [← hN4] at ho hlG hkG
 have lwG : Low H.length H G := ⟨fun j hj => (hkG j (by omega)).trans (hget_left hj), by omega⟩
 have hvn := ho.nt
 have htm := term_ac (nro := nro) (γ := γ) (hpw.low lwG) (h.low (fun j hj => lwG.1 j (hFl j hj)) lwG.2) hnro (by omega) hx (v := v1) (fun D hD hj => by
  have : OwnK (H ++ N4).length D v1 (k :: y :: ks) := ho.low (fun j h1 h2 => hj j h2 (fun e => by have := hFl j e; omega))
  exact own_ksv this hx.k32) hT
 try simp (disch := first | omega | (simp only [lnS]; try omega)) [-getElem?_pos, -getElem?_neg, -notTuple, hvn.1, hvn.2]
 refine ⟨by kernel_rfl, AC.mono htm ?_⟩
 intro v2 G3 hQ
 have hl3 : H.length ≤ G3.length := by have := hQ.2.1; omega
 have hn3 : nro ≤ G3.length := by omega
 have hdn := fun (A : AH) => hQ.down (A := A) lwG hFl rfl
 obtain rfl := hQ.1
 have lN : (nmL (nameT ⟨6, s, k :: y :: ks⟩ T)).length = 32 := rfl
 generalize nmL (nameT ⟨6, s, k :: y :: ks⟩ T) = N at *
 have ht : (iv .u8 N).take 32 = iv .u8 N := List.take_of_length_le (by simp [lN])
 have hs : setR (iv .u8 (zl 32)) 0 (iv .u8 N) = iv .u8 N := setR_all _ _ (by simp [lN])
 try simp (disch := first | omega | (simp only [lnS]; try omega)) [-getElem?_pos, -getElem?_neg, hn3, lN, ht, hs]
 refine hK _ _ ?_; clear hK K
 refine aw_seq ?_
 have hbl := byteList_iv N
 (refine aw_ops (by kernel_rfl) (fun K hK => ?_); simp (disch := first | omega | (simp only [lnS]; try omega)) [-getElem?_pos, -getElem?_neg, lN, ht, hbl]; refine hK _ _ ?_; clear hK K)
 (refine aw_ret ?_; simp (disch := first | omega | (simp only [lnS]; try omega)) [-getElem?_pos, -getElem?_neg, thenQ_ret, scopeQ_ret, inBlockQ_ret, RQ, resL, resV])
 exact hdn _ (by simp) (fun j hj => hget_left hj)
end
section
def openT (T : List TermD) (k y : List Int) (box : ByteArray) : Option (ByteArray × List (List Int)) :=
 if box.size = 32 then (match findT T (nums box) with
  | some x => if x.kind = 6 ∧ k0 x = k ∧ k1 x = y then some (x.text, x.keys.drop 2) else none
  | none => none) else none
def OpenQ (H : AH) (T : List TermD) (k y : List Int) (box : ByteArray) (v' : Value) (H' : AH) : Prop :=
 Low H.length H H' ∧ match openT T k y box with
  | none => v' = .tuple #[.string ⟨#[]⟩, .slice none 0 0, .bool false]
  | some (s, ks) => ∃ kv, v' = .tuple #[.string s, kv, .bool true] ∧ OwnK H.length H' kv ks
theorem OwnK.less {lo lo' : Nat} {H : AH} {v : Value} {ks : List (List Int)} (h : OwnK lo H v ks) (hl : lo' ≤ lo) : OwnK lo' H v ks := by
 rcases h with h | ⟨j, cs, h1, h2⟩
 ·exact .inl h
 ·exact .inr ⟨j, cs, by omega, h2⟩
theorem PartK.keep {H H' : AH} {lo lo' : Nat} {x : Value} {ks : List (List Int)} (h : PartK H lo x ks) (hl : lo ≤ lo') (hg : ∀ j, j < lo → hget H' j = hget H j) : PartK H' lo' x ks :=
 ⟨h.1, fun G hG => h.2 G (fun j hj => (hG j (by omega)).trans (hg j hj))⟩
def opJD : List Nat := [48, 49, 50, 51, 52, 53, 8, 9, 10]
def opJP : List (List Nat) := [[], [0], [], [2], [3], [4], [1], [5], []]
def opJV (gl lo : Nat) (st : ByteArray) (kv sv : Value) (ds : List (List Int)) (G : AH) (i : Nat) (v : Value) : Prop := match i with
 | 0 => v = .pointer (some ⟨gl, 1, none⟩)
 | 1 => v = .string st
 | 2 => v = .pointer (some ⟨gl, 2, none⟩)
 | 3 => v = kv
 | 4 => v = sv
 | 5 => OwnK lo G v ds
 | 6 => v = .string st
 | 7 => OwnK lo G v ds
 | 8 => v = .bool true
 | _ => True
attribute [local simp] wb_bool wb_undef with_lit XL_nil XL_cons XLc_val XLc_call step1_eq stepW_t stepW_f stepC_n stepC_s stepX_s stepX_n stepN_s calleeX xrecv oneV xop_eq xopR_s xopR_n wantedA_eq wantedG_n wantedG_s plain1_int plain1_bool plain1_string bits_i64 bits_u64 bits_u32 bits_u16 bits_u8 xeqA xagg xcmp xarr allK_iv num_iv calleeOf xread xeff xbin xint xnil xun xstr xload xconv xpart xfield xfieldAddr xindexAddr xindex bnd asInt? xslice xlen xmin xmax xbuild xfill xappend xapp2 xappstr xappmk xcap xcopy xcells eval_tmp eval_const put_at put_none fr0_at cells_agg cells_int cells_bool cells_string cells_ptr cells_slice notTuple tab iv_all hget_app hget_app0 hget_cons0 hget_cons set_app set_app0 setR setR_one QL_nil QL_cons QLc_val stepQ_t stepQ_f stepQC_n stepQC_s stepQX_s SL_nil SL_cons SLc_val stepS_t stepS_f ltT ltF leT leF eqT eqF ltTn ltFn leTn leFn eqTn eqFn beqT beqF bneT bneF wi64 wu64 wu32 wu16 wu8 tmodP tdivP hgetL hgetNe hgetEq setL nums_def nums_len Nat.succ_le_of_lt List.getElem?_cons_zero List.getElem?_cons_succ Option.getD_some Int.toNat_add Int.toNat_mul agM okM agB agI agS agP agL agA okB okI okS okP okSl okA
theorem cloneP_ac {nro : Nat} {γ : Nat → Option Nat} {H : AH} {v : Value} {ks : List (List Int)} (hv : PartK H H.length v ks) (hk : K32 ks) (hc : ks.length ≤ 1000000) (hnro : nro ≤ H.length) :
  AC Tryd.prog nro γ 42 #[v] H (fun v' H' => OwnK H.length H' v' ks ∧ Low H.length H H') := by
 obtain ⟨⟨a, c, rfl⟩, hx⟩ := hv
 cases a with
 | none =>
  have h0 : ks = [] := by
   have := hx H (fun _ _ => rfl)
   cases hks : ks.length with
   | zero => exact List.eq_nil_of_length_eq_zero hks
   | succ n =>
    rw [hks] at this
    simp [xcells] at this
  subst h0
  refine ac_of_aw Tryd.func42 rfl Tryd.ntmps42 Tryd.results42 (by simp) ?_
  refine aw_seq ?_
  (refine aw_ops (by kernel_rfl) (fun K hK => ?_); simp (disch := first | omega | (simp only [lnS]; try omega)) [-getElem?_pos, -getElem?_neg]; refine hK _ _ ?_; clear hK K)
  refine aw_seq ?_
  refine aw_seq ?_
  (refine aw_ops (by kernel_rfl) (fun K hK => ?_); simp (disch := first | omega | (simp only [lnS]; try omega)) [-getElem?_pos, -getElem?_neg]; refine hK _ _ ?_; clear hK K)
  refine aw_t (by (first | (simp [eval_tmp, put_at]; done) | (simp [eval_tmp, put_at]; omega))) (by kernel_rfl) ?_
  refine aw_seq ?_
  (refine aw_ops (by kernel_rfl) (fun K hK => ?_); simp (disch := first | omega | (simp only [lnS]; try omega)) [-getElem?_pos, -getElem?_neg]; refine hK _ _ ?_; clear hK K)
  (refine aw_ret ?_; simp (disch := first | omega | (simp only [lnS]; try omega)) [-getElem?_pos, -getElem?_neg, thenQ_ret, scopeQ_ret, inBlockQ_ret, RQ, resL, resV])
  exact ⟨.inl ⟨rfl, rfl⟩, Low.refl (Nat.le_refl _)⟩
 | some a =>
  have ho0 : OwnK H.length (H ++ [some ⟨[], 28, some 32⟩]) (.slice (some ⟨H.length, 0, none⟩) 0 0) [] := .inr ⟨H.length, [], Nat.le_refl _, rfl, by rw [hget_app0]; rfl, List.prefix_rfl⟩
  obtain ⟨v7, G3, hap, ho3, hl3, hk3⟩ := ownK_append (nro := nro) (x := .slice (some a) ks.length c) (fun k hk => (by cases hk)) hk ho0 hnro (by simp) (fun s e => by cases e) (hx _ (fun j hj => hget_left hj)) (by simp; omega)
  have hnt7 := ho3.nt
  refine ac_of_aw Tryd.func42 rfl Tryd.ntmps42 Tryd.results42 (by simp) ?_
  refine aw_seq ?_
  (refine aw_ops (by kernel_rfl) (fun K hK => ?_); simp (disch := first | omega | (simp only [lnS]; try omega)) [-getElem?_pos, -getElem?_neg]; refine hK _ _ ?_; clear hK K)
  refine aw_seq ?_
  refine aw_seq ?_
  (refine aw_ops (by kernel_rfl) (fun K hK => ?_); simp (disch := first | omega | (simp only [lnS]; try omega)) [-getElem?_pos, -getElem?_neg]; refine hK _ _ ?_; clear hK K)
  refine aw_f (by (first | (simp [eval_tmp, put_at]; done) | (simp [eval_tmp, put_at]; omega))) (by kernel_rfl) ?_
  refine aw_skip ?_
  refine aw_seq ?_
  (refine aw_ops (by kernel_rfl) (fun K hK => ?_); simp (disch := first | omega | (simp only [lnS]; try omega)) [-getElem?_pos, -getElem?_neg, -xappend, hap, hnt7.1, hnt7.2, -notTuple]; refine hK _ _ ?_; clear hK K)
  (refine aw_ret ?_; simp (disch := first | omega | (simp only [lnS]; try omega)) [-getElem?_pos, -getElem?_neg, thenQ_ret, scopeQ_ret, inBlockQ_ret, RQ, resL, resV, hnt7.1, hnt7.2])
  simp only [List.length_append, List.length_cons, List.length_nil] at hl3
  rw [List.nil_append] at ho3
  exact ⟨ho3, fun j hj => (hk3 j hj).trans (hget_left hj), by omega⟩
theorem open_ac {nro : Nat} {γ : Nat → Option Nat} {H : AH} {b : Nat} {F : List Nat} {T : List TermD} (h : Tbl H b F T) (hnH : nro ≤ H.length) {k y : List Int} (hk : k.length = 32) (hy : y.length = 32) {s : ByteArray} (hs1 : s.size ≤ 10000000) :
  AC Tryd.prog nro γ 19 #[.pointer (some ⟨b, 0, none⟩), .agg (iv .u8 k).toArray, .agg (iv .u8 y).toArray, .string s] H (OpenQ H T k y s) := by
 obtain ⟨mb, tv, Ft, Fk, L, rfl, hL, rfl, hFl⟩ := h
 have htk : (iv .u8 k).take 32 = iv .u8 k := List.take_of_length_le (by simp [hk])
 have hty : (iv .u8 y).take 32 = iv .u8 y := List.take_of_length_le (by simp [hy])
 have hs9 : s.size ≤ 9223372036854775807 := by omega
 by_cases h32 : s.size = 32
 case neg =>
  have hb32 : ((s.size : Int) == 32) = false := by rw [beq_eq_false_iff_ne]; omega
  have hi32 : ¬ (s.size : Int) = 32 := by omega
  have hop : openT (L.map (·.2)) k y s = none := by unfold openT; rw [if_neg h32]
  refine ac_of_aw Tryd.func19 rfl Tryd.ntmps19 Tryd.results19 (by simp) ?_
  refine aw_seq ?_
  (refine aw_ops (by kernel_rfl) (fun K hK => ?_); simp (disch := first | omega | (simp only [lnS]; try omega)) [-getElem?_pos, -getElem?_neg, htk, hty]; refine hK _ _ ?_; clear hK K)
  refine aw_seq ?_
  refine aw_seq ?_
  (refine aw_ops (by kernel_rfl) (fun K hK => ?_); simp (disch := first | omega | (simp only [lnS]; try omega)) [-getElem?_pos, -getElem?_neg, hs9, hi32, hb32]; refine hK _ _ ?_; clear hK K)
  refine aw_t (by (first | (simp [eval_tmp, put_at]; done) | (simp [eval_tmp, put_at]; omega))) (by kernel_rfl) ?_
  refine aw_seq ?_
  (refine aw_ops (by kernel_rfl) (fun K hK => ?_); simp (disch := first | omega | (simp only [lnS]; try omega)) [-getElem?_pos, -getElem?_neg]; refine hK _ _ ?_; clear hK K)
  (refine aw_ret ?_; simp (disch := first | omega | (simp only [lnS]; try omega)) [-getElem?_pos, -getElem?_neg, thenQ_ret, scopeQ_ret, inBlockQ_ret, RQ, resL, resV])
  exact ⟨Low.push (Nat.le_refl _) _, by rw [hop]⟩
 have hb32 : ((s.size : Int) == 32) = true := by rw [h32]; rfl
 have hi32 : (s.size : Int) = 32 := by rw [h32]; rfl
 have ln : (nums s).length = 32 := by rw [nums_len, h32]
 have htn : (iv .u8 (nums s)).take 32 = iv .u8 (nums s) := List.take_of_length_le (by simp [ln])
 have hf := fun (N : AH) => find_ac (nro := nro) (γ := γ) (hL.low (G := H ++ N) (fun j hj => hget_left (hFl j hj))) ln (nums_bd s)
 have hcase := findV_T L (nums s)
 have p1 : plain1 (.slice none 0 0) = true := rfl
 have r3 : List.range 3 = [0, 1, 2] := rfl
 generalize findV L (nums s) = fv at *
 rcases hcase with ⟨⟨kv, x⟩, hp, rfl, hft⟩ | ⟨rfl, hft⟩
 ·have hkn := hL.key_nt hp
  have hw : x.Wf := hL.wf _ hp
  obtain ⟨Fx, hox, hFx⟩ := hL.keys _ hp
  have hxl : ∀ j ∈ Fx, j < H.length := fun j hj => hFl j (by simp [hFx j hj])
  have h6k := hw.seal_
  have hmk := hw.many
  have hop : openT (L.map (·.2)) k y s = if x.kind = 6 ∧ k0 x = k ∧ k1 x = y then some (x.text, x.keys.drop 2) else none := by unfold openT; rw [if_pos h32, hft]
  unfold k0 k1 at hop
  unfold tmRow at *
  refine ac_of_aw Tryd.func19 rfl Tryd.ntmps19 Tryd.results19 (by simp) ?_
  refine aw_seq ?_
  (refine aw_ops (by kernel_rfl) (fun K hK => ?_); simp (disch := first | omega | (simp only [lnS]; try omega)) [-getElem?_pos, -getElem?_neg, htk, hty]; refine hK _ _ ?_; clear hK K)
  refine aw_seq ?_
  refine aw_seq ?_
  (refine aw_ops (by kernel_rfl) (fun K hK => ?_); simp (disch := first | omega | (simp only [lnS]; try omega)) [-getElem?_pos, -getElem?_neg, hs9, hi32, hb32]; refine hK _ _ ?_; clear hK K)
  refine aw_f (by (first | (simp [eval_tmp, put_at]; done) | (simp [eval_tmp, put_at]; omega))) (by kernel_rfl) ?_
  refine aw_skip ?_
  refine aw_seq ?_
  refine aw_ops (by kernel_rfl) (fun K hK => ?_)
  simp (disch := first | omega | (simp only [lnS]; try omega)) [-getElem?_pos, -getElem?_neg, h32, ln, htn]
  refine ⟨by kernel_rfl, AC.mono (hf _) ?_⟩
  rintro _ G ⟨rfl, lw⟩
  have hGl := lw.2
  rw [List.length_append] at lw hGl
  simp only [List.length_cons, List.length_nil] at lw hGl
  have gk : hget G H.length = some ⟨iv .u8 k, 28, none⟩ := (lw.1 _ (by omega)).trans (by rw [hget_app0]; rfl)
  have gy : hget G (H.length + 1) = some ⟨iv .u8 y, 28, none⟩ := (lw.1 _ (by omega)).trans (by rw [hget_app]; rfl)
  have lwH : Low H.length H G := ⟨fun j hj => (lw.1 j (by omega)).trans (hget_left hj), by omega⟩
  have hng : nro ≤ G.length := by omega
  try simp (disch := first | omega | (simp only [lnS]; try omega)) [-getElem?_pos, -getElem?_neg, p1, r3, hng, -notTuple, hkn.1, hkn.2, nt_aggG, nt_intG]
  refine hK _ _ ?_; clear hK K
  obtain ⟨A, hA⟩ : ∃ A : AH, A = G ++ [some ⟨[.int .i64 (x.kind : Nat), .string x.text, kv], 67, none⟩] := ⟨_, rfl⟩
  have aG : hget A G.length = some ⟨[.int .i64 (x.kind : Nat), .string x.text, kv], 67, none⟩ := by rw [hA, hget_app0]; rfl
  have ak : hget A H.length = some ⟨iv .u8 k, 28, none⟩ := by rw [hA, hget_left (hget_lt gk)]; exact gk
  have ay : hget A (H.length + 1) = some ⟨iv .u8 y, 28, none⟩ := by rw [hA, hget_left (hget_lt gy)]; exact gy
  have aj : ∀ j, j < H.length → hget A j = hget H j := fun j hj => by rw [hA, hget_left (by omega)]; exact lwH.1 j hj
  have al : A.length = G.length + 1 := by rw [hA]; simp
  have lwA : Low H.length H A := ⟨aj, by omega⟩
  rw [← hA]
  clear hA
  have lA := hget_lt aG
  have la := hget_lt ak
  have lb := hget_lt ay
  have ldt : xload Tryd.prog 3 (.pointer (some ⟨G.length, 0, none⟩)) A = some (.int .i64 (x.kind : Nat)) := by simp [xload, aG]
  have lds : xload Tryd.prog 9 (.pointer (some ⟨G.length, 1, none⟩)) A = some (.string x.text) := by simp [xload, aG]
  have ldk : xload Tryd.prog 33 (.pointer (some ⟨G.length, 2, none⟩)) A = some kv := by simp [xload, aG]
  have ld1 : xload Tryd.prog 28 (.pointer (some ⟨H.length, 0, none⟩)) A = some (.agg (iv .u8 k).toArray) := by simp [xload, ak, hk, htk]
  have ld2 : xload Tryd.prog 28 (.pointer (some ⟨H.length + 1, 0, none⟩)) A = some (.agg (iv .u8 y).toArray) := by simp [xload, ay, hy, hty]
  refine aw_seq ?_
  refine aw_seq ?_
  by_cases h6 : x.kind = 6
  case neg =>
   have b6 : ((x.kind : Int) == 6) = false := by rw [beq_eq_false_iff_ne]; omega
   have i6 : ¬ (x.kind : Int) = 6 := by omega
   rw [if_neg (fun e => h6 e.1)] at hop
   (refine aw_plan [] [] [0, 1, 2, 3, 4, 5, 6, 7, 8, 9, 10, 11, 12, 13, 14, 15, 16, 17, 18, 19, 20, 21, 22] 23 0 (by kernel_rfl) (by kernel_rfl) (by kernel_rfl) (fun K hK => ?_)); simp only [sel, List.getElem?_cons_succ, List.getElem?_cons_zero, List.drop_succ_cons, List.drop_zero]; simp (disch := first | omega | (simp only [lnS]; try omega)) [-getElem?_pos, -getElem?_neg, -xload, ldt, b6, i6, -notTuple, nt_intG, PL_nil, plainB_lit, PL_cons, PLc_val, PLc_new, stepP_t, stepP_f, stepPC_n, stepPC_s, stepPX_s, stepPX_n, stepPV_n, stepPV_s, stepPA_t, stepPA_c, stepPA_l, stepPN_s, allocOp, reloc_sl, reloc_ptr, List.map_cons, List.map_nil, List.nil_append, List.append_assoc, List.cons_append, Nat.add_assoc]
   refine hK _ _ ?_; clear hK K
   refine aw_t (by (first | (simp [eval_tmp, put_at]; done) | (simp [eval_tmp, put_at]; omega))) (by kernel_rfl) ?_
   refine aw_seq ?_
   (refine aw_ops (by kernel_rfl) (fun K hK => ?_); simp (disch := first | omega | (simp only [lnS]; try omega)) [-getElem?_pos, -getElem?_neg]; refine hK _ _ ?_; clear hK K)
   (refine aw_ret ?_; simp (disch := first | omega | (simp only [lnS]; try omega)) [-getElem?_pos, -getElem?_neg, thenQ_ret, scopeQ_ret, inBlockQ_ret, RQ, resL, resV])
   exact ⟨lwA, by rw [hop]⟩
  have h2 := h6k h6
  have b6 : ((x.kind : Int) == 6) = true := by rw [h6]; rfl
  have i6 : (x.kind : Int) = 6 := by omega
  have hoA := hox.low (H' := A) (fun j hj => aj j (hxl j hj))
  have hKA : KsV A kv x.keys := kr_ksv hoA hw.k32
  have hacc := hKA.acc hw.k32
  obtain ⟨q0, y0, t1, t2, t3, t4, t5⟩ := hacc.at_ 0 (by omega)
  obtain ⟨q1, y1, u1, u2, u3, u4, u5⟩ := hacc.at_ 1 (by omega)
  have t2 : xindexAddr Tryd.prog 33 kv (.int .i64 0) = some q0 := t2
  have u2 : xindexAddr Tryd.prog 33 kv (.int .i64 1) = some q1 := u2
  have t5 := t5 A (Low.refl (Nat.le_refl _))
  have u5 := u5 A (Low.refl (Nat.le_refl _))
  subst t4 u4
  have z0 : (x.keys.getD 0 []).length = 32 := by
   rw [List.getD_eq_getElem?_getD, List.getElem?_eq_getElem (by omega)]
   exact hw.k32 _ (List.getElem_mem _)
  have z1 : (x.keys.getD 1 []).length = 32 := by
   rw [List.getD_eq_getElem?_getD, List.getElem?_eq_getElem (by omega)]
   exact hw.k32 _ (List.getElem_mem _)
  obtain ⟨sv, v1, v2, v3, v4, v5, _⟩ := suf_keys hoA hw.k32 h2
  have hdk : K32 (x.keys.drop 2) := fun z hz => hw.k32 z (List.mem_of_mem_drop hz)
  have hdm : (x.keys.drop 2).length ≤ 1000000 := by rw [List.length_drop]; omega
  have hsl := v1 A
  generalize x.keys.getD 0 [] = c0 at *
  generalize x.keys.getD 1 [] = c1 at *
  generalize x.keys.drop 2 = ds at *
  generalize x.kind = kd at *
  subst h6
  by_cases e0 : c0 = k
  case neg =>
   have c0b : (c0 == k) = false := by simpa using e0
   rw [if_neg (fun e => e0 e.2.1)] at hop
   (refine aw_plan [] [] [0, 1, 2, 3, 4, 5, 6, 7, 8, 9, 10, 11, 12, 13, 14, 15, 16, 17, 18, 19, 20, 21, 22] 23 0 (by kernel_rfl) (by kernel_rfl) (by kernel_rfl) (fun K hK => ?_)); simp only [sel, List.getElem?_cons_succ, List.getElem?_cons_zero, List.drop_succ_cons, List.drop_zero]; simp (disch := first | omega | (simp only [lnS]; try omega)) [-getElem?_pos, -getElem?_neg, -xload, ldt, ldk, ld1, t5, -xindexAddr, t1, t2, b6, i6, z0, hk, e0, c0b, -notTuple, hkn.1, nt_intG, nt_aggG, PL_nil, plainB_lit, PL_cons, PLc_val, PLc_new, stepP_t, stepP_f, stepPC_n, stepPC_s, stepPX_s, stepPX_n, stepPV_n, stepPV_s, stepPA_t, stepPA_c, stepPA_l, stepPN_s, allocOp, reloc_sl, reloc_ptr, List.map_cons, List.map_nil, List.nil_append, List.append_assoc, List.cons_append, Nat.add_assoc]
   refine hK _ _ ?_; clear hK K
   refine aw_t (by (first | (simp [eval_tmp, put_at]; done) | (simp [eval_tmp, put_at]; omega))) (by kernel_rfl) ?_
   refine aw_seq ?_
   (refine aw_ops (by kernel_rfl) (fun K hK => ?_); simp (disch := first | omega | (simp only [lnS]; try omega)) [-getElem?_pos, -getElem?_neg]; refine hK _ _ ?_; clear hK K)
   (refine aw_ret ?_; simp (disch := first | omega | (simp only [lnS]; try omega)) [-getElem?_pos, -getElem?_neg, thenQ_ret, scopeQ_ret, inBlockQ_ret, RQ, resL, resV])
   exact ⟨lwA, by rw [hop]⟩
  subst e0
  by_cases e1 : c1 = y
  case neg =>
   have c1b : (c1 == y) = false := by simpa using e1
   rw [if_neg (fun e => e1 e.2.2)] at hop
   (refine aw_plan [] [] [0, 1, 2, 3, 4, 5, 6, 7, 8, 9, 10, 11, 12, 13, 14, 15, 16, 17, 18, 19, 20, 21, 22] 23 0 (by kernel_rfl) (by kernel_rfl) (by kernel_rfl) (fun K hK => ?_)); simp only [sel, List.getElem?_cons_succ, List.getElem?_cons_zero, List.drop_succ_cons, List.drop_zero]; simp (disch := first | omega | (simp only [lnS]; try omega)) [-getElem?_pos, -getElem?_neg, -xload, ldt, ldk, ld1, ld2, t5, u5, -xindexAddr, t1, t2, u1, u2, b6, i6, z0, z1, hk, hy, e1, c1b, -notTuple, hkn.1, nt_intG, nt_aggG, PL_nil, plainB_lit, PL_cons, PLc_val, PLc_new, stepP_t, stepP_f, stepPC_n, stepPC_s, stepPX_s, stepPX_n, stepPV_n, stepPV_s, stepPA_t, stepPA_c, stepPA_l, stepPN_s, allocOp, reloc_sl, reloc_ptr, List.map_cons, List.map_nil, List.nil_append, List.append_assoc, List.cons_append, Nat.add_assoc]
   refine hK _ _ ?_; clear hK K
   refine aw_t (by (first | (simp [eval_tmp, put_at]; done) | (simp [eval_tmp, put_at]; omega))) (by kernel_rfl) ?_
   refine aw_seq ?_
   (refine aw_ops (by kernel_rfl) (fun K hK => ?_); simp (disch := first | omega | (simp only [lnS]; try omega)) [-getElem?_pos, -getElem?_neg]; refine hK _ _ ?_; clear hK K)
   (refine aw_ret ?_; simp (disch := first | omega | (simp only [lnS]; try omega)) [-getElem?_pos, -getElem?_neg, thenQ_ret, scopeQ_ret, inBlockQ_ret, RQ, resL, resV])
   exact ⟨lwA, by rw [hop]⟩
  subst e1
  rw [if_pos ⟨rfl, rfl, rfl⟩] at hop
  (refine aw_plan [] [] [0, 1, 2, 3, 4, 5, 6, 7, 8, 9, 10, 11, 12, 13, 14, 15, 16, 17, 18, 19, 20, 21, 22] 23 0 (by kernel_rfl) (by kernel_rfl) (by kernel_rfl) (fun K hK => ?_)); simp only [sel, List.getElem?_cons_succ, List.getElem?_cons_zero, List.drop_succ_cons, List.drop_zero]; simp (disch := first | omega | (simp only [lnS]; try omega)) [-getElem?_pos, -getElem?_neg, -xload, ldt, ldk, ld1, ld2, t5, u5, -xindexAddr, t1, t2, u1, u2, b6, i6, z0, z1, hk, hy, -notTuple, hkn.1, nt_intG, nt_aggG, PL_nil, plainB_lit, PL_cons, PLc_val, PLc_new, stepP_t, stepP_f, stepPC_n, stepPC_s, stepPX_s, stepPX_n, stepPV_n, stepPV_s, stepPA_t, stepPA_c, stepPA_l, stepPN_s, allocOp, reloc_sl, reloc_ptr, List.map_cons, List.map_nil, List.nil_append, List.append_assoc, List.cons_append, Nat.add_assoc]
  refine hK _ _ ?_; clear hK K
  refine aw_f (by (first | (simp [eval_tmp, put_at]; done) | (simp [eval_tmp, put_at]; omega))) (by kernel_rfl) ?_
  refine aw_skip ?_
  refine aw_seq ?_
  obtain ⟨gl, hgl⟩ : ∃ gl, gl = G.length := ⟨_, rfl⟩
  rw [← hgl] at aG lA
  refine name_aw (fun β hβ => ?_)
  have e11 : β 11 = .pointer (some ⟨gl, 0, none⟩) := by rw [hβ, hgl]; (first | (simp [put_at, put_none, fr0_at]; done) | rfl)
  clear hβ
  have hND : opJD.Nodup := by decide
  have hST : ∀ (G1 G2 : AH) (i : Nat) (v : Value), G1.length ≤ G2.length → (∀ j, j < G1.length → hget G2 j = hget G1 j) → opJV gl A.length x.text kv sv ds G1 i v → opJV gl A.length x.text kv sv ds G2 i v := fun G1 G2 i v h1 h2 h => by
   unfold opJV at h ⊢
   split at h <;> first | exact h | exact h.low (fun j _ hj => h2 j hj)
  generalize x.text = st at *
  refine aw_inv opJP (IJ opJD (opJV gl A.length st kv sv ds) β A) (by kernel_rfl) (by kernel_rfl) (by kernel_rfl) (IJ.start rfl) ?_ ?_
  ·intro i s α G k hJ hi0 hsi hd hc hcont
   have j11 := (hJ.lo 11 (by decide)).trans e11
   have gA := (hJ.lw.2 gl lA).trans aG
   have lgA := hget_lt gA
   have hi : i = 0 ∨ i = 1 ∨ i = 2 ∨ i = 3 ∨ i = 4 ∨ i = 5 ∨ i = 6 ∨ i = 7 ∨ i = 8 := by have hi0 : i < 9 := hi0; omega
   rcases hi with rfl | rfl | rfl | rfl | rfl | rfl | rfl | rfl | rfl
   ·unfold XOm
    simp only [List.getElem?_cons_succ, List.getElem?_cons_zero]
    simp (disch := first | omega | (simp only [lnS]; try omega)) [-getElem?_pos, -getElem?_neg, -notTuple, hkn.1, nt_strG, j11, XO_s, XO_z, XLk_val, XLk_call, headsO, behind, List.length_cons, List.length_nil, List.mem_cons, List.not_mem_nil, or_false, forall_eq_or_imp, forall_eq, List.contains_cons, List.contains_nil]
    exact hcont _ _ (hJ.put hND hST rfl (Nat.le_refl _) (fun _ _ => rfl) rfl)
   ·have f0 : α 48 = .pointer (some ⟨gl, 1, none⟩) := hJ.val 0 48 rfl (hd 0 (by decide))
    unfold XOm
    simp only [List.getElem?_cons_succ, List.getElem?_cons_zero]
    simp (disch := first | omega | (simp only [lnS]; try omega)) [-getElem?_pos, -getElem?_neg, -notTuple, hkn.1, nt_strG, gA, lgA, f0, XO_s, XO_z, XLk_val, XLk_call, headsO, behind, List.length_cons, List.length_nil, List.mem_cons, List.not_mem_nil, or_false, forall_eq_or_imp, forall_eq, List.contains_cons, List.contains_nil]
    exact hcont _ _ (hJ.put hND hST rfl (Nat.le_refl _) (fun _ _ => rfl) rfl)
   ·unfold XOm
    simp only [List.getElem?_cons_succ, List.getElem?_cons_zero]
    simp (disch := first | omega | (simp only [lnS]; try omega)) [-getElem?_pos, -getElem?_neg, -notTuple, hkn.1, nt_strG, j11, XO_s, XO_z, XLk_val, XLk_call, headsO, behind, List.length_cons, List.length_nil, List.mem_cons, List.not_mem_nil, or_false, forall_eq_or_imp, forall_eq, List.contains_cons, List.contains_nil]
    exact hcont _ _ (hJ.put hND hST rfl (Nat.le_refl _) (fun _ _ => rfl) rfl)
   ·have f2 : α 50 = .pointer (some ⟨gl, 2, none⟩) := hJ.val 2 50 rfl (hd 2 (by decide))
    unfold XOm
    simp only [List.getElem?_cons_succ, List.getElem?_cons_zero]
    simp (disch := first | omega | (simp only [lnS]; try omega)) [-getElem?_pos, -getElem?_neg, -notTuple, hkn.1, nt_strG, gA, lgA, f2, XO_s, XO_z, XLk_val, XLk_call, headsO, behind, List.length_cons, List.length_nil, List.mem_cons, List.not_mem_nil, or_false, forall_eq_or_imp, forall_eq, List.contains_cons, List.contains_nil]
    exact hcont _ _ (hJ.put hND hST rfl (Nat.le_refl _) (fun _ _ => rfl) rfl)
   ·have f3 : α 51 = kv := hJ.val 3 51 rfl (hd 3 (by decide))
    unfold XOm
    simp only [List.getElem?_cons_succ, List.getElem?_cons_zero]
    simp (disch := first | omega | (simp only [lnS]; try omega)) [-getElem?_pos, -getElem?_neg, -notTuple, hkn.1, nt_strG, -xslice, v1 G, v2, f3, XO_s, XO_z, XLk_val, XLk_call, headsO, behind, List.length_cons, List.length_nil, List.mem_cons, List.not_mem_nil, or_false, forall_eq_or_imp, forall_eq, List.contains_cons, List.contains_nil]
    exact hcont _ _ (hJ.put hND hST rfl (Nat.le_refl _) (fun _ _ => rfl) rfl)
   ·have f4 : α 52 = sv := hJ.val 4 52 rfl (hd 4 (by decide))
    unfold XOm
    simp only [List.getElem?_cons_succ, List.getElem?_cons_zero]
    simp (disch := first | omega | (simp only [lnS]; try omega)) [-getElem?_pos, -getElem?_neg, f4, XO_s, XO_z, XLk_val, XLk_call, headsO, behind, List.length_cons, List.length_nil, List.mem_cons, List.not_mem_nil, or_false, forall_eq_or_imp, forall_eq, List.contains_cons, List.contains_nil]
    refine ⟨by kernel_rfl, (cloneP_ac (nro := nro) (γ := γ) (v5.keep hJ.lw.1 hJ.lw.2) hdk hdm (by have := hJ.lw.1; omega)).mono ?_⟩
    rintro v' G' ⟨ho, lw⟩
    exact hcont _ _ (hJ.put hND hST rfl lw.2 lw.1 (ho.less hJ.lw.1))
   ·have f1 : α 49 = .string st := hJ.val 1 49 rfl (hd 1 (by decide))
    unfold XOm
    simp only [List.getElem?_cons_succ, List.getElem?_cons_zero]
    simp (disch := first | omega | (simp only [lnS]; try omega)) [-getElem?_pos, -getElem?_neg, -notTuple, hkn.1, nt_strG, f1, XO_s, XO_z, XLk_val, XLk_call, headsO, behind, List.length_cons, List.length_nil, List.mem_cons, List.not_mem_nil, or_false, forall_eq_or_imp, forall_eq, List.contains_cons, List.contains_nil]
    exact hcont _ _ (hJ.put hND hST rfl (Nat.le_refl _) (fun _ _ => rfl) rfl)
   ·have f5 := hJ.val 5 53 rfl (hd 5 (by decide))
    obtain ⟨n1, n2⟩ := OwnK.nt f5
    unfold XOm
    simp only [List.getElem?_cons_succ, List.getElem?_cons_zero]
    simp (disch := first | omega | (simp only [lnS]; try omega)) [-getElem?_pos, -getElem?_neg, XO_s, XO_z, XLk_val, XLk_call, headsO, behind, List.length_cons, List.length_nil, List.mem_cons, List.not_mem_nil, or_false, forall_eq_or_imp, forall_eq, List.contains_cons, List.contains_nil]
    exact hcont _ _ (hJ.put hND hST rfl (Nat.le_refl _) (fun _ _ => rfl) f5)
   ·unfold XOm
    simp only [List.getElem?_cons_succ, List.getElem?_cons_zero]
    simp (disch := first | omega | (simp only [lnS]; try omega)) [-getElem?_pos, -getElem?_neg, -notTuple, hkn.1, nt_strG, XO_s, XO_z, XLk_val, XLk_call, headsO, behind, List.length_cons, List.length_nil, List.mem_cons, List.not_mem_nil, or_false, forall_eq_or_imp, forall_eq, List.contains_cons, List.contains_nil]
    exact hcont _ _ (hJ.put hND hST rfl (Nat.le_refl _) (fun _ _ => rfl) rfl)
  ·rintro s' α' B hJ hall
   have hsz : s'.size = 9 := hJ.sz
   have hg : ∀ i, i < 9 → s'.getD i false = true := fun i hi => by
    rw [Array.getD_eq_getD_getElem?, Array.getElem?_eq_getElem (by omega)]
    exact Array.all_eq_true.1 hall i (by omega)
   have e8 : α' 8 = .string st := hJ.val 6 8 rfl (hg 6 (by omega))
   have e9 : OwnK A.length B (α' 9) ds := hJ.val 7 9 rfl (hg 7 (by omega))
   have e10 : α' 10 = .bool true := hJ.val 8 10 rfl (hg 8 (by omega))
   obtain ⟨v9, h9⟩ : ∃ v9, α' 9 = v9 := ⟨_, rfl⟩
   rw [h9] at e9
   have hn9 := e9.nt
   (refine aw_ret ?_; simp (disch := first | omega | (simp only [lnS]; try omega)) [-getElem?_pos, -getElem?_neg, thenQ_ret, scopeQ_ret, inBlockQ_ret, RQ, resL, resV, e8, h9, e10, -notTuple, hn9.1, hn9.2, nt_strG, nt_boolG])
   refine ⟨⟨fun j hj => (hJ.lw.2 j (by omega)).trans (aj j hj), by have := hJ.lw.1; omega⟩, ?_⟩
   rw [hop]
   exact ⟨v9, rfl, e9.less (by omega)⟩
 ·unfold zkey at *
  refine ac_of_aw Tryd.func19 rfl Tryd.ntmps19 Tryd.results19 (by simp) ?_
  refine aw_seq ?_
  (refine aw_ops (by kernel_rfl) (fun K hK => ?_); simp (disch := first | omega | (simp only [lnS]; try omega)) [-getElem?_pos, -getElem?_neg, htk, hty]; refine hK _ _ ?_; clear hK K)
  refine aw_seq ?_
  refine aw_seq ?_
  (refine aw_ops (by kernel_rfl) (fun K hK => ?_); simp (disch := first | omega | (simp only [lnS]; try omega)) [-getElem?_pos, -getElem?_neg, hs9, hi32, hb32]; refine hK _ _ ?_; clear hK K)
  refine aw_f (by (first | (simp [eval_tmp, put_at]; done) | (simp [eval_tmp, put_at]; omega))) (by kernel_rfl) ?_
  refine aw_skip ?_
  refine aw_seq ?_
  refine aw_ops (by kernel_rfl) (fun K hK => ?_)
  simp (disch := first | omega | (simp only [lnS]; try omega)) [-getElem?_pos, -getElem?_neg, h32, ln, htn]
  refine ⟨by kernel_rfl, AC.mono (hf _) ?_⟩
  rintro _ G ⟨rfl, lw⟩
  have hGl := lw.2
  rw [List.length_append] at lw hGl
  simp only [List.length_cons, List.length_nil] at lw hGl
  have gk : hget G H.length = some ⟨iv .u8 k, 28, none⟩ := (lw.1 _ (by omega)).trans (by rw [hget_app0]; rfl)
  have gy : hget G (H.length + 1) = some ⟨iv .u8 y, 28, none⟩ := (lw.1 _ (by omega)).trans (by rw [hget_app]; rfl)
  have lwH : Low H.length H G := ⟨fun j hj => (lw.1 j (by omega)).trans (hget_left hj), by omega⟩
  have hng : nro ≤ G.length := by omega
  try simp (disch := first | omega | (simp only [lnS]; try omega)) [-getElem?_pos, -getElem?_neg, p1, r3, hng, nt_aggG, nt_intG]
  refine hK _ _ ?_; clear hK K
  refine aw_seq ?_
  refine aw_seq ?_
  (refine aw_plan [] [] [0, 1, 2, 3, 4, 5, 6, 7, 8, 9, 10, 11, 12, 13, 14, 15, 16, 17, 18, 19, 20, 21, 22] 23 0 (by kernel_rfl) (by kernel_rfl) (by kernel_rfl) (fun K hK => ?_)); simp only [sel, List.getElem?_cons_succ, List.getElem?_cons_zero, List.drop_succ_cons, List.drop_zero]; simp (disch := first | omega | (simp only [lnS]; try omega)) [-getElem?_pos, -getElem?_neg, PL_nil, plainB_lit, PL_cons, PLc_val, PLc_new, stepP_t, stepP_f, stepPC_n, stepPC_s, stepPX_s, stepPX_n, stepPV_n, stepPV_s, stepPA_t, stepPA_c, stepPA_l, stepPN_s, allocOp, reloc_sl, reloc_ptr, List.map_cons, List.map_nil, List.nil_append, List.append_assoc, List.cons_append, Nat.add_assoc]
  refine hK _ _ ?_; clear hK K
  refine aw_t (by (first | (simp [eval_tmp, put_at]; done) | (simp [eval_tmp, put_at]; omega))) (by kernel_rfl) ?_
  refine aw_seq ?_
  (refine aw_ops (by kernel_rfl) (fun K hK => ?_); simp (disch := first | omega | (simp only [lnS]; try omega)) [-getElem?_pos, -getElem?_neg]; refine hK _ _ ?_; clear hK K)
  (refine aw_ret ?_; simp (disch := first | omega | (simp only [lnS]; try omega)) [-getElem?_pos, -getElem?_neg, thenQ_ret, scopeQ_ret, inBlockQ_ret, RQ, resL, resV])
  have hop : openT (L.map (·.2)) k y s = none := by unfold openT; rw [if_pos h32, hft]
  exact ⟨⟨fun j hj => (hget_left (by omega)).trans (lwH.1 j hj), by simp; omega⟩, by rw [hop]⟩
end
section
attribute [local simp] wb_bool wb_undef with_lit XL_nil XL_cons XLc_val XLc_call step1_eq stepW_t stepW_f stepC_n stepC_s stepX_s stepX_n stepN_s calleeX xrecv oneV xop_eq xopR_s xopR_n wantedA_eq wantedG_n wantedG_s plain1_int plain1_bool plain1_string bits_i64 bits_u64 bits_u32 bits_u16 bits_u8 xeqA xagg xcmp xarr allK_iv num_iv calleeOf xread xeff xbin xint xnil xun xstr xload xconv xpart xfield xfieldAddr xindexAddr xindex bnd asInt? xslice xlen xmin xmax xbuild xfill xappend xapp2 xappstr xappmk xcap xcopy xcells eval_tmp eval_const put_at put_none fr0_at cells_agg cells_int cells_bool cells_string cells_ptr cells_slice notTuple tab iv_all hget_app hget_app0 hget_cons0 hget_cons set_app set_app0 setR setR_one QL_nil QL_cons QLc_val stepQ_t stepQ_f stepQC_n stepQC_s stepQX_s SL_nil SL_cons SLc_val stepS_t stepS_f ltT ltF leT leF eqT eqF ltTn ltFn leTn leFn eqTn eqFn beqT beqF bneT bneF wi64 wu64 wu32 wu16 wu8 tmodP tdivP hgetL hgetNe hgetEq setL nums_def nums_len Nat.succ_le_of_lt List.getElem?_cons_zero List.getElem?_cons_succ Option.getD_some Int.toNat_add Int.toNat_mul agM okM agB agI agS agP agL agA okB okI okS okP okSl okA
theorem key_rc {γ : Nat → Option Nat} {H : AH} {N : List Int} (hN : N.length = 32) (hb : By N) : AC Tryd.prog H.length γ 17 #[.string (strOfNums N)] H (fun v' _ => v' = .tuple #[.agg (iv .u8 N).toArray, .bool true]) := by
 have hsz : (strOfNums N).size = 32 := by rw [sn_size, hN]
 have hb32 : (((strOfNums N).size : Int) == 32) = true := by rw [hsz]; rfl
 have hi32 : ((strOfNums N).size : Int) = 32 := by rw [hsz]; rfl
 have hs9 : (strOfNums N).size ≤ 9223372036854775807 := by omega
 have hgb := fun i => gb_sn hb i
 have htN : (iv .u8 N).take 32 = iv .u8 N := List.take_of_length_le (by simp [hN])
 have hsN : setR (iv .u8 (zl 32)) 0 (iv .u8 N) = iv .u8 N := setR_all _ _ (by simp [hN])
 generalize strOfNums N = s at *
 refine ac_of_aw Tryd.func17 rfl Tryd.ntmps17 Tryd.results17 (by simp) ?_
 refine aw_seq ?_
 (refine aw_ops (by kernel_rfl) (fun K hK => ?_); simp (disch := first | omega | (simp only [lnS]; try omega)) [-getElem?_pos, -getElem?_neg]; refine hK _ _ ?_; clear hK K)
 refine aw_seq ?_
 (refine aw_ops (by kernel_rfl) (fun K hK => ?_); simp (disch := first | omega | (simp only [lnS]; try omega)) [-getElem?_pos, -getElem?_neg]; refine hK _ _ ?_; clear hK K)
 refine aw_seq ?_
 refine aw_seq ?_
 (refine aw_ops (by kernel_rfl) (fun K hK => ?_); simp (disch := first | omega | (simp only [lnS]; try omega)) [-getElem?_pos, -getElem?_neg, hs9, hb32, hi32]; refine hK _ _ ?_; clear hK K)
 refine aw_f (by (first | (simp [eval_tmp, put_at]; done) | (simp [eval_tmp, put_at]; omega))) (by kernel_rfl) ?_
 refine aw_skip ?_
 refine aw_seq ?_
 refine aw_seq ?_
 (refine aw_ops (by kernel_rfl) (fun K hK => ?_); simp (disch := first | omega | (simp only [lnS]; try omega)) [-getElem?_pos, -getElem?_neg]; refine hK _ _ ?_; clear hK K)
 refine aw_block ?_
 refine aw_loop (fun q α G => ∃ i : Nat, i + q = 32 ∧ α 0 = .string s ∧ α 2 = .pointer (some ⟨H.length, 0, none⟩) ∧ α 4 = .pointer (some ⟨H.length + 1, 0, none⟩) ∧ α 5 = .int .i64 (i : Nat) ∧ G = H ++ [some ⟨iv .u8 (zl 32), 28, none⟩, some ⟨iv .u8 (N.take i ++ zl (32 - i)), 28, none⟩]) 32 ?_ ?_
 ·exact ⟨0, by omega, by (first | (simp [put_at, put_none, fr0_at]; done) | rfl), by (first | (simp [put_at, put_none, fr0_at]; done) | rfl), by (first | (simp [put_at, put_none, fr0_at]; done) | rfl), by (first | (simp [put_at, put_none, fr0_at]; done) | rfl), rfl⟩
 rintro q α G ⟨i, hiq, h0, h2, h4, h5, rfl⟩
 refine aw_seq ?_
 refine aw_seq ?_
 by_cases hi : i < 32
 ·have hnx := set_next N 32 i hN hi
  have hfl := fill_len N 32 i hN (by omega)
  have hg := hgb i
  generalize N.getD i 0 = z at *
  have hset : (iv .u8 (N.take i ++ zl (32 - i))).set i (.int .u8 z) = iv .u8 (N.take (i + 1) ++ zl (32 - (i + 1))) := by rw [← hnx]; simp [iv]
  generalize N.take i ++ zl (32 - i) = A at *
  have hsi : (i : Int) < s.size := by omega
  (refine aw_ops (by kernel_rfl) (fun K hK => ?_); simp (disch := first | omega | (simp only [lnS]; try omega)) [-getElem?_pos, -getElem?_neg, h5, hi]; refine hK _ _ ?_; clear hK K)
  refine aw_t (by (first | (simp [eval_tmp, put_at, hi]; done) | (simp [eval_tmp, put_at, hi]; omega))) (by kernel_rfl) ?_
  refine aw_skip ?_
  refine aw_seq ?_
  refine aw_block ?_
  (refine aw_ops (by kernel_rfl) (fun K hK => ?_); simp (disch := first | omega | (simp only [lnS]; try omega)) [-getElem?_pos, -getElem?_neg, h0, h4, h5, hsz, hsi, hi, hg, hfl, hset, nt_intG]; refine hK _ _ ?_; clear hK K)
  (refine aw_ops (by kernel_rfl) (fun K hK => ?_); simp (disch := first | omega | (simp only [lnS]; try omega)) [-getElem?_pos, -getElem?_neg, h5]; refine hK _ _ ?_; clear hK K)
  exact ⟨q - 1, by omega, i + 1, by omega, by (first | (simp [put_at, put_none, fr0_at, h0]; done) | rfl), by (first | (simp [put_at, put_none, fr0_at, h2]; done) | rfl), by (first | (simp [put_at, put_none, fr0_at, h4]; done) | rfl), by (first | (simp [put_at, put_none, fr0_at]; done) | rfl), by rw [show 32 - (i + 1) = 31 - i by omega]⟩
 ·obtain rfl : i = 32 := by omega
  have e : N.take 32 ++ zl (32 - 32) = N := by
   rw [List.take_of_length_le (by omega)]
   simp [zl]
  rw [e]
  (refine aw_ops (by kernel_rfl) (fun K hK => ?_); simp (disch := first | omega | (simp only [lnS]; try omega)) [-getElem?_pos, -getElem?_neg, h5]; refine hK _ _ ?_; clear hK K)
  refine aw_f (by (first | (simp [eval_tmp, put_at]; done) | (simp [eval_tmp, put_at]; omega))) (by kernel_rfl) ?_
  refine aw_exit ?_
  refine aw_seq ?_
  (refine aw_ops (by kernel_rfl) (fun K hK => ?_); simp (disch := first | omega | (simp only [lnS]; try omega)) [-getElem?_pos, -getElem?_neg, h2, h4, htN, hsN, hN, nt_aggG]; refine hK _ _ ?_; clear hK K)
  (refine aw_ret ?_; simp (disch := first | omega | (simp only [lnS]; try omega)) [-getElem?_pos, -getElem?_neg, thenQ_ret, scopeQ_ret, inBlockQ_ret, RQ, resL, resV, h2, htN, hN])
end
section
theorem place_none {x : TermD} {T : List TermD} (hx : x.Wf) (hT : ∀ y ∈ T, y.Wf) (h : x ∉ T) : placeT x T = none := by
 cases hp : placeT x T with
 | none => rfl
 | some i => exact absurd (List.mem_of_getElem? (place_some hx hT hp)) h
theorem idxS_mem {s : ByteArray} : ∀ {L : List ByteArray}, s ∈ L → ∃ i, idxS s L = some i
 | x :: L, h => by
  unfold idxS
  by_cases e : s = x
  ·exact ⟨0, if_pos e⟩
  ·rw [if_neg e]
   rcases List.mem_cons.1 h with h | h
   ·exact absurd h e
   ·obtain ⟨i, hi⟩ := idxS_mem h
    exact ⟨i + 1, by rw [hi]; rfl⟩
theorem add_new {x : TermD} {T : List TermD} (hx : x.Wf) (hT : ∀ y ∈ T, y.Wf) (h : x ∉ T) : addT x T = T ++ [x] ∧ nameT x T = T.length := by
 have := place_none hx hT h
 exact ⟨by unfold addT; rw [this], by unfold nameT; rw [this]⟩
theorem add_old {x : TermD} {T : List TermD} (hx : x.Wf) (hT : ∀ y ∈ T, y.Wf) (hn : T.Nodup) {i : Nat} (h : T[i]? = some x) : addT x T = T ∧ nameT x T = i := by
 obtain ⟨j, hj⟩ := idxS_mem (List.mem_map.2 ⟨x, List.mem_of_getElem? h, rfl⟩ : x.rec_ ∈ T.map TermD.rec_)
 have hp : placeT x T = some j := hj
 have h2 := place_some hx hT hp
 have e : j = i := (List.getElem?_inj (List.getElem?_eq_some_iff.1 h2).1 hn).1 (h2.trans h.symm)
 exact ⟨by unfold addT; rw [hp], by unfold nameT; rw [hp]; exact e⟩
theorem TermQ.keep {H G : AH} {b : Nat} {F : List Nat} {T : List TermD} {x : TermD} {v : Value} (h : TermQ H b F T x v G) : v = .agg (iv .u8 (nmL (nameT x T))).toArray ∧ H.length ≤ G.length ∧ ∃ F', Tbl G b F' (addT x T) ∧ (∀ j, j < H.length → j ∉ F → hget G j = hget H j ∧ j ∉ F') ∧ ∀ j ∈ F', j ∈ F ∨ H.length ≤ j := by
 obtain ⟨h0, h1, h2, F', h3, h4⟩ := h
 exact ⟨h0, h1, F', h3, fun j hj hn => ⟨h2 j hj hn, fun hm => by rcases h4 j hm with e | e; exact hn e; omega⟩, h4⟩
def aK : TermD := ⟨1, ⟨#[107]⟩, []⟩
def aX : TermD := ⟨1, ⟨#[120]⟩, []⟩
def aB : TermD := ⟨6, ⟨#[116, 101, 120, 116]⟩, [nmL (0 : Nat), zl 32, nmL (1 : Nat)]⟩
theorem wf_atom {s : ByteArray} (hs : s.size ≤ 100000000) : TermD.Wf ⟨1, s, []⟩ := wf_0 (.inl rfl) hs
theorem aK_wf : aK.Wf := wf_atom (by show 1 ≤ _; omega)
theorem aX_wf : aX.Wf := wf_atom (by show 1 ≤ _; omega)
theorem zl_by32 : By (zl 32) := fun x hx => by
 rw [List.eq_of_mem_replicate hx]; omega
theorem aB_wf : aB.Wf := wf_seal (by show 4 ≤ _; omega) rfl (nmL_by _) rfl zl_by32 (fun z hz => by rw [List.mem_singleton.1 hz]; exact ⟨rfl, nmL_by _⟩) (by simp)
theorem aKX : aX ∉ [aK] := by
 intro h
 have := congrArg TermD.text (List.mem_singleton.1 h)
 exact absurd this (by decide)
theorem aBn : aB ∉ [aK, aX] := by
 intro h
 rcases List.mem_cons.1 h with h | h
 ·have := congrArg TermD.kind h
  exact absurd this (by decide)
 ·have := congrArg TermD.kind (List.mem_singleton.1 h)
  exact absurd this (by decide)
theorem ad1 : addT aK [] = [aK] ∧ nameT aK [] = 0 := add_new aK_wf (by simp) (by simp)
theorem ad2 : addT aX [aK] = [aK, aX] ∧ nameT aX [aK] = 1 := add_new aX_wf (by simp [aK_wf]) aKX
theorem ad3 : addT aB [aK, aX] = [aK, aX, aB] ∧ nameT aB [aK, aX] = 2 := add_new aB_wf (fun y hy => by
 rcases List.mem_cons.1 hy with rfl | hy
 ·exact aK_wf
 ·rw [List.mem_singleton.1 hy]; exact aX_wf) aBn
theorem find2 : findT [aK, aX, aB] (nmL ((2 : Nat) : Int)) = some aB := by rfl
def FolV (n : Nat) (kn : List Bool) (G : AH) (v : Value) : Prop := ∃ kx kb, v = .func (.func 37) #[] #[.pointer (some ⟨kx, 0, none⟩)] ∧ hget G kx = some ⟨[.slice (some ⟨kb, 0, none⟩) n n], 75, none⟩ ∧ hget G kb = some ⟨bsC kn, 4, some 1⟩
theorem FolV.low {n : Nat} {kn : List Bool} {G1 G2 : AH} {v : Value} (h : FolV n kn G1 v) (hl : ∀ j, j < G1.length → hget G2 j = hget G1 j) : FolV n kn G2 v := by
 obtain ⟨kx, kb, e, h3, h4⟩ := h
 exact ⟨kx, kb, e, (hl kx (hget_lt h3)).trans h3, (hl kb (hget_lt h4)).trans h4⟩
theorem row_low {G1 G2 : AH} {v : Value} {n : Nat} {B : Blk} (h : ∃ rr, v = .slice (some ⟨rr, 0, none⟩) n n ∧ hget G1 rr = some B) (hl : ∀ j, j < G1.length → hget G2 j = hget G1 j) : ∃ rr, v = .slice (some ⟨rr, 0, none⟩) n n ∧ hget G2 rr = some B := by
 obtain ⟨rr, e, h3⟩ := h
 exact ⟨rr, e, (hl rr (hget_lt h3)).trans h3⟩
theorem tlenT_rc {γ : Nat → Option Nat} {H : AH} {b : Nat} {F : List Nat} {T : List TermD} (h : Tbl H b F T) : AC Tryd.prog H.length γ 12 #[.pointer (some ⟨b, 0, none⟩)] H (fun v' _ => v' = .int .i64 (T.length : Nat)) := by
 obtain ⟨mb, tv, Ft, Fk, L, rfl, hL, rfl, hFl⟩ := h
 obtain ⟨hl, hnt, hcs⟩ := hL.tvlen
 rw [List.length_map]
 exact tlen_rc hL.hb hl hnt hcs
theorem aT_wf : TWf [aK, aX, aB] := ⟨fun y hy => by
 simp only [List.mem_cons, List.not_mem_nil, or_false] at hy
 rcases hy with rfl | rfl | rfl
 ·exact aK_wf
 ·exact aX_wf
 ·exact aB_wf, by simp, fun y hy h4 => by
 simp only [List.mem_cons, List.not_mem_nil, or_false] at hy
 rcases hy with rfl | rfl | rfl <;> exact absurd h4 (by decide)⟩
theorem al29 : fol (folL [aK, aX, aB] [nmL ((2 : Nat) : Int), nmL ((0 : Nat) : Int)]) (nmL ((1 : Nat) : Int)) = true := by decide +kernel
theorem al37 : fol (folL [aK, aX, aB] [nmL ((2 : Nat) : Int)]) (nmL ((1 : Nat) : Int)) = false := by decide +kernel
def alJD : List Nat := [35, 36, 37, 38, 39, 40, 41, 42, 43, 44, 45, 46, 47, 48, 49, 50, 51, 52, 53, 54, 55, 56, 57, 58, 59, 60, 61, 62, 63, 64, 65, 66, 67, 68, 69, 70, 71, 72, 73, 74, 75, 76, 77, 78, 79, 0]
def alJP : List (List Nat) := [[], [0], [1], [1, 2], [1, 3], [4], [5], [5, 6], [5, 7], [5, 8], [9], [10], [10, 11], [10, 12], [10], [10, 13, 14], [10, 15], [16], [17], [17], [17, 18, 19], [17, 20], [21], [22], [22], [22], [22, 24, 25], [22, 23, 26], [22], [22, 27, 28], [22, 29], [30], [31], [31], [31, 33], [31, 32, 34], [31], [31, 35, 36], [31, 37], [31, 38], [39], [40], [40, 41], [40, 42], [40, 43], [44]]
def alJV (b : Nat) (kv q0 : Value) (N0 N1 N2 : List Int) (G : AH) (i : Nat) (v : Value) : Prop := match i with
 | 0 => v = .bool true
 | 1 => v = .bool true
 | 2 => v = .string ⟨#[116, 101, 120, 116]⟩
 | 3 => v = .bool true
 | 4 => v = .bool true
 | 5 => v = .bool true
 | 6 => v = kv
 | 7 => v = .int .i64 1
 | 8 => v = .bool true
 | 9 => v = .bool true
 | 10 => v = .bool true
 | 11 => v = kv
 | 12 => v = q0
 | 13 => v = .agg (iv .u8 N1).toArray
 | 14 => v = .agg (iv .u8 N1).toArray
 | 15 => v = .bool true
 | 16 => v = .bool true
 | 17 => v = .bool true
 | 18 => v = .agg (iv .u8 N0).toArray
 | 19 => v = .agg (iv .u8 N1).toArray
 | 20 => v = .bool true
 | 21 => v = .bool true
 | 22 => v = .bool true
 | 23 => v = .pointer (some ⟨b, 0, none⟩)
 | 24 => v = .agg (iv .u8 N2).toArray
 | 25 => v = .agg (iv .u8 N0).toArray
 | 26 => ∃ rr, v = .slice (some ⟨rr, 0, none⟩) 2 2 ∧ hget G rr = some ⟨iv .u8 N2 ++ iv .u8 N0, 28, some 32⟩
 | 27 => FolV 3 (folL [aK, aX, aB] [N2, N0]) G v
 | 28 => v = .agg (iv .u8 N1).toArray
 | 29 => v = .bool true
 | 30 => v = .bool true
 | 31 => v = .bool true
 | 32 => v = .pointer (some ⟨b, 0, none⟩)
 | 33 => v = .agg (iv .u8 N2).toArray
 | 34 => ∃ rr, v = .slice (some ⟨rr, 0, none⟩) 1 1 ∧ hget G rr = some ⟨iv .u8 N2, 28, some 32⟩
 | 35 => FolV 3 (folL [aK, aX, aB] [N2]) G v
 | 36 => v = .agg (iv .u8 N1).toArray
 | 37 => v = .bool false
 | 38 => v = .bool true
 | 39 => v = .bool true
 | 40 => v = .bool true
 | 41 => v = .pointer (some ⟨b, 0, none⟩)
 | 42 => v = .int .i64 3
 | 43 => v = .bool true
 | 44 => v = .bool true
 | 45 => v = .bool true
 | _ => True
attribute [local simp] wb_bool wb_undef with_lit XL_nil XL_cons XLc_val XLc_call step1_eq stepW_t stepW_f stepC_n stepC_s stepX_s stepX_n stepN_s calleeX xrecv oneV xop_eq xopR_s xopR_n wantedA_eq wantedG_n wantedG_s plain1_int plain1_bool plain1_string bits_i64 bits_u64 bits_u32 bits_u16 bits_u8 xeqA xagg xcmp xarr allK_iv num_iv calleeOf xread xeff xbin xint xnil xun xstr xload xconv xpart xfield xfieldAddr xindexAddr xindex bnd asInt? xslice xlen xmin xmax xbuild xfill xappend xapp2 xappstr xappmk xcap xcopy xcells eval_tmp eval_const put_at put_none fr0_at cells_agg cells_int cells_bool cells_string cells_ptr cells_slice notTuple tab iv_all hget_app hget_app0 hget_cons0 hget_cons set_app set_app0 setR setR_one QL_nil QL_cons QLc_val stepQ_t stepQ_f stepQC_n stepQC_s stepQX_s SL_nil SL_cons SLc_val stepS_t stepS_f ltT ltF leT leF eqT eqF ltTn ltFn leTn leFn eqTn eqFn beqT beqF bneT bneF wi64 wu64 wu32 wu16 wu8 tmodP tdivP hgetL hgetNe hgetEq setL nums_def nums_len Nat.succ_le_of_lt List.getElem?_cons_zero List.getElem?_cons_succ Option.getD_some Int.toNat_add Int.toNat_mul agM okM agB agI agS agP agL agA okB okI okS okP okSl okA
theorem alive_rc {γ : Nat → Option Nat} {H : AH} (hpw : Pw γ H) : AC Tryd.prog H.length γ 7 #[] H (fun v' _ => v' = .bool true) := by
 refine ac_of_aw Tryd.func7 rfl Tryd.ntmps7 Tryd.results7 (by simp) ?_
 refine aw_seq ?_
 (refine aw_ops (by kernel_rfl) (fun K hK => ?_); simp (disch := first | omega | (simp only [lnS]; try omega)) [-getElem?_pos, -getElem?_neg]; refine hK _ _ ?_; clear hK K)
 refine aw_seq ?_
 refine aw_ops (by kernel_rfl) (fun K hK => ?_)
 simp (disch := first | omega | (simp only [lnS]; try omega)) [-getElem?_pos, -getElem?_neg]
 refine ⟨by kernel_rfl, AC.mono (tnew_ac (Nat.le_refl _)) ?_⟩
 rintro _ G1 ⟨rfl, lw1, hL1⟩
 have hl1 : H.length + 1 < G1.length := hget_lt hL1.hb
 have t1 : Tbl G1 (H.length + 1) [H.length + 1, H.length] [] := ⟨H.length, .slice none 0 0, [], [], [], rfl, hL1, rfl, fun j hj => by simp only [List.mem_cons, List.not_mem_nil, or_false] at hj; omega⟩
 obtain ⟨b, hb⟩ : ∃ b, b = H.length + 1 := ⟨_, rfl⟩
 rw [← hb] at t1
 obtain ⟨F1, hF1⟩ : ∃ F1, F1 = [b, H.length] := ⟨_, rfl⟩
 rw [← hF1] at t1
 have n1 : ∀ j ∈ F1, H.length ≤ j := fun j hj => by rw [hF1] at hj; simp only [List.mem_cons, List.not_mem_nil, or_false] at hj; omega
 clear hF1 hL1
 rw [← hb]
 try simp (disch := first | omega | (simp only [lnS]; try omega)) [-getElem?_pos, -getElem?_neg]
 refine hK _ _ ?_; clear hK K
 have d1 := draw_ac (nro := H.length) (hpw.low lw1) t1 n1 lw1.2 (s := ⟨#[107]⟩) (by show 1 ≤ _; omega) (by simp)
 refine aw_seq ?_
 refine aw_ops (by kernel_rfl) (fun K hK => ?_)
 simp (disch := first | omega | (simp only [lnS]; try omega)) [-getElem?_pos, -getElem?_neg]
 refine ⟨by kernel_rfl, AC.mono d1 ?_⟩
 intro v2 G2 q2
 obtain ⟨rfl, hl2, F2, t2, k2, m2⟩ := q2.keep
 have e2 : addT ⟨1, ⟨#[107]⟩, []⟩ [] = [aK] := ad1.1
 have e2n : nameT ⟨1, ⟨#[107]⟩, []⟩ [] = 0 := ad1.2
 rw [e2] at t2
 rw [e2n]
 obtain ⟨N0, hN0⟩ : ∃ N0 : List Int, N0 = nmL ((0 : Nat) : Int) := ⟨_, rfl⟩
 rw [← hN0]
 have lw2 : Low H.length H G2 := ⟨fun j hj => ((k2 j (by have := lw1.2; omega) (fun e => by have := n1 j e; omega)).1).trans (lw1.1 j hj), by have := lw1.2; omega⟩
 have n2 : ∀ j ∈ F2, H.length ≤ j := fun j hj => (m2 j hj).elim (n1 j) (fun e => by have := lw1.2; omega)
 have d2 := draw_ac (nro := H.length) (hpw.low lw2) t2 n2 lw2.2 (s := ⟨#[120]⟩) (by show 1 ≤ _; omega) (by simp)
 try simp (disch := first | omega | (simp only [lnS]; try omega)) [-getElem?_pos, -getElem?_neg]
 refine ⟨by kernel_rfl, AC.mono d2 ?_⟩
 intro v3 G3 q3
 obtain ⟨rfl, hl3, F3, t3, k3, m3⟩ := q3.keep
 have e3 : addT ⟨1, ⟨#[120]⟩, []⟩ [aK] = [aK, aX] := ad2.1
 have e3n : nameT ⟨1, ⟨#[120]⟩, []⟩ [aK] = 1 := ad2.2
 rw [e3] at t3
 rw [e3n]
 obtain ⟨N1, hN1⟩ : ∃ N1 : List Int, N1 = nmL ((1 : Nat) : Int) := ⟨_, rfl⟩
 rw [← hN1]
 have lw3 : Low H.length H G3 := ⟨fun j hj => ((k3 j (by have := lw2.2; omega) (fun e => by have := n2 j e; omega)).1).trans (lw2.1 j hj), by have := lw2.2; omega⟩
 have n3 : ∀ j ∈ F3, H.length ≤ j := fun j hj => (m3 j hj).elim (n2 j) (fun e => by have := lw2.2; omega)
 clear q2 q3 k2 k3 m2 m3 t1 t2 d1 d2 lw1 lw2 n1 n2
 have l0 : N0.length = 32 := by rw [hN0]; rfl
 have l1 : N1.length = 32 := by rw [hN1]; rfl
 have b0 : By N0 := by rw [hN0]; exact nmL_by _
 have b1 : By N1 := by rw [hN1]; exact nmL_by _
 have T0 : (iv .u8 N0).take 32 = iv .u8 N0 := List.take_of_length_le (by simp [l0])
 have T1 : (iv .u8 N1).take 32 = iv .u8 N1 := List.take_of_length_le (by simp [l1])
 have S0 : setR (iv .u8 (zl 32)) 0 (iv .u8 N0) = iv .u8 N0 := setR_all _ _ (by simp [l0])
 have S1 : setR (iv .u8 (zl 32)) 0 (iv .u8 N1) = iv .u8 N1 := setR_all _ _ (by simp [l1])
 have hng3 := lw3.2
 try simp (disch := first | omega | (simp only [lnS]; try omega)) [-getElem?_pos, -getElem?_neg, l0, l1, T0, T1, S0, S1, hng3]
 refine hK _ _ ?_; clear hK K
 obtain ⟨G4, hG4⟩ : ∃ G4 : AH, G4 = G3 ++ [some ⟨iv .u8 N0, 28, none⟩, some ⟨iv .u8 N1, 28, none⟩] := ⟨_, rfl⟩
 have lw34 : Low G3.length G3 G4 := by rw [hG4]; exact ⟨fun j hj => hget_left hj, by simp⟩
 have g40 : hget G4 G3.length = some ⟨iv .u8 N0, 28, none⟩ := by rw [hG4, hget_app0]; rfl
 have g41 : hget G4 (G3.length + 1) = some ⟨iv .u8 N1, 28, none⟩ := by rw [hG4, hget_app]; rfl
 rw [← hG4]
 clear hG4
 have t4 : Tbl G4 b F3 [aK, aX] := t3.low (fun j hj => lw34.1 j (t3.bound j hj)) lw34.2
 have c40 : G3.length ∉ F3 := fun e => by have := t3.bound _ e; omega
 have c41 : G3.length + 1 ∉ F3 := fun e => by have := t3.bound _ e; omega
 have lw4 : Low H.length H G4 := ⟨fun j hj => (lw34.1 j (by omega)).trans (lw3.1 j hj), by have := lw34.2; omega⟩
 obtain ⟨p, hp⟩ : ∃ p, p = G3.length := ⟨_, rfl⟩
 rw [← hp] at g40 g41 c40 c41 ⊢
 have hpl : H.length ≤ p := by omega
 clear t3 lw3 lw34 hng3 hp
 have lg0 := hget_lt g40
 have lg1 := hget_lt g41
 have hsr1 : setR (List.map (fun j => (iv .u8 (zl 32))[j % 32]?.getD undef) (List.range 32)) 0 (iv .u8 N1) = iv .u8 N1 := setR_all _ _ (by simp [l1])
 obtain ⟨R5, hR5⟩ : ∃ R5 : Option Blk, R5 = some ⟨iv .u8 N1, 28, some 32⟩ := ⟨_, rfl⟩
 have d5 := seal_ac (nro := H.length) (γ := γ) (H := G4 ++ [R5]) (hpw.low ⟨fun j hj => (hget_left (by omega)).trans (lw4.1 j hj), by simp; omega⟩) (t4.push [R5]) n3 (by simp; omega) (k := N0) (y := zl 32) l0 rfl (s := ⟨#[116, 101, 120, 116]⟩) (ks := [N1]) (by rw [hN0, hN1]; exact aB_wf) (v := .slice (some ⟨G4.length, 0, none⟩) 1 1) (keys1 l1 (by rw [hget_app0, hR5]; rfl)) (by simp)
 refine aw_seq ?_
 refine aw_ops (by kernel_rfl) (fun K hK => ?_)
 simp (disch := first | omega | (simp only [lnS]; try omega)) [-getElem?_pos, -getElem?_neg, g40, g41, lg0, lg1, T0, T1, hsr1, nt_aggG]
 rw [← hR5]
 refine ⟨by kernel_rfl, AC.mono d5 ?_⟩
 rintro v6 G6 ⟨rfl, q6⟩
 obtain ⟨_, hl6, F6, t6, k6, m6⟩ := q6.keep
 have eB : (⟨6, ⟨#[116, 101, 120, 116]⟩, [N0, zl 32, N1]⟩ : TermD) = aB := by rw [hN0, hN1]; rfl
 rw [eB] at t6 ⊢
 rw [ad3.1] at t6
 rw [ad3.2]
 obtain ⟨N2, hN2⟩ : ∃ N2 : List Int, N2 = nmL ((2 : Nat) : Int) := ⟨_, rfl⟩
 rw [← hN2]
 have l2 : N2.length = 32 := by rw [hN2]; rfl
 have b2 : By N2 := by rw [hN2]; exact nmL_by _
 have T2 : (iv .u8 N2).take 32 = iv .u8 N2 := List.take_of_length_le (by simp [l2])
 have S2 : setR (iv .u8 (zl 32)) 0 (iv .u8 N2) = iv .u8 N2 := setR_all _ _ (by simp [l2])
 have hl45 : (G4 ++ [R5]).length = G4.length + 1 := by simp
 rw [hl45] at hl6 k6 m6
 have lw6 : Low H.length H G6 := ⟨fun j hj => ((k6 j (by omega) (fun e => by have := n3 j e; omega)).1).trans ((hget_left (by omega)).trans (lw4.1 j hj)), by omega⟩
 have n6 : ∀ j ∈ F6, H.length ≤ j := fun j hj => (m6 j hj).elim (n3 j) (fun e => by omega)
 have g60 : hget G6 p = some ⟨iv .u8 N0, 28, none⟩ := ((k6 p (by omega) c40).1).trans ((hget_left lg0).trans g40)
 have g61 : hget G6 (p + 1) = some ⟨iv .u8 N1, 28, none⟩ := ((k6 (p + 1) (by omega) c41).1).trans ((hget_left lg1).trans g41)
 have c60 := (k6 p (by omega) c40).2
 have c61 := (k6 (p + 1) (by omega) c41).2
 try simp (disch := first | omega | (simp only [lnS]; try omega)) [-getElem?_pos, -getElem?_neg]
 refine hK _ _ ?_; clear hK K
 clear d5 k6 m6 n3 c40 c41 q6 t4 g40 g41 lg0 lg1 lw4 hR5 hsr1
 have hng6 := lw6.2
 refine aw_seq ?_
 refine aw_ops (by kernel_rfl) (fun K hK => ?_)
 simp (disch := first | omega | (simp only [lnS]; try omega)) [-getElem?_pos, -getElem?_neg]
 refine ⟨by kernel_rfl, ac_of_rc (key_rc l2 b2) (by rw [pv_tup2, p2_bool, show plain2 (.agg (iv .u8 N2).toArray) = true from iv_plain _ _]; rfl) ?_⟩
 try simp (disch := first | omega | (simp only [lnS]; try omega)) [-getElem?_pos, -getElem?_neg, l2, T2, S2, hng6, nt_aggG]
 refine hK _ _ ?_; clear hK K
 obtain ⟨G7, hG7⟩ : ∃ G7 : AH, G7 = G6 ++ [some ⟨iv .u8 N2, 28, none⟩] := ⟨_, rfl⟩
 have lw67 : Low G6.length G6 G7 := by rw [hG7]; exact ⟨fun j hj => hget_left hj, by simp⟩
 have g72 : hget G7 G6.length = some ⟨iv .u8 N2, 28, none⟩ := by rw [hG7, hget_app0]; rfl
 have hl7 : G7.length = G6.length + 1 := by rw [hG7]; simp
 rw [← hG7]
 clear hG7
 have t7 : Tbl G7 b F6 [aK, aX, aB] := t6.low (fun j hj => lw67.1 j (t6.bound j hj)) lw67.2
 have c72 : G6.length ∉ F6 := fun e => by have := t6.bound _ e; omega
 have lw7 : Low H.length H G7 := ⟨fun j hj => (lw67.1 j (by omega)).trans (lw6.1 j hj), by omega⟩
 have g70 := (lw67.1 p (hget_lt g60)).trans g60
 have g71 := (lw67.1 (p + 1) (hget_lt g61)).trans g61
 obtain ⟨r, hr⟩ : ∃ r, r = G6.length := ⟨_, rfl⟩
 rw [← hr] at g72 c72 ⊢
 have hrl : H.length ≤ r := by omega
 clear t6 lw6 lw67 hng6 hr g60 g61 hl7
 have lg0 := hget_lt g70
 have lg1 := hget_lt g71
 have lg2 := hget_lt g72
 have hng7 := lw7.2
 have hop : openT [aK, aX, aB] N0 (zl 32) (strOfNums N2) = some (⟨#[116, 101, 120, 116]⟩, [N1]) := by
  unfold openT
  rw [sn_size, if_pos l2, nums_of _ b2, hN2, find2]
  dsimp only
  rw [hN0, hN1]
  rfl
 have d8 := open_ac (nro := H.length) (γ := γ) t7 hng7 (k := N0) (y := zl 32) l0 rfl (s := strOfNums N2) (by rw [sn_size, l2]; omega)
 refine aw_seq ?_
 refine aw_ops (by kernel_rfl) (fun K hK => ?_)
 simp (disch := first | omega | (simp only [lnS]; try omega)) [-getElem?_pos, -getElem?_neg, g70, lg0, T0]
 refine ⟨by kernel_rfl, AC.mono d8 ?_⟩
 rintro v8 G8 ⟨lw8, q8⟩
 rw [hop] at q8
 obtain ⟨kv, rfl, ho⟩ := q8
 have hkv := ho.nt
 try simp (disch := first | omega | (simp only [lnS]; try omega)) [-getElem?_pos, -getElem?_neg, -notTuple, hkv.1, hkv.2, nt_strG, nt_boolG]
 refine hK _ _ ?_; clear hK K
 have l8 := lw8.2
 have t8 : Tbl G8 b F6 [aK, aX, aB] := t7.low (fun j hj => lw8.1 j (t7.bound j hj)) lw8.2
 have g80 := (lw8.1 p lg0).trans g70
 have g81 := (lw8.1 (p + 1) lg1).trans g71
 have g82 := (lw8.1 r lg2).trans g72
 have lw8 : Low H.length H G8 := ⟨fun j hj => (lw8.1 j (by omega)).trans (lw7.1 j hj), by omega⟩
 have hK8 : KsV G8 kv [N1] := own_ksv ho (fun z hz => by rw [List.mem_singleton.1 hz]; exact l1)
 have hacc := hK8.acc (fun z hz => by rw [List.mem_singleton.1 hz]; exact l1)
 have hklen : xlen Tryd.prog 33 kv = some (.int .i64 1) := hacc.len
 obtain ⟨q0, y0, t1', t2, t3', t4', t5⟩ := hacc.at_ 0 (by simp)
 have t1 := t1'
 have t2 : xindexAddr Tryd.prog 33 kv (.int .i64 0) = some q0 := t2
 have t4' : y0 = .agg (iv .u8 N1).toArray := t4'
 subst t4'
 have hne : ¬ N0 = N1 := by rw [hN0, hN1]; decide
 have hneb : (N0 == N1) = false := by rw [hN0, hN1]; decide
 have hv29 : fol (folL [aK, aX, aB] [N2, N0]) N1 = true := by rw [hN0, hN1, hN2]; exact al29
 have hv37 : fol (folL [aK, aX, aB] [N2]) N1 = false := by rw [hN1, hN2]; exact al37
 have hTW := aT_wf
 have hks2 : ∀ k ∈ [N2, N0], k.length = 32 := fun k hk => by
  simp only [List.mem_cons, List.not_mem_nil, or_false] at hk
  rcases hk with rfl | rfl
  ·exact l2
  ·exact l0
 have hkb2 : ∀ k ∈ [N2, N0], By k := fun k hk => by
  simp only [List.mem_cons, List.not_mem_nil, or_false] at hk
  rcases hk with rfl | rfl
  ·exact b2
  ·exact b0
 have hks1 : ∀ k ∈ [N2], k.length = 32 := fun k hk => by rw [List.mem_singleton.1 hk]; exact l2
 have hkb1 : ∀ k ∈ [N2], By k := fun k hk => by rw [List.mem_singleton.1 hk]; exact b2
 have hrow2 : setR (setR (List.map (fun j => (iv .u8 (zl 32))[j % 32]?.getD undef) (List.range 64)) 0 (iv .u8 N2)) 32 (iv .u8 N0) = iv .u8 N2 ++ iv .u8 N0 := row2 (by simp) (by simp [l2]) (by simp [l0])
 have hrow1 : setR (List.map (fun j => (iv .u8 (zl 32))[j % 32]?.getD undef) (List.range 32)) 0 (iv .u8 N2) = iv .u8 N2 := setR_all _ _ (by simp [l2])
 have hl8 := lw8.2
 clear d8 t7 g70 g71 g72 lg0 lg1 lg2 lw7 hng7 hop
 refine aw_seq ?_
 refine name_aw (fun β hβ => ?_)
 have e1 : β 1 = .pointer (some ⟨b, 0, none⟩) := by rw [hβ]; (first | (simp [put_at, put_none, fr0_at]; done) | rfl)
 have e2' : β 2 = .pointer (some ⟨p, 0, none⟩) := by rw [hβ]; (first | (simp [put_at, put_none, fr0_at]; done) | rfl)
 have e3 : β 3 = .pointer (some ⟨p + 1, 0, none⟩) := by rw [hβ]; (first | (simp [put_at, put_none, fr0_at]; done) | rfl)
 have e5 : β 5 = .pointer (some ⟨r, 0, none⟩) := by rw [hβ]; (first | (simp [put_at, put_none, fr0_at]; done) | rfl)
 have e7 : β 7 = .string ⟨#[116, 101, 120, 116]⟩ := by rw [hβ]; (first | (simp [put_at, put_none, fr0_at]; done) | rfl)
 have e8 : β 8 = kv := by rw [hβ]; (first | (simp [put_at, put_none, fr0_at]; done) | rfl)
 have e9 : β 9 = .bool true := by rw [hβ]; (first | (simp [put_at, put_none, fr0_at]; done) | rfl)
 clear hβ
 have hND : alJD.Nodup := by decide
 have hST : ∀ (G1 G2 : AH) (i : Nat) (v : Value), G1.length ≤ G2.length → (∀ j, j < G1.length → hget G2 j = hget G1 j) → alJV b kv q0 N0 N1 N2 G1 i v → alJV b kv q0 N0 N1 N2 G2 i v := fun G1 G2 i v h1 h2 h => by
  unfold alJV at h ⊢
  split at h <;> first | exact h | exact row_low h h2 | exact h.low h2
 refine aw_inv alJP (IJ alJD (alJV b kv q0 N0 N1 N2) β G8) (by kernel_rfl) (by kernel_rfl) (by kernel_rfl) (IJ.start rfl) ?_ ?_
 ·intro i s α G k hJ hi0 hsi hd hc hcont
  have j9 := (hJ.lo 9 (by decide)).trans e9
  have j7 := (hJ.lo 7 (by decide)).trans e7
  have j8 := (hJ.lo 8 (by decide)).trans e8
  have j3 := (hJ.lo 3 (by decide)).trans e3
  have j2 := (hJ.lo 2 (by decide)).trans e2'
  have j5 := (hJ.lo 5 (by decide)).trans e5
  have j1 := (hJ.lo 1 (by decide)).trans e1
  have g0 := (hJ.lw.2 p (hget_lt g80)).trans g80
  have g1 := (hJ.lw.2 (p + 1) (hget_lt g81)).trans g81
  have g2 := (hJ.lw.2 r (hget_lt g82)).trans g82
  have lg0 := hget_lt g0
  have lg1 := hget_lt g1
  have lg2 := hget_lt g2
  have lwG : Low H.length H G := ⟨fun j hj => (hJ.lw.2 j (by omega)).trans (lw8.1 j hj), by have := hJ.lw.1; omega⟩
  have tG : Tbl G b F6 [aK, aX, aB] := t8.low (fun j hj => hJ.lw.2 j (t8.bound j hj)) hJ.lw.1
  have u5 := t5 G ⟨hJ.lw.2, hJ.lw.1⟩
  have hi : i = 0 ∨ i = 1 ∨ i = 2 ∨ i = 3 ∨ i = 4 ∨ i = 5 ∨ i = 6 ∨ i = 7 ∨ i = 8 ∨ i = 9 ∨ i = 10 ∨ i = 11 ∨ i = 12 ∨ i = 13 ∨ i = 14 ∨ i = 15 ∨ i = 16 ∨ i = 17 ∨ i = 18 ∨ i = 19 ∨ i = 20 ∨ i = 21 ∨ i = 22 ∨ i = 23 ∨ i = 24 ∨ i = 25 ∨ i = 26 ∨ i = 27 ∨ i = 28 ∨ i = 29 ∨ i = 30 ∨ i = 31 ∨ i = 32 ∨ i = 33 ∨ i = 34 ∨ i = 35 ∨ i = 36 ∨ i = 37 ∨ i = 38 ∨ i = 39 ∨ i = 40 ∨ i = 41 ∨ i = 42 ∨ i = 43 ∨ i = 44 ∨ i = 45 := by have hi0 : i < 46 := hi0; omega
  rcases hi with rfl | rfl | rfl | rfl | rfl | rfl | rfl | rfl | rfl | rfl | rfl | rfl | rfl | rfl | rfl | rfl | rfl | rfl | rfl | rfl | rfl | rfl | rfl | rfl | rfl | rfl | rfl | rfl | rfl | rfl | rfl | rfl | rfl | rfl | rfl | rfl | rfl | rfl | rfl | rfl | rfl | rfl | rfl | rfl | rfl | rfl
  ·unfold XOm
   simp only [List.getElem?_cons_succ, List.getElem?_cons_zero]
   simp (disch := first | omega | (simp only [lnS]; try omega)) [-getElem?_pos, -getElem?_neg, -notTuple, hkv.1, nt_strG, nt_boolG, nt_aggG, nt_intG, nt_ptrG, j9, XO_s, XO_z, XLk_val, XLk_call, headsO, behind, List.length_cons, List.length_nil, List.mem_cons, List.not_mem_nil, or_false, forall_eq_or_imp, forall_eq, List.contains_cons, List.contains_nil]
   exact hcont _ _ (hJ.put hND hST rfl (Nat.le_refl _) (fun _ _ => rfl) rfl)
  ·have f0 : α 35 = .bool true := hJ.val 0 35 rfl (hd 0 (by decide))
   unfold XOm
   simp only [List.getElem?_cons_succ, List.getElem?_cons_zero]
   simp (disch := first | omega | (simp only [lnS]; try omega)) [-getElem?_pos, -getElem?_neg, -notTuple, hkv.1, nt_strG, nt_boolG, nt_aggG, nt_intG, nt_ptrG, f0, XO_s, XO_z, XLk_val, XLk_call, headsO, behind, List.length_cons, List.length_nil, List.mem_cons, List.not_mem_nil, or_false, forall_eq_or_imp, forall_eq, List.contains_cons, List.contains_nil]
   exact hcont _ _ (hJ.put hND hST rfl (Nat.le_refl _) (fun _ _ => rfl) rfl)
  ·have f1 : α 36 = .bool true := hJ.val 1 36 rfl (hd 1 (by decide))
   unfold XOm
   simp only [List.getElem?_cons_succ, List.getElem?_cons_zero]
   simp (disch := first | omega | (simp only [lnS]; try omega)) [-getElem?_pos, -getElem?_neg, -notTuple, hkv.1, nt_strG, nt_boolG, nt_aggG, nt_intG, nt_ptrG, j7, f1, XO_s, XO_z, XLk_val, XLk_call, headsO, behind, List.length_cons, List.length_nil, List.mem_cons, List.not_mem_nil, or_false, forall_eq_or_imp, forall_eq, List.contains_cons, List.contains_nil]
   exact hcont _ _ (hJ.put hND hST rfl (Nat.le_refl _) (fun _ _ => rfl) rfl)
  ·have f1 : α 36 = .bool true := hJ.val 1 36 rfl (hd 1 (by decide))
   have f2 : α 37 = .string ⟨#[116, 101, 120, 116]⟩ := hJ.val 2 37 rfl (hd 2 (by decide))
   unfold XOm
   simp only [List.getElem?_cons_succ, List.getElem?_cons_zero]
   simp (disch := first | omega | (simp only [lnS]; try omega)) [-getElem?_pos, -getElem?_neg, -notTuple, hkv.1, nt_strG, nt_boolG, nt_aggG, nt_intG, nt_ptrG, f1, f2, XO_s, XO_z, XLk_val, XLk_call, headsO, behind, List.length_cons, List.length_nil, List.mem_cons, List.not_mem_nil, or_false, forall_eq_or_imp, forall_eq, List.contains_cons, List.contains_nil]
   exact hcont _ _ (hJ.put hND hST rfl (Nat.le_refl _) (fun _ _ => rfl) rfl)
  ·have f1 : α 36 = .bool true := hJ.val 1 36 rfl (hd 1 (by decide))
   have f3 : α 38 = .bool true := hJ.val 3 38 rfl (hd 3 (by decide))
   unfold XOm
   simp only [List.getElem?_cons_succ, List.getElem?_cons_zero]
   simp (disch := first | omega | (simp only [lnS]; try omega)) [-getElem?_pos, -getElem?_neg, -notTuple, hkv.1, nt_strG, nt_boolG, nt_aggG, nt_intG, nt_ptrG, f1, f3, XO_s, XO_z, XLk_val, XLk_call, headsO, behind, List.length_cons, List.length_nil, List.mem_cons, List.not_mem_nil, or_false, forall_eq_or_imp, forall_eq, List.contains_cons, List.contains_nil]
   exact hcont _ _ (hJ.put hND hST rfl (Nat.le_refl _) (fun _ _ => rfl) rfl)
  ·have f4 : α 39 = .bool true := hJ.val 4 39 rfl (hd 4 (by decide))
   unfold XOm
   simp only [List.getElem?_cons_succ, List.getElem?_cons_zero]
   simp (disch := first | omega | (simp only [lnS]; try omega)) [-getElem?_pos, -getElem?_neg, -notTuple, hkv.1, nt_strG, nt_boolG, nt_aggG, nt_intG, nt_ptrG, f4, XO_s, XO_z, XLk_val, XLk_call, headsO, behind, List.length_cons, List.length_nil, List.mem_cons, List.not_mem_nil, or_false, forall_eq_or_imp, forall_eq, List.contains_cons, List.contains_nil]
   exact hcont _ _ (hJ.put hND hST rfl (Nat.le_refl _) (fun _ _ => rfl) rfl)
  ·have f5 : α 40 = .bool true := hJ.val 5 40 rfl (hd 5 (by decide))
   unfold XOm
   simp only [List.getElem?_cons_succ, List.getElem?_cons_zero]
   simp (disch := first | omega | (simp only [lnS]; try omega)) [-getElem?_pos, -getElem?_neg, -notTuple, hkv.1, nt_strG, nt_boolG, nt_aggG, nt_intG, nt_ptrG, j8, f5, XO_s, XO_z, XLk_val, XLk_call, headsO, behind, List.length_cons, List.length_nil, List.mem_cons, List.not_mem_nil, or_false, forall_eq_or_imp, forall_eq, List.contains_cons, List.contains_nil]
   exact hcont _ _ (hJ.put hND hST rfl (Nat.le_refl _) (fun _ _ => rfl) rfl)
  ·have f5 : α 40 = .bool true := hJ.val 5 40 rfl (hd 5 (by decide))
   have f6 : α 41 = kv := hJ.val 6 41 rfl (hd 6 (by decide))
   unfold XOm
   simp only [List.getElem?_cons_succ, List.getElem?_cons_zero]
   simp (disch := first | omega | (simp only [lnS]; try omega)) [-getElem?_pos, -getElem?_neg, -notTuple, hkv.1, nt_strG, nt_boolG, nt_aggG, nt_intG, nt_ptrG, -xlen, hklen, f5, f6, XO_s, XO_z, XLk_val, XLk_call, headsO, behind, List.length_cons, List.length_nil, List.mem_cons, List.not_mem_nil, or_false, forall_eq_or_imp, forall_eq, List.contains_cons, List.contains_nil]
   exact hcont _ _ (hJ.put hND hST rfl (Nat.le_refl _) (fun _ _ => rfl) rfl)
  ·have f5 : α 40 = .bool true := hJ.val 5 40 rfl (hd 5 (by decide))
   have f7 : α 42 = .int .i64 1 := hJ.val 7 42 rfl (hd 7 (by decide))
   unfold XOm
   simp only [List.getElem?_cons_succ, List.getElem?_cons_zero]
   simp (disch := first | omega | (simp only [lnS]; try omega)) [-getElem?_pos, -getElem?_neg, -notTuple, hkv.1, nt_strG, nt_boolG, nt_aggG, nt_intG, nt_ptrG, f5, f7, XO_s, XO_z, XLk_val, XLk_call, headsO, behind, List.length_cons, List.length_nil, List.mem_cons, List.not_mem_nil, or_false, forall_eq_or_imp, forall_eq, List.contains_cons, List.contains_nil]
   exact hcont _ _ (hJ.put hND hST rfl (Nat.le_refl _) (fun _ _ => rfl) rfl)
  ·have f5 : α 40 = .bool true := hJ.val 5 40 rfl (hd 5 (by decide))
   have f8 : α 43 = .bool true := hJ.val 8 43 rfl (hd 8 (by decide))
   unfold XOm
   simp only [List.getElem?_cons_succ, List.getElem?_cons_zero]
   simp (disch := first | omega | (simp only [lnS]; try omega)) [-getElem?_pos, -getElem?_neg, -notTuple, hkv.1, nt_strG, nt_boolG, nt_aggG, nt_intG, nt_ptrG, f5, f8, XO_s, XO_z, XLk_val, XLk_call, headsO, behind, List.length_cons, List.length_nil, List.mem_cons, List.not_mem_nil, or_false, forall_eq_or_imp, forall_eq, List.contains_cons, List.contains_nil]
   exact hcont _ _ (hJ.put hND hST rfl (Nat.le_refl _) (fun _ _ => rfl) rfl)
  ·have f9 : α 44 = .bool true := hJ.val 9 44 rfl (hd 9 (by decide))
   unfold XOm
   simp only [List.getElem?_cons_succ, List.getElem?_cons_zero]
   simp (disch := first | omega | (simp only [lnS]; try omega)) [-getElem?_pos, -getElem?_neg, -notTuple, hkv.1, nt_strG, nt_boolG, nt_aggG, nt_intG, nt_ptrG, f9, XO_s, XO_z, XLk_val, XLk_call, headsO, behind, List.length_cons, List.length_nil, List.mem_cons, List.not_mem_nil, or_false, forall_eq_or_imp, forall_eq, List.contains_cons, List.contains_nil]
   exact hcont _ _ (hJ.put hND hST rfl (Nat.le_refl _) (fun _ _ => rfl) rfl)
  ·have f10 : α 45 = .bool true := hJ.val 10 45 rfl (hd 10 (by decide))
   unfold XOm
   simp only [List.getElem?_cons_succ, List.getElem?_cons_zero]
   simp (disch := first | omega | (simp only [lnS]; try omega)) [-getElem?_pos, -getElem?_neg, -notTuple, hkv.1, nt_strG, nt_boolG, nt_aggG, nt_intG, nt_ptrG, j8, f10, XO_s, XO_z, XLk_val, XLk_call, headsO, behind, List.length_cons, List.length_nil, List.mem_cons, List.not_mem_nil, or_false, forall_eq_or_imp, forall_eq, List.contains_cons, List.contains_nil]
   exact hcont _ _ (hJ.put hND hST rfl (Nat.le_refl _) (fun _ _ => rfl) rfl)
  ·have f10 : α 45 = .bool true := hJ.val 10 45 rfl (hd 10 (by decide))
   have f11 : α 46 = kv := hJ.val 11 46 rfl (hd 11 (by decide))
   unfold XOm
   simp only [List.getElem?_cons_succ, List.getElem?_cons_zero]
   simp (disch := first | omega | (simp only [lnS]; try omega)) [-getElem?_pos, -getElem?_neg, -notTuple, hkv.1, nt_strG, nt_boolG, nt_aggG, nt_intG, nt_ptrG, -xindexAddr, t2, t1, f10, f11, XO_s, XO_z, XLk_val, XLk_call, headsO, behind, List.length_cons, List.length_nil, List.mem_cons, List.not_mem_nil, or_false, forall_eq_or_imp, forall_eq, List.contains_cons, List.contains_nil]
   exact hcont _ _ (hJ.put hND hST rfl (Nat.le_refl _) (fun _ _ => rfl) rfl)
  ·have f10 : α 45 = .bool true := hJ.val 10 45 rfl (hd 10 (by decide))
   have f12 : α 47 = q0 := hJ.val 12 47 rfl (hd 12 (by decide))
   unfold XOm
   simp only [List.getElem?_cons_succ, List.getElem?_cons_zero]
   simp (disch := first | omega | (simp only [lnS]; try omega)) [-getElem?_pos, -getElem?_neg, -notTuple, hkv.1, nt_strG, nt_boolG, nt_aggG, nt_intG, nt_ptrG, -xload, u5, f10, f12, XO_s, XO_z, XLk_val, XLk_call, headsO, behind, List.length_cons, List.length_nil, List.mem_cons, List.not_mem_nil, or_false, forall_eq_or_imp, forall_eq, List.contains_cons, List.contains_nil]
   exact hcont _ _ (hJ.put hND hST rfl (Nat.le_refl _) (fun _ _ => rfl) rfl)
  ·have f10 : α 45 = .bool true := hJ.val 10 45 rfl (hd 10 (by decide))
   unfold XOm
   simp only [List.getElem?_cons_succ, List.getElem?_cons_zero]
   simp (disch := first | omega | (simp only [lnS]; try omega)) [-getElem?_pos, -getElem?_neg, -notTuple, hkv.1, nt_strG, nt_boolG, nt_aggG, nt_intG, nt_ptrG, j3, g1, lg1, T1, l1, f10, XO_s, XO_z, XLk_val, XLk_call, headsO, behind, List.length_cons, List.length_nil, List.mem_cons, List.not_mem_nil, or_false, forall_eq_or_imp, forall_eq, List.contains_cons, List.contains_nil]
   exact hcont _ _ (hJ.put hND hST rfl (Nat.le_refl _) (fun _ _ => rfl) rfl)
  ·have f10 : α 45 = .bool true := hJ.val 10 45 rfl (hd 10 (by decide))
   have f13 : α 48 = .agg (iv .u8 N1).toArray := hJ.val 13 48 rfl (hd 13 (by decide))
   have f14 : α 49 = .agg (iv .u8 N1).toArray := hJ.val 14 49 rfl (hd 14 (by decide))
   unfold XOm
   simp only [List.getElem?_cons_succ, List.getElem?_cons_zero]
   simp (disch := first | omega | (simp only [lnS]; try omega)) [-getElem?_pos, -getElem?_neg, -notTuple, hkv.1, nt_strG, nt_boolG, nt_aggG, nt_intG, nt_ptrG, l1, f10, f13, f14, XO_s, XO_z, XLk_val, XLk_call, headsO, behind, List.length_cons, List.length_nil, List.mem_cons, List.not_mem_nil, or_false, forall_eq_or_imp, forall_eq, List.contains_cons, List.contains_nil]
   exact hcont _ _ (hJ.put hND hST rfl (Nat.le_refl _) (fun _ _ => rfl) rfl)
  ·have f10 : α 45 = .bool true := hJ.val 10 45 rfl (hd 10 (by decide))
   have f15 : α 50 = .bool true := hJ.val 15 50 rfl (hd 15 (by decide))
   unfold XOm
   simp only [List.getElem?_cons_succ, List.getElem?_cons_zero]
   simp (disch := first | omega | (simp only [lnS]; try omega)) [-getElem?_pos, -getElem?_neg, -notTuple, hkv.1, nt_strG, nt_boolG, nt_aggG, nt_intG, nt_ptrG, f10, f15, XO_s, XO_z, XLk_val, XLk_call, headsO, behind, List.length_cons, List.length_nil, List.mem_cons, List.not_mem_nil, or_false, forall_eq_or_imp, forall_eq, List.contains_cons, List.contains_nil]
   exact hcont _ _ (hJ.put hND hST rfl (Nat.le_refl _) (fun _ _ => rfl) rfl)
  ·have f16 : α 51 = .bool true := hJ.val 16 51 rfl (hd 16 (by decide))
   unfold XOm
   simp only [List.getElem?_cons_succ, List.getElem?_cons_zero]
   simp (disch := first | omega | (simp only [lnS]; try omega)) [-getElem?_pos, -getElem?_neg, -notTuple, hkv.1, nt_strG, nt_boolG, nt_aggG, nt_intG, nt_ptrG, f16, XO_s, XO_z, XLk_val, XLk_call, headsO, behind, List.length_cons, List.length_nil, List.mem_cons, List.not_mem_nil, or_false, forall_eq_or_imp, forall_eq, List.contains_cons, List.contains_nil]
   exact hcont _ _ (hJ.put hND hST rfl (Nat.le_refl _) (fun _ _ => rfl) rfl)
  ·have f17 : α 52 = .bool true := hJ.val 17 52 rfl (hd 17 (by decide))
   unfold XOm
   simp only [List.getElem?_cons_succ, List.getElem?_cons_zero]
   simp (disch := first | omega | (simp only [lnS]; try omega)) [-getElem?_pos, -getElem?_neg, -notTuple, hkv.1, nt_strG, nt_boolG, nt_aggG, nt_intG, nt_ptrG, j2, g0, lg0, T0, l0, f17, XO_s, XO_z, XLk_val, XLk_call, headsO, behind, List.length_cons, List.length_nil, List.mem_cons, List.not_mem_nil, or_false, forall_eq_or_imp, forall_eq, List.contains_cons, List.contains_nil]
   exact hcont _ _ (hJ.put hND hST rfl (Nat.le_refl _) (fun _ _ => rfl) rfl)
  ·have f17 : α 52 = .bool true := hJ.val 17 52 rfl (hd 17 (by decide))
   unfold XOm
   simp only [List.getElem?_cons_succ, List.getElem?_cons_zero]
   simp (disch := first | omega | (simp only [lnS]; try omega)) [-getElem?_pos, -getElem?_neg, -notTuple, hkv.1, nt_strG, nt_boolG, nt_aggG, nt_intG, nt_ptrG, j3, g1, lg1, T1, l1, f17, XO_s, XO_z, XLk_val, XLk_call, headsO, behind, List.length_cons, List.length_nil, List.mem_cons, List.not_mem_nil, or_false, forall_eq_or_imp, forall_eq, List.contains_cons, List.contains_nil]
   exact hcont _ _ (hJ.put hND hST rfl (Nat.le_refl _) (fun _ _ => rfl) rfl)
  ·have f17 : α 52 = .bool true := hJ.val 17 52 rfl (hd 17 (by decide))
   have f18 : α 53 = .agg (iv .u8 N0).toArray := hJ.val 18 53 rfl (hd 18 (by decide))
   have f19 : α 54 = .agg (iv .u8 N1).toArray := hJ.val 19 54 rfl (hd 19 (by decide))
   unfold XOm
   simp only [List.getElem?_cons_succ, List.getElem?_cons_zero]
   simp (disch := first | omega | (simp only [lnS]; try omega)) [-getElem?_pos, -getElem?_neg, -notTuple, hkv.1, nt_strG, nt_boolG, nt_aggG, nt_intG, nt_ptrG, l0, l1, hne, hneb, f17, f18, f19, XO_s, XO_z, XLk_val, XLk_call, headsO, behind, List.length_cons, List.length_nil, List.mem_cons, List.not_mem_nil, or_false, forall_eq_or_imp, forall_eq, List.contains_cons, List.contains_nil]
   exact hcont _ _ (hJ.put hND hST rfl (Nat.le_refl _) (fun _ _ => rfl) rfl)
  ·have f17 : α 52 = .bool true := hJ.val 17 52 rfl (hd 17 (by decide))
   have f20 : α 55 = .bool true := hJ.val 20 55 rfl (hd 20 (by decide))
   unfold XOm
   simp only [List.getElem?_cons_succ, List.getElem?_cons_zero]
   simp (disch := first | omega | (simp only [lnS]; try omega)) [-getElem?_pos, -getElem?_neg, -notTuple, hkv.1, nt_strG, nt_boolG, nt_aggG, nt_intG, nt_ptrG, f17, f20, XO_s, XO_z, XLk_val, XLk_call, headsO, behind, List.length_cons, List.length_nil, List.mem_cons, List.not_mem_nil, or_false, forall_eq_or_imp, forall_eq, List.contains_cons, List.contains_nil]
   exact hcont _ _ (hJ.put hND hST rfl (Nat.le_refl _) (fun _ _ => rfl) rfl)
  ·have f21 : α 56 = .bool true := hJ.val 21 56 rfl (hd 21 (by decide))
   unfold XOm
   simp only [List.getElem?_cons_succ, List.getElem?_cons_zero]
   simp (disch := first | omega | (simp only [lnS]; try omega)) [-getElem?_pos, -getElem?_neg, -notTuple, hkv.1, nt_strG, nt_boolG, nt_aggG, nt_intG, nt_ptrG, f21, XO_s, XO_z, XLk_val, XLk_call, headsO, behind, List.length_cons, List.length_nil, List.mem_cons, List.not_mem_nil, or_false, forall_eq_or_imp, forall_eq, List.contains_cons, List.contains_nil]
   exact hcont _ _ (hJ.put hND hST rfl (Nat.le_refl _) (fun _ _ => rfl) rfl)
  ·have f22 : α 57 = .bool true := hJ.val 22 57 rfl (hd 22 (by decide))
   unfold XOm
   simp only [List.getElem?_cons_succ, List.getElem?_cons_zero]
   simp (disch := first | omega | (simp only [lnS]; try omega)) [-getElem?_pos, -getElem?_neg, -notTuple, hkv.1, nt_strG, nt_boolG, nt_aggG, nt_intG, nt_ptrG, j1, f22, XO_s, XO_z, XLk_val, XLk_call, headsO, behind, List.length_cons, List.length_nil, List.mem_cons, List.not_mem_nil, or_false, forall_eq_or_imp, forall_eq, List.contains_cons, List.contains_nil]
   exact hcont _ _ (hJ.put hND hST rfl (Nat.le_refl _) (fun _ _ => rfl) rfl)
  ·have f22 : α 57 = .bool true := hJ.val 22 57 rfl (hd 22 (by decide))
   unfold XOm
   simp only [List.getElem?_cons_succ, List.getElem?_cons_zero]
   simp (disch := first | omega | (simp only [lnS]; try omega)) [-getElem?_pos, -getElem?_neg, -notTuple, hkv.1, nt_strG, nt_boolG, nt_aggG, nt_intG, nt_ptrG, j5, g2, lg2, T2, l2, f22, XO_s, XO_z, XLk_val, XLk_call, headsO, behind, List.length_cons, List.length_nil, List.mem_cons, List.not_mem_nil, or_false, forall_eq_or_imp, forall_eq, List.contains_cons, List.contains_nil]
   exact hcont _ _ (hJ.put hND hST rfl (Nat.le_refl _) (fun _ _ => rfl) rfl)
  ·have f22 : α 57 = .bool true := hJ.val 22 57 rfl (hd 22 (by decide))
   unfold XOm
   simp only [List.getElem?_cons_succ, List.getElem?_cons_zero]
   simp (disch := first | omega | (simp only [lnS]; try omega)) [-getElem?_pos, -getElem?_neg, -notTuple, hkv.1, nt_strG, nt_boolG, nt_aggG, nt_intG, nt_ptrG, j2, g0, lg0, T0, l0, f22, XO_s, XO_z, XLk_val, XLk_call, headsO, behind, List.length_cons, List.length_nil, List.mem_cons, List.not_mem_nil, or_false, forall_eq_or_imp, forall_eq, List.contains_cons, List.contains_nil]
   exact hcont _ _ (hJ.put hND hST rfl (Nat.le_refl _) (fun _ _ => rfl) rfl)
  ·have f22 : α 57 = .bool true := hJ.val 22 57 rfl (hd 22 (by decide))
   have f24 : α 59 = .agg (iv .u8 N2).toArray := hJ.val 24 59 rfl (hd 24 (by decide))
   have f25 : α 60 = .agg (iv .u8 N0).toArray := hJ.val 25 60 rfl (hd 25 (by decide))
   unfold XOm
   simp only [List.getElem?_cons_succ, List.getElem?_cons_zero]
   simp (disch := first | omega | (simp only [lnS]; try omega)) [-getElem?_pos, -getElem?_neg, -notTuple, hkv.1, nt_strG, nt_boolG, nt_aggG, nt_intG, nt_ptrG, f22, f24, f25, hrow2, XO_s, XO_z, XLk_val, XLk_call, headsO, behind, List.length_cons, List.length_nil, List.mem_cons, List.not_mem_nil, or_false, forall_eq_or_imp, forall_eq, List.contains_cons, List.contains_nil]
   exact hcont _ _ (hJ.put hND hST rfl (by simp) (fun j hj => hget_left hj) ⟨G.length, rfl, by rw [hget_app0]; rfl⟩)
  ·have f22 : α 57 = .bool true := hJ.val 22 57 rfl (hd 22 (by decide))
   have f23 : α 58 = .pointer (some ⟨b, 0, none⟩) := hJ.val 23 58 rfl (hd 23 (by decide))
   have f26 := hJ.val 26 61 rfl (hd 26 (by decide))
   obtain ⟨rr, e, hrr⟩ := f26
   unfold XOm
   simp only [List.getElem?_cons_succ, List.getElem?_cons_zero]
   simp (disch := first | omega | (simp only [lnS]; try omega)) [-getElem?_pos, -getElem?_neg, f22, f23, e, XO_s, XO_z, XLk_val, XLk_call, headsO, behind, List.length_cons, List.length_nil, List.mem_cons, List.not_mem_nil, or_false, forall_eq_or_imp, forall_eq, List.contains_cons, List.contains_nil]
   refine ⟨by kernel_rfl, (follow_ac (nro := H.length) (γ := γ) (hpw.low lwG) tG lwG.2 hTW (ks := [N2, N0]) (keys2 l2 l0 hrr) hks2 hkb2 (by simp)).mono ?_⟩
   rintro v' G' ⟨kx, kb, rfl, lw, e1, e2, _, _⟩
   exact hcont _ _ (hJ.put hND hST rfl lw.2 lw.1 ⟨kx, kb, rfl, e1, e2⟩)
  ·have f22 : α 57 = .bool true := hJ.val 22 57 rfl (hd 22 (by decide))
   unfold XOm
   simp only [List.getElem?_cons_succ, List.getElem?_cons_zero]
   simp (disch := first | omega | (simp only [lnS]; try omega)) [-getElem?_pos, -getElem?_neg, -notTuple, hkv.1, nt_strG, nt_boolG, nt_aggG, nt_intG, nt_ptrG, j3, g1, lg1, T1, l1, f22, XO_s, XO_z, XLk_val, XLk_call, headsO, behind, List.length_cons, List.length_nil, List.mem_cons, List.not_mem_nil, or_false, forall_eq_or_imp, forall_eq, List.contains_cons, List.contains_nil]
   exact hcont _ _ (hJ.put hND hST rfl (Nat.le_refl _) (fun _ _ => rfl) rfl)
  ·have f22 : α 57 = .bool true := hJ.val 22 57 rfl (hd 22 (by decide))
   have f27 := hJ.val 27 62 rfl (hd 27 (by decide))
   have f28 : α 63 = .agg (iv .u8 N1).toArray := hJ.val 28 63 rfl (hd 28 (by decide))
   obtain ⟨kx, kb, e, h1, h2⟩ := f27
   unfold XOm
   simp only [List.getElem?_cons_succ, List.getElem?_cons_zero]
   simp (disch := first | omega | (simp only [lnS]; try omega)) [-getElem?_pos, -getElem?_neg, f22, f28, e, XO_s, XO_z, XLk_val, XLk_call, headsO, behind, List.length_cons, List.length_nil, List.mem_cons, List.not_mem_nil, or_false, forall_eq_or_imp, forall_eq, List.contains_cons, List.contains_nil]
   refine ⟨by kernel_rfl, ac_of_rc (fol1_rc h1 h2 (fol_len _ _) (by omega) l1 b1) (by simp [pv_iv, pv_int, pv_bool, pv_string, pv_tup2, pv_tup3, iv_plain, p2_int, p2_bool, p2_string]) ?_⟩
   exact hcont _ _ (hJ.put hND hST rfl (Nat.le_refl _) (fun _ _ => rfl) (congrArg Value.bool hv29))
  ·have f22 : α 57 = .bool true := hJ.val 22 57 rfl (hd 22 (by decide))
   have f29 : α 64 = .bool true := hJ.val 29 64 rfl (hd 29 (by decide))
   unfold XOm
   simp only [List.getElem?_cons_succ, List.getElem?_cons_zero]
   simp (disch := first | omega | (simp only [lnS]; try omega)) [-getElem?_pos, -getElem?_neg, -notTuple, hkv.1, nt_strG, nt_boolG, nt_aggG, nt_intG, nt_ptrG, f22, f29, XO_s, XO_z, XLk_val, XLk_call, headsO, behind, List.length_cons, List.length_nil, List.mem_cons, List.not_mem_nil, or_false, forall_eq_or_imp, forall_eq, List.contains_cons, List.contains_nil]
   exact hcont _ _ (hJ.put hND hST rfl (Nat.le_refl _) (fun _ _ => rfl) rfl)
  ·have f30 : α 65 = .bool true := hJ.val 30 65 rfl (hd 30 (by decide))
   unfold XOm
   simp only [List.getElem?_cons_succ, List.getElem?_cons_zero]
   simp (disch := first | omega | (simp only [lnS]; try omega)) [-getElem?_pos, -getElem?_neg, -notTuple, hkv.1, nt_strG, nt_boolG, nt_aggG, nt_intG, nt_ptrG, f30, XO_s, XO_z, XLk_val, XLk_call, headsO, behind, List.length_cons, List.length_nil, List.mem_cons, List.not_mem_nil, or_false, forall_eq_or_imp, forall_eq, List.contains_cons, List.contains_nil]
   exact hcont _ _ (hJ.put hND hST rfl (Nat.le_refl _) (fun _ _ => rfl) rfl)
  ·have f31 : α 66 = .bool true := hJ.val 31 66 rfl (hd 31 (by decide))
   unfold XOm
   simp only [List.getElem?_cons_succ, List.getElem?_cons_zero]
   simp (disch := first | omega | (simp only [lnS]; try omega)) [-getElem?_pos, -getElem?_neg, -notTuple, hkv.1, nt_strG, nt_boolG, nt_aggG, nt_intG, nt_ptrG, j1, f31, XO_s, XO_z, XLk_val, XLk_call, headsO, behind, List.length_cons, List.length_nil, List.mem_cons, List.not_mem_nil, or_false, forall_eq_or_imp, forall_eq, List.contains_cons, List.contains_nil]
   exact hcont _ _ (hJ.put hND hST rfl (Nat.le_refl _) (fun _ _ => rfl) rfl)
  ·have f31 : α 66 = .bool true := hJ.val 31 66 rfl (hd 31 (by decide))
   unfold XOm
   simp only [List.getElem?_cons_succ, List.getElem?_cons_zero]
   simp (disch := first | omega | (simp only [lnS]; try omega)) [-getElem?_pos, -getElem?_neg, -notTuple, hkv.1, nt_strG, nt_boolG, nt_aggG, nt_intG, nt_ptrG, j5, g2, lg2, T2, l2, f31, XO_s, XO_z, XLk_val, XLk_call, headsO, behind, List.length_cons, List.length_nil, List.mem_cons, List.not_mem_nil, or_false, forall_eq_or_imp, forall_eq, List.contains_cons, List.contains_nil]
   exact hcont _ _ (hJ.put hND hST rfl (Nat.le_refl _) (fun _ _ => rfl) rfl)
  ·have f31 : α 66 = .bool true := hJ.val 31 66 rfl (hd 31 (by decide))
   have f33 : α 68 = .agg (iv .u8 N2).toArray := hJ.val 33 68 rfl (hd 33 (by decide))
   unfold XOm
   simp only [List.getElem?_cons_succ, List.getElem?_cons_zero]
   simp (disch := first | omega | (simp only [lnS]; try omega)) [-getElem?_pos, -getElem?_neg, -notTuple, hkv.1, nt_strG, nt_boolG, nt_aggG, nt_intG, nt_ptrG, f31, f33, hrow1, XO_s, XO_z, XLk_val, XLk_call, headsO, behind, List.length_cons, List.length_nil, List.mem_cons, List.not_mem_nil, or_false, forall_eq_or_imp, forall_eq, List.contains_cons, List.contains_nil]
   exact hcont _ _ (hJ.put hND hST rfl (by simp) (fun j hj => hget_left hj) ⟨G.length, rfl, by rw [hget_app0]; rfl⟩)
  ·have f31 : α 66 = .bool true := hJ.val 31 66 rfl (hd 31 (by decide))
   have f32 : α 67 = .pointer (some ⟨b, 0, none⟩) := hJ.val 32 67 rfl (hd 32 (by decide))
   have f34 := hJ.val 34 69 rfl (hd 34 (by decide))
   obtain ⟨rr, e, hrr⟩ := f34
   unfold XOm
   simp only [List.getElem?_cons_succ, List.getElem?_cons_zero]
   simp (disch := first | omega | (simp only [lnS]; try omega)) [-getElem?_pos, -getElem?_neg, f31, f32, e, XO_s, XO_z, XLk_val, XLk_call, headsO, behind, List.length_cons, List.length_nil, List.mem_cons, List.not_mem_nil, or_false, forall_eq_or_imp, forall_eq, List.contains_cons, List.contains_nil]
   refine ⟨by kernel_rfl, (follow_ac (nro := H.length) (γ := γ) (hpw.low lwG) tG lwG.2 hTW (ks := [N2]) (keys1 l2 hrr) hks1 hkb1 (by simp)).mono ?_⟩
   rintro v' G' ⟨kx, kb, rfl, lw, e1, e2, _, _⟩
   exact hcont _ _ (hJ.put hND hST rfl lw.2 lw.1 ⟨kx, kb, rfl, e1, e2⟩)
  ·have f31 : α 66 = .bool true := hJ.val 31 66 rfl (hd 31 (by decide))
   unfold XOm
   simp only [List.getElem?_cons_succ, List.getElem?_cons_zero]
   simp (disch := first | omega | (simp only [lnS]; try omega)) [-getElem?_pos, -getElem?_neg, -notTuple, hkv.1, nt_strG, nt_boolG, nt_aggG, nt_intG, nt_ptrG, j3, g1, lg1, T1, l1, f31, XO_s, XO_z, XLk_val, XLk_call, headsO, behind, List.length_cons, List.length_nil, List.mem_cons, List.not_mem_nil, or_false, forall_eq_or_imp, forall_eq, List.contains_cons, List.contains_nil]
   exact hcont _ _ (hJ.put hND hST rfl (Nat.le_refl _) (fun _ _ => rfl) rfl)
  ·have f31 : α 66 = .bool true := hJ.val 31 66 rfl (hd 31 (by decide))
   have f35 := hJ.val 35 70 rfl (hd 35 (by decide))
   have f36 : α 71 = .agg (iv .u8 N1).toArray := hJ.val 36 71 rfl (hd 36 (by decide))
   obtain ⟨kx, kb, e, h1, h2⟩ := f35
   unfold XOm
   simp only [List.getElem?_cons_succ, List.getElem?_cons_zero]
   simp (disch := first | omega | (simp only [lnS]; try omega)) [-getElem?_pos, -getElem?_neg, f31, f36, e, XO_s, XO_z, XLk_val, XLk_call, headsO, behind, List.length_cons, List.length_nil, List.mem_cons, List.not_mem_nil, or_false, forall_eq_or_imp, forall_eq, List.contains_cons, List.contains_nil]
   refine ⟨by kernel_rfl, ac_of_rc (fol1_rc h1 h2 (fol_len _ _) (by omega) l1 b1) (by simp [pv_iv, pv_int, pv_bool, pv_string, pv_tup2, pv_tup3, iv_plain, p2_int, p2_bool, p2_string]) ?_⟩
   exact hcont _ _ (hJ.put hND hST rfl (Nat.le_refl _) (fun _ _ => rfl) (congrArg Value.bool hv37))
  ·have f31 : α 66 = .bool true := hJ.val 31 66 rfl (hd 31 (by decide))
   have f37 : α 72 = .bool false := hJ.val 37 72 rfl (hd 37 (by decide))
   unfold XOm
   simp only [List.getElem?_cons_succ, List.getElem?_cons_zero]
   simp (disch := first | omega | (simp only [lnS]; try omega)) [-getElem?_pos, -getElem?_neg, -notTuple, hkv.1, nt_strG, nt_boolG, nt_aggG, nt_intG, nt_ptrG, f31, f37, XO_s, XO_z, XLk_val, XLk_call, headsO, behind, List.length_cons, List.length_nil, List.mem_cons, List.not_mem_nil, or_false, forall_eq_or_imp, forall_eq, List.contains_cons, List.contains_nil]
   exact hcont _ _ (hJ.put hND hST rfl (Nat.le_refl _) (fun _ _ => rfl) rfl)
  ·have f31 : α 66 = .bool true := hJ.val 31 66 rfl (hd 31 (by decide))
   have f38 : α 73 = .bool true := hJ.val 38 73 rfl (hd 38 (by decide))
   unfold XOm
   simp only [List.getElem?_cons_succ, List.getElem?_cons_zero]
   simp (disch := first | omega | (simp only [lnS]; try omega)) [-getElem?_pos, -getElem?_neg, -notTuple, hkv.1, nt_strG, nt_boolG, nt_aggG, nt_intG, nt_ptrG, f31, f38, XO_s, XO_z, XLk_val, XLk_call, headsO, behind, List.length_cons, List.length_nil, List.mem_cons, List.not_mem_nil, or_false, forall_eq_or_imp, forall_eq, List.contains_cons, List.contains_nil]
   exact hcont _ _ (hJ.put hND hST rfl (Nat.le_refl _) (fun _ _ => rfl) rfl)
  ·have f39 : α 74 = .bool true := hJ.val 39 74 rfl (hd 39 (by decide))
   unfold XOm
   simp only [List.getElem?_cons_succ, List.getElem?_cons_zero]
   simp (disch := first | omega | (simp only [lnS]; try omega)) [-getElem?_pos, -getElem?_neg, -notTuple, hkv.1, nt_strG, nt_boolG, nt_aggG, nt_intG, nt_ptrG, f39, XO_s, XO_z, XLk_val, XLk_call, headsO, behind, List.length_cons, List.length_nil, List.mem_cons, List.not_mem_nil, or_false, forall_eq_or_imp, forall_eq, List.contains_cons, List.contains_nil]
   exact hcont _ _ (hJ.put hND hST rfl (Nat.le_refl _) (fun _ _ => rfl) rfl)
  ·have f40 : α 75 = .bool true := hJ.val 40 75 rfl (hd 40 (by decide))
   unfold XOm
   simp only [List.getElem?_cons_succ, List.getElem?_cons_zero]
   simp (disch := first | omega | (simp only [lnS]; try omega)) [-getElem?_pos, -getElem?_neg, -notTuple, hkv.1, nt_strG, nt_boolG, nt_aggG, nt_intG, nt_ptrG, j1, f40, XO_s, XO_z, XLk_val, XLk_call, headsO, behind, List.length_cons, List.length_nil, List.mem_cons, List.not_mem_nil, or_false, forall_eq_or_imp, forall_eq, List.contains_cons, List.contains_nil]
   exact hcont _ _ (hJ.put hND hST rfl (Nat.le_refl _) (fun _ _ => rfl) rfl)
  ·have f40 : α 75 = .bool true := hJ.val 40 75 rfl (hd 40 (by decide))
   have f41 : α 76 = .pointer (some ⟨b, 0, none⟩) := hJ.val 41 76 rfl (hd 41 (by decide))
   unfold XOm
   simp only [List.getElem?_cons_succ, List.getElem?_cons_zero]
   simp (disch := first | omega | (simp only [lnS]; try omega)) [-getElem?_pos, -getElem?_neg, f40, f41, XO_s, XO_z, XLk_val, XLk_call, headsO, behind, List.length_cons, List.length_nil, List.mem_cons, List.not_mem_nil, or_false, forall_eq_or_imp, forall_eq, List.contains_cons, List.contains_nil]
   refine ⟨by kernel_rfl, ac_of_rc (tlenT_rc tG) (by simp [pv_iv, pv_int, pv_bool, pv_string, pv_tup2, pv_tup3, iv_plain, p2_int, p2_bool, p2_string]) ?_⟩
   exact hcont _ _ (hJ.put hND hST rfl (Nat.le_refl _) (fun _ _ => rfl) rfl)
  ·have f40 : α 75 = .bool true := hJ.val 40 75 rfl (hd 40 (by decide))
   have f42 : α 77 = .int .i64 3 := hJ.val 42 77 rfl (hd 42 (by decide))
   unfold XOm
   simp only [List.getElem?_cons_succ, List.getElem?_cons_zero]
   simp (disch := first | omega | (simp only [lnS]; try omega)) [-getElem?_pos, -getElem?_neg, -notTuple, hkv.1, nt_strG, nt_boolG, nt_aggG, nt_intG, nt_ptrG, f40, f42, XO_s, XO_z, XLk_val, XLk_call, headsO, behind, List.length_cons, List.length_nil, List.mem_cons, List.not_mem_nil, or_false, forall_eq_or_imp, forall_eq, List.contains_cons, List.contains_nil]
   exact hcont _ _ (hJ.put hND hST rfl (Nat.le_refl _) (fun _ _ => rfl) rfl)
  ·have f40 : α 75 = .bool true := hJ.val 40 75 rfl (hd 40 (by decide))
   have f43 : α 78 = .bool true := hJ.val 43 78 rfl (hd 43 (by decide))
   unfold XOm
   simp only [List.getElem?_cons_succ, List.getElem?_cons_zero]
   simp (disch := first | omega | (simp only [lnS]; try omega)) [-getElem?_pos, -getElem?_neg, -notTuple, hkv.1, nt_strG, nt_boolG, nt_aggG, nt_intG, nt_ptrG, f40, f43, XO_s, XO_z, XLk_val, XLk_call, headsO, behind, List.length_cons, List.length_nil, List.mem_cons, List.not_mem_nil, or_false, forall_eq_or_imp, forall_eq, List.contains_cons, List.contains_nil]
   exact hcont _ _ (hJ.put hND hST rfl (Nat.le_refl _) (fun _ _ => rfl) rfl)
  ·have f44 : α 79 = .bool true := hJ.val 44 79 rfl (hd 44 (by decide))
   unfold XOm
   simp only [List.getElem?_cons_succ, List.getElem?_cons_zero]
   simp (disch := first | omega | (simp only [lnS]; try omega)) [-getElem?_pos, -getElem?_neg, -notTuple, hkv.1, nt_strG, nt_boolG, nt_aggG, nt_intG, nt_ptrG, f44, XO_s, XO_z, XLk_val, XLk_call, headsO, behind, List.length_cons, List.length_nil, List.mem_cons, List.not_mem_nil, or_false, forall_eq_or_imp, forall_eq, List.contains_cons, List.contains_nil]
   exact hcont _ _ (hJ.put hND hST rfl (Nat.le_refl _) (fun _ _ => rfl) rfl)
 ·rintro s' α' B hJ hall
  have hsz : s'.size = 46 := hJ.sz
  have e0 : α' 0 = .bool true := hJ.val 45 0 rfl (by
   rw [Array.getD_eq_getD_getElem?, Array.getElem?_eq_getElem (by omega)]
   exact Array.all_eq_true.1 hall 45 (by omega))
  (refine aw_ret ?_; simp (disch := first | omega | (simp only [lnS]; try omega)) [-getElem?_pos, -getElem?_neg, thenQ_ret, scopeQ_ret, inBlockQ_ret, RQ, resL, resV, e0])
end
section
theorem two_ac {nro : Nat} {γ : Nat → Option Nat} {H G2 : AH} (hpw : Pw γ H) {b : Nat} {F : List Nat} {T : List TermD} (h : Tbl H b F T) (hnro : ∀ j ∈ F, nro ≤ j) (hnH : nro ≤ H.length) {n : Nat} (hn : n = 4 ∨ n = 5) {s p : List Int} (hs : s.length = 32) (hbs : By s) (hp : p.length = 32) (hbp : By p) (hT : T.length ≤ 1000000)
  (lw2 : Low H.length H G2) {z q : Nat} (hz : H.length ≤ z) (gz : hget G2 z = some ⟨iv .u8 (zl 32), 28, none⟩) (hq : H.length ≤ q) (g2 : hget G2 q = some ⟨iv .u8 s ++ iv .u8 p, 28, some 32⟩) :
  AC Tryd.prog nro γ 39 #[.pointer (some ⟨b, 0, none⟩), .int .i64 (n : Nat), .string ⟨#[]⟩, .slice (some ⟨q, 0, none⟩) 2 2] G2
   (fun v' G3 => ∃ N : List Int, N = nmL (nameT ⟨n, ⟨#[]⟩, [s, p]⟩ T) ∧ N.length = 32 ∧ (iv .u8 N).take 32 = iv .u8 N ∧ setR (iv .u8 (zl 32)) 0 (iv .u8 N) = iv .u8 N ∧ v' = .agg (iv .u8 N).toArray ∧ z < G3.length ∧ hget G3 z = some ⟨iv .u8 (zl 32), 28, none⟩ ∧ ∀ X : Option Blk, TermQ H b F T ⟨n, ⟨#[]⟩, [s, p]⟩ (.agg (iv .u8 N).toArray) (G3.set z X)) := by
 have hFl := h.bound
 refine (term_ac (nro := nro) (γ := γ) (hpw.low lw2) (h.low (fun j hj => lw2.1 j (hFl j hj)) lw2.2) hnro (by have := lw2.2; omega) (wf_two hn hs hbs hp hbp) (v := .slice (some ⟨q, 0, none⟩) 2 2) (fun D _ hj => keys2 hs hp ((hj _ (hget_lt g2) (fun e => by have := hFl _ e; omega)).trans g2)) hT).mono fun v' G3 hQ => ?_
 exact hQ.layG lw2 hFl hz gz
attribute [local simp] wb_bool wb_undef with_lit XL_nil XL_cons XLc_val XLc_call step1_eq stepW_t stepW_f stepC_n stepC_s stepX_s stepX_n stepN_s calleeX xrecv oneV xop_eq xopR_s xopR_n wantedA_eq wantedG_n wantedG_s plain1_int plain1_bool plain1_string bits_i64 bits_u64 bits_u32 bits_u16 bits_u8 xeqA xagg xcmp xarr allK_iv num_iv calleeOf xread xeff xbin xint xnil xun xstr xload xconv xpart xfield xfieldAddr xindexAddr xindex bnd asInt? xslice xlen xmin xmax xbuild xfill xappend xapp2 xappstr xappmk xcap xcopy xcells eval_tmp eval_const put_at put_none fr0_at cells_agg cells_int cells_bool cells_string cells_ptr cells_slice notTuple tab iv_all hget_app hget_app0 hget_cons0 hget_cons set_app set_app0 setR setR_one QL_nil QL_cons QLc_val stepQ_t stepQ_f stepQC_n stepQC_s stepQX_s SL_nil SL_cons SLc_val stepS_t stepS_f ltT ltF leT leF eqT eqF ltTn ltFn leTn leFn eqTn eqFn beqT beqF bneT bneF wi64 wu64 wu32 wu16 wu8 tmodP tdivP hgetL hgetNe hgetEq setL nums_def nums_len Nat.succ_le_of_lt List.getElem?_cons_zero List.getElem?_cons_succ Option.getD_some Int.toNat_add Int.toNat_mul agM okM agB agI agS agP agL agA okB okI okS okP okSl okA
theorem agreeP_ac {nro : Nat} {γ : Nat → Option Nat} {H : AH} (hpw : Pw γ H) {b : Nat} {F : List Nat} {T : List TermD} (h : Tbl H b F T) (hnro : ∀ j ∈ F, nro ≤ j) (hnH : nro ≤ H.length) {s p : List Int} (hs : s.length = 32) (hbs : By s) (hp : p.length = 32) (hbp : By p) (hp0 : p ≠ zl 32) (hT : T.length ≤ 1000000)
  {y : TermD} (hy : findT T p = some y) (hy3 : y.kind = 3) :
  AC Tryd.prog nro γ 21 #[.pointer (some ⟨b, 0, none⟩), .agg (iv .u8 s).toArray, .agg (iv .u8 p).toArray] H (AgreeQ H b F T s p) := by
 have hag : agreeT T s p = if 0 < cmpL s (y.keys.getD 0 []) then ⟨4, ⟨#[]⟩, [y.keys.getD 0 [], s]⟩ else ⟨4, ⟨#[]⟩, [s, y.keys.getD 0 []]⟩ := by
  unfold agreeT
  rw [hy]
  simp only [if_pos hy3]
 have hFl := h.bound
 have hT0 := h
 obtain ⟨mb, tv, Ft, Fk, L, rfl, hL, rfl, _⟩ := h
 have hts : (iv .u8 s).take 32 = iv .u8 s := List.take_of_length_le (by simp [hs])
 have htp : (iv .u8 p).take 32 = iv .u8 p := List.take_of_length_le (by simp [hp])
 have hss : setR (iv .u8 (zl 32)) 0 (iv .u8 s) = iv .u8 s := setR_all _ _ (by simp [hs])
 have hpb : (p == zl 32) = false := by rw [beq_eq_false_iff_ne]; exact hp0
 have p1 : plain1 (.slice none 0 0) = true := rfl
 have r3 : List.range 3 = [0, 1, 2] := rfl
 have hf := fun (N : AH) => find_ac (nro := nro) (γ := γ) (hL.low (G := H ++ N) (fun j hj => hget_left (hFl j hj))) hp hbp
 have hcase := findV_T L p
 rw [hy] at hcase
 generalize findV L p = fv at *
 obtain ⟨kv, hm, rfl⟩ : ∃ kv, (kv, y) ∈ L ∧ fv = .tuple #[.agg (tmRow kv y).toArray, .bool true] := by
  rcases hcase with ⟨⟨kv, x⟩, hm, e, hft⟩ | ⟨_, hft⟩
  ·cases hft
   exact ⟨kv, hm, e⟩
  ·cases hft
 have hw : y.Wf := hL.wf _ hm
 have hk1 := hw.pub hy3
 obtain ⟨c, hc⟩ : ∃ c, y.keys = [c] := by
  match hh : y.keys, hk1 with
  | [c], _ => exact ⟨c, rfl⟩
 have lc : c.length = 32 := hw.k32 c (by rw [hc]; simp)
 have bc : By c := hw.by_ c (by rw [hc]; simp)
 have htc : (iv .u8 c).take 32 = iv .u8 c := List.take_of_length_le (by simp [lc])
 have hsc : setR (iv .u8 (zl 32)) 0 (iv .u8 c) = iv .u8 c := setR_all _ _ (by simp [lc])
 obtain ⟨jk, rfl, hjk⟩ : ∃ j, kv = .slice (some ⟨j, 0, none⟩) 1 1 ∧ hget H j = some ⟨iv .u8 c, 28, some 32⟩ := by
  obtain ⟨F0, ho, _⟩ := hL.keys _ hm
  have ho : OwnF H kv 28 32 (kr y.keys) F0 := ho
  rw [hc, kr_one] at ho
  rcases ho with ⟨_, e, _⟩ | ⟨j, len, e, hg, hl, _⟩
  ·have := congrArg List.length e
   simp [lc] at this
  ·rw [iv_length, lc] at hl
   have : len = 1 := by omega
   subst this
   exact ⟨j, e, hg⟩
 rw [hc] at hag
 have hg0 : ([c] : List (List Int)).getD 0 [] = c := rfl
 rw [hg0] at hag
 have hk3b : ((y.kind : Int) == 3) = true := by rw [hy3]; rfl
 have hk3i : (y.kind : Int) = 3 := by rw [hy3]; rfl
 have hkn : notTuple (.slice (some ⟨jk, 0, none⟩) 1 1) = true ∧ (Value.slice (some ⟨jk, 0, none⟩) 1 1).cells = #[.slice (some ⟨jk, 0, none⟩) 1 1] := ⟨rfl, rfl⟩
 refine ac_of_aw Tryd.func21 rfl Tryd.ntmps21 Tryd.results21 (by simp) ?_
 refine aw_seq ?_
 (refine aw_ops (by kernel_rfl) (fun K hK => ?_); simp (disch := first | omega | (simp only [lnS]; try omega)) [-getElem?_pos, -getElem?_neg, hts, htp]; refine hK _ _ ?_; clear hK K)
 refine aw_seq ?_
 refine aw_seq ?_
 (refine aw_ops (by kernel_rfl) (fun K hK => ?_); simp (disch := first | omega | (simp only [lnS]; try omega)) [-getElem?_pos, -getElem?_neg, htp, hp0, hpb]; refine hK _ _ ?_; clear hK K)
 refine aw_f (by (first | (simp [eval_tmp, put_at]; done) | (simp [eval_tmp, put_at]; omega))) (by kernel_rfl) ?_
 refine aw_skip ?_
 refine aw_seq ?_
 refine aw_ops (by kernel_rfl) (fun K hK => ?_)
 simp (disch := first | omega | (simp only [lnS]; try omega)) [-getElem?_pos, -getElem?_neg, htp]
 refine ⟨by kernel_rfl, AC.mono (hf _) ?_⟩
 rintro _ G ⟨rfl, lw⟩
 have hGl := lw.2
 rw [List.length_append] at lw hGl
 have gs : hget G H.length = some ⟨iv .u8 s, 28, none⟩ := (lw.1 _ (by simp)).trans (by rw [hget_app0]; rfl)
 have gp : hget G (H.length + 1) = some ⟨iv .u8 p, 28, none⟩ := (lw.1 _ (by simp)).trans (by rw [hget_app]; rfl)
 have gz : hget G (H.length + 2) = some ⟨iv .u8 (zl 32), 28, none⟩ := (lw.1 _ (by simp)).trans (by rw [hget_app]; rfl)
 have ls := hget_lt gs
 have lp := hget_lt gp
 have lz := hget_lt gz
 have lwH : Low H.length H G := ⟨fun j hj => (lw.1 j (by omega)).trans (hget_left hj), by omega⟩
 have gj : hget G jk = some ⟨iv .u8 c, 28, some 32⟩ := (lwH.1 _ (hget_lt hjk)).trans hjk
 have lj := hget_lt gj
 unfold tmRow
 try simp (disch := first | omega | (simp only [lnS]; try omega)) [-getElem?_pos, -getElem?_neg, -notTuple, hkn.1, hkn.2, nt_aggG, nt_intG, p1, r3]
 refine hK _ _ ?_; clear hK K
 refine aw_seq ?_
 refine aw_seq ?_
 refine aw_ops (by kernel_rfl) (fun K hK => ?_)
 simp (disch := first | omega | (simp only [lnS]; try omega)) [-getElem?_pos, -getElem?_neg, hk3b, hk3i, nt_intG]
 refine hK _ _ ?_; clear hK K
 refine aw_f (by (first | (simp [eval_tmp, put_at]; done) | (simp [eval_tmp, put_at]; omega))) (by kernel_rfl) ?_
 refine aw_skip ?_
 refine aw_seq ?_
 (refine aw_plan [] [] [0, 1, 2, 3, 4, 5, 6] 7 2 (by kernel_rfl) (by kernel_rfl) (by kernel_rfl) (fun K hK => ?_)); simp only [sel, List.getElem?_cons_succ, List.getElem?_cons_zero, List.drop_succ_cons, List.drop_zero]; simp (disch := first | omega | (simp only [lnS]; try omega)) [-getElem?_pos, -getElem?_neg, gs, ls, gj, lj, hts, htc, hss, hsc, -notTuple, nt_slG, nt_aggG, PL_nil, plainB_lit, PL_cons, PLc_val, PLc_new, stepP_t, stepP_f, stepPC_n, stepPC_s, stepPX_s, stepPX_n, stepPV_n, stepPV_s, stepPA_t, stepPA_c, stepPA_l, stepPN_s, allocOp, reloc_sl, reloc_ptr, List.map_cons, List.map_nil, List.nil_append, List.append_assoc, List.cons_append, Nat.add_assoc]
 refine hK _ _ ?_; clear hK K
 obtain ⟨G4, hG4⟩ : ∃ G4 : AH, G4 = G ++ [some ⟨[.int .i64 3, .string y.text, .slice (some ⟨jk, 0, none⟩) 1 1], 67, none⟩, some ⟨iv .u8 s, 28, none⟩, some ⟨iv .u8 c, 28, none⟩] := ⟨_, rfl⟩
 have g41 : hget G4 (G.length + 1) = some ⟨iv .u8 s, 28, none⟩ := by rw [hG4, hget_app]; rfl
 have g42 : hget G4 (G.length + 2) = some ⟨iv .u8 c, 28, none⟩ := by rw [hG4, hget_app]; rfl
 have g4l : G4.length = G.length + 3 := by rw [hG4]; simp
 have g4j : ∀ j, j < G.length → hget G4 j = hget G j := fun j hj => by rw [hG4, hget_left hj]
 have g4z := (g4j _ lz).trans gz
 have g4lw : ∀ j, j < H.length → hget G4 j = hget H j := fun j hj => (g4j j (by omega)).trans (lwH.1 j hj)
 have l41 := hget_lt g41
 have l42 := hget_lt g42
 rw [← hG4]
 clear hG4 lw
 refine aw_seq ?_
 refine aw_seq ?_
 by_cases hgt : 0 < cmpL s c
 ·rw [if_pos hgt] at hag
  (refine aw_plan [] [] [0, 1, 2, 3] 4 0 (by kernel_rfl) (by kernel_rfl) (by kernel_rfl) (fun K hK => ?_)); simp only [sel, List.getElem?_cons_succ, List.getElem?_cons_zero, List.drop_succ_cons, List.drop_zero]; simp (disch := first | omega | (simp only [lnS]; try omega)) [-getElem?_pos, -getElem?_neg, g41, g42, l41, l42, hs, lc, PL_nil, plainB_lit, PL_cons, PLc_val, PLc_new, stepP_t, stepP_f, stepPC_n, stepPC_s, stepPX_s, stepPX_n, stepPV_n, stepPV_s, stepPA_t, stepPA_c, stepPA_l, stepPN_s, allocOp, reloc_sl, reloc_ptr, List.map_cons, List.map_nil, List.nil_append, List.append_assoc, List.cons_append, Nat.add_assoc]
  refine PLc_call (v := .int .i64 (cmpL s c)) (by kernel_rfl) (fun N hN => ?_) (by simp [pv_iv, pv_int, pv_bool, pv_string, pv_tup2, pv_tup3, iv_plain, p2_int, p2_bool, p2_string]) ?_
  ·exact (compare_ac (hget_left' g41) (hget_left' g42) hs lc).mono fun v' H' h => h.1
  try simp (disch := first | omega | (simp only [lnS]; try omega)) [-getElem?_pos, -getElem?_neg, hgt, PL_nil, plainB_lit, PL_cons, PLc_val, PLc_new, stepP_t, stepP_f, stepPC_n, stepPC_s, stepPX_s, stepPX_n, stepPV_n, stepPV_s, stepPA_t, stepPA_c, stepPA_l, stepPN_s, allocOp, reloc_sl, reloc_ptr, List.map_cons, List.map_nil, List.nil_append, List.append_assoc, List.cons_append, Nat.add_assoc]
  refine hK _ _ ?_; clear hK K
  refine aw_t (by (first | (simp [eval_tmp, put_at]; done) | (simp [eval_tmp, put_at]; omega))) (by kernel_rfl) ?_
  have hn1 : nro ≤ G.length + 1 := by omega
  have hn22 : nro ≤ G.length + 2 := by omega
  have hcs2 : setR (iv .u8 c) 0 (iv .u8 s) = iv .u8 s := setR_all _ _ (by simp [hs, lc])
  have hsc2 : setR (iv .u8 s) 0 (iv .u8 c) = iv .u8 c := setR_all _ _ (by simp [hs, lc])
  (refine aw_ops (by kernel_rfl) (fun K hK => ?_); simp (disch := first | omega | (simp only [lnS]; try omega)) [-getElem?_pos, -getElem?_neg, g41, g42, l41, l42, hts, htc, hn1, hn22, hcs2, hsc2]; refine hK _ _ ?_; clear hK K)
  obtain ⟨G5, hG5⟩ : ∃ G5 : AH, G5 = (G4.set (G.length + 1) (some ⟨iv .u8 c, 28, none⟩)).set (G.length + 2) (some ⟨iv .u8 s, 28, none⟩) := ⟨_, rfl⟩
  have g51 : hget G5 (G.length + 1) = some ⟨iv .u8 c, 28, none⟩ := by rw [hG5, hget_set_ne (by omega), hget_set_eq l41]
  have g52 : hget G5 (G.length + 2) = some ⟨iv .u8 s, 28, none⟩ := by rw [hG5, hget_set_eq (by simp; omega)]
  have g5j : ∀ j, j < G.length → hget G5 j = hget G4 j := fun j hj => by rw [hG5, hget_set_ne (by omega), hget_set_ne (by omega)]
  have g5l : G5.length = G.length + 3 := by rw [hG5]; simp; omega
  have g5z := (g5j _ lz).trans g4z
  have g5lw : ∀ j, j < H.length → hget G5 j = hget H j := fun j hj => (g5j j (by omega)).trans (g4lw j hj)
  have l51 := hget_lt g51
  have l52 := hget_lt g52
  rw [← hG5]
  clear hG5
  have hrow : setR (setR (List.map (fun j => (iv .u8 (zl 32))[j % 32]?.getD undef) (List.range 64)) 0 (iv .u8 c)) 32 (iv .u8 s) = iv .u8 c ++ iv .u8 s := row2 (by simp) (by simp [lc]) (by simp [hs])
  have htw := two_ac (nro := nro) (γ := γ) (G2 := G5 ++ [some ⟨iv .u8 c ++ iv .u8 s, 28, some 32⟩]) hpw hT0 hnro hnH (n := 4) (.inl rfl) lc bc hs hbs hT ⟨fun j hj => (hget_left (by omega)).trans (g5lw j hj), by simp; omega⟩ (z := H.length + 2) (q := G5.length) (by omega) ((hget_left (by omega)).trans g5z) (by omega) (by rw [hget_app0]; rfl)
  refine aw_seq ?_
  refine aw_ops (by kernel_rfl) (fun K hK => ?_)
  simp (disch := first | omega | (simp only [lnS]; try omega)) [-getElem?_pos, -getElem?_neg, g51, g52, l51, l52, hts, htc, hrow]
  refine ⟨by kernel_rfl, AC.mono htw ?_⟩
  intro v' G3 hQ
  obtain ⟨N, _, lN, ht, hse, rfl, hlt, hg, hfin⟩ := hQ
  have hn2 : nro ≤ H.length + 2 := by omega
  try simp (disch := first | omega | (simp only [lnS]; try omega)) [-getElem?_pos, -getElem?_neg, hn2, lN, ht, hse, hg, hlt]
  refine hK _ _ ?_; clear hK K
  (refine aw_ret ?_; simp (disch := first | omega | (simp only [lnS]; try omega)) [-getElem?_pos, -getElem?_neg, thenQ_ret, scopeQ_ret, inBlockQ_ret, RQ, resL, resV, lN, ht, hlt])
  exact .inr ⟨hp0, _, rfl, hag ▸ hfin _⟩
 ·rw [if_neg hgt] at hag
  (refine aw_plan [] [] [0, 1, 2, 3] 4 0 (by kernel_rfl) (by kernel_rfl) (by kernel_rfl) (fun K hK => ?_)); simp only [sel, List.getElem?_cons_succ, List.getElem?_cons_zero, List.drop_succ_cons, List.drop_zero]; simp (disch := first | omega | (simp only [lnS]; try omega)) [-getElem?_pos, -getElem?_neg, g41, g42, l41, l42, hs, lc, PL_nil, plainB_lit, PL_cons, PLc_val, PLc_new, stepP_t, stepP_f, stepPC_n, stepPC_s, stepPX_s, stepPX_n, stepPV_n, stepPV_s, stepPA_t, stepPA_c, stepPA_l, stepPN_s, allocOp, reloc_sl, reloc_ptr, List.map_cons, List.map_nil, List.nil_append, List.append_assoc, List.cons_append, Nat.add_assoc]
  refine PLc_call (v := .int .i64 (cmpL s c)) (by kernel_rfl) (fun N hN => ?_) (by simp [pv_iv, pv_int, pv_bool, pv_string, pv_tup2, pv_tup3, iv_plain, p2_int, p2_bool, p2_string]) ?_
  ·exact (compare_ac (hget_left' g41) (hget_left' g42) hs lc).mono fun v' H' h => h.1
  try simp (disch := first | omega | (simp only [lnS]; try omega)) [-getElem?_pos, -getElem?_neg, hgt, PL_nil, plainB_lit, PL_cons, PLc_val, PLc_new, stepP_t, stepP_f, stepPC_n, stepPC_s, stepPX_s, stepPX_n, stepPV_n, stepPV_s, stepPA_t, stepPA_c, stepPA_l, stepPN_s, allocOp, reloc_sl, reloc_ptr, List.map_cons, List.map_nil, List.nil_append, List.append_assoc, List.cons_append, Nat.add_assoc]
  refine hK _ _ ?_; clear hK K
  refine aw_f (by (first | (simp [eval_tmp, put_at]; done) | (simp [eval_tmp, put_at]; omega))) (by kernel_rfl) ?_
  refine aw_skip ?_
  have hrow : setR (setR (List.map (fun j => (iv .u8 (zl 32))[j % 32]?.getD undef) (List.range 64)) 0 (iv .u8 s)) 32 (iv .u8 c) = iv .u8 s ++ iv .u8 c := row2 (by simp) (by simp [hs]) (by simp [lc])
  have htw := two_ac (nro := nro) (γ := γ) (G2 := G4 ++ [some ⟨iv .u8 s ++ iv .u8 c, 28, some 32⟩]) hpw hT0 hnro hnH (n := 4) (.inl rfl) hs hbs lc bc hT ⟨fun j hj => (hget_left (by omega)).trans (g4lw j hj), by simp; omega⟩ (z := H.length + 2) (q := G4.length) (by omega) ((hget_left (by omega)).trans g4z) (by omega) (by rw [hget_app0]; rfl)
  refine aw_seq ?_
  refine aw_ops (by kernel_rfl) (fun K hK => ?_)
  simp (disch := first | omega | (simp only [lnS]; try omega)) [-getElem?_pos, -getElem?_neg, g41, g42, l41, l42, hts, htc, hrow]
  refine ⟨by kernel_rfl, AC.mono htw ?_⟩
  intro v' G3 hQ
  obtain ⟨N, _, lN, ht, hse, rfl, hlt, hg, hfin⟩ := hQ
  have hn2 : nro ≤ H.length + 2 := by omega
  try simp (disch := first | omega | (simp only [lnS]; try omega)) [-getElem?_pos, -getElem?_neg, hn2, lN, ht, hse, hg, hlt]
  refine hK _ _ ?_; clear hK K
  (refine aw_ret ?_; simp (disch := first | omega | (simp only [lnS]; try omega)) [-getElem?_pos, -getElem?_neg, thenQ_ret, scopeQ_ret, inBlockQ_ret, RQ, resL, resV, lN, ht, hlt])
  exact .inr ⟨hp0, _, rfl, hag ▸ hfin _⟩
theorem agree_ac {nro : Nat} {γ : Nat → Option Nat} {H : AH} (hpw : Pw γ H) {b : Nat} {F : List Nat} {T : List TermD} (h : Tbl H b F T) (hnro : ∀ j ∈ F, nro ≤ j) (hnH : nro ≤ H.length) {s p : List Int} (hs : s.length = 32) (hbs : By s) (hp : p.length = 32) (hbp : By p) (hT : T.length ≤ 1000000) :
  AC Tryd.prog nro γ 21 #[.pointer (some ⟨b, 0, none⟩), .agg (iv .u8 s).toArray, .agg (iv .u8 p).toArray] H (AgreeQ H b F T s p) := by
 by_cases hp0 : p = zl 32
 ·subst hp0
  exact agree0_ac hnH hs
 ·cases hy : findT T p with
  | none => exact agreeN_ac hpw h hnro hnH hs hbs hp hbp hp0 hT (fun x hx => by rw [hy] at hx; cases hx)
  | some y =>
   by_cases hy3 : y.kind = 3
   ·exact agreeP_ac hpw h hnro hnH hs hbs hp hbp hp0 hT hy hy3
   ·exact agreeN_ac hpw h hnro hnH hs hbs hp hbp hp0 hT (fun x hx => by rw [hy] at hx; cases hx; exact hy3)
end
section
theorem place_eq {x : TermD} {T : List TermD} (hx : x.Wf) (hT : ∀ y ∈ T, y.Wf) (hn : T.Nodup) {i : Nat} (h : T[i]? = some x) : placeT x T = some i := by
 obtain ⟨j, hj⟩ := idxS_mem (List.mem_map.2 ⟨x, List.mem_of_getElem? h, rfl⟩ : x.rec_ ∈ T.map TermD.rec_)
 have hp : placeT x T = some j := hj
 have h2 := place_some hx hT hp
 have e : j = i := (List.getElem?_inj (List.getElem?_eq_some_iff.1 h2).1 hn).1 (h2.trans h.symm)
 rw [hp, e]
abbrev mA (a : ByteArray) : TermD := ⟨1, a, []⟩
abbrev mU (k : List Int) : TermD := ⟨3, ⟨#[]⟩, [k]⟩
abbrev mK (k l : List Int) : TermD := ⟨4, ⟨#[]⟩, [k, l]⟩
def n0 : List Int := nmL ((0 : Nat) : Int)
def n1 : List Int := nmL ((1 : Nat) : Int)
def n2 : List Int := nmL ((2 : Nat) : Int)
def n3 : List Int := nmL ((3 : Nat) : Int)
def n4 : List Int := nmL ((4 : Nat) : Int)
theorem n01 : ¬ n0 = n1 := by decide
theorem n0_by : By n0 := nmL_by _
theorem n1_by : By n1 := nmL_by _
theorem p0 : pk n0 = some 0 := pk_nm (by omega)
theorem p1_ : pk n1 = some 1 := pk_nm (by omega)
theorem p2_ : pk n2 = some 2 := pk_nm (by omega)
theorem p3_ : pk n3 = some 3 := pk_nm (by omega)
theorem p4_ : pk n4 = some 4 := pk_nm (by omega)
def tD (a b : ByteArray) : List TermD := [mA a, mA b, mU n0, mU n1, mK n0 n1]
def tE (a : ByteArray) : List TermD := [mA a, mU n0, mK n0 n0]
structure MeetD (a b : ByteArray) (X Y U V K : List Int) (T1 T2 T3 T4 T5 : List TermD) (KT : TermD) : Prop where
 h1 : addT (mA a) [] = T1 ∧ nmL (nameT (mA a) []) = X
 h2 : addT (mA b) T1 = T2 ∧ nmL (nameT (mA b) T1) = Y
 h3 : addT (mU X) T2 = T3 ∧ nmL (nameT (mU X) T2) = U
 h4 : addT (mU Y) T3 = T4 ∧ nmL (nameT (mU Y) T3) = V
 h5 : agreeT T4 X V = KT ∧ V ≠ zl 32 ∧ addT KT T4 = T5 ∧ nmL (nameT KT T4) = K
 h6 : agreeT T5 Y U = KT ∧ U ≠ zl 32 ∧ addT KT T5 = T5 ∧ nmL (nameT KT T5) = K
 w : TWf T5
 len : T1.length ≤ 5 ∧ T2.length ≤ 5 ∧ T3.length ≤ 5 ∧ T4.length ≤ 5 ∧ T5.length ≤ 5
 f1 : fol (folL T5 [X, V]) K = true
 f2 : fol (folL T5 [Y, U]) K = true
 f3 : fol (folL T5 [U, V]) K = false
 f4 : fol (folL T5 [X]) K = decide (a = b)
theorem mA_wf {a : ByteArray} (h : a.size ≤ 300) : (mA a).Wf := wf_atom (by omega)
theorem mU_wf {k : List Int} (h : k.length = 32) (hb : By k) : (mU k).Wf := wf_pub h hb
theorem mK_wf {k l : List Int} (h : k.length = 32) (hb : By k) (hl : l.length = 32) (hbl : By l) : (mK k l).Wf := wf_two (.inl rfl) h hb hl hbl
section
variable {a b : ByteArray} (ha : a.size ≤ 300) (hb : b.size ≤ 300)
include ha hb in
theorem tD_wf : ∀ x ∈ tD a b, x.Wf := by
 intro x hx
 simp only [tD, List.mem_cons, List.not_mem_nil, or_false] at hx
 rcases hx with rfl | rfl | rfl | rfl | rfl
 ·exact mA_wf ha
 ·exact mA_wf hb
 ·exact mU_wf rfl n0_by
 ·exact mU_wf rfl n1_by
 ·exact mK_wf rfl n0_by rfl n1_by
theorem tD_nd (hne : ¬ a = b) : (tD a b).Nodup := by
 have := n01
 simp [tD, hne, this]
include ha in
theorem tE_wf : ∀ x ∈ tE a, x.Wf := by
 intro x hx
 simp only [tE, List.mem_cons, List.not_mem_nil, or_false] at hx
 rcases hx with rfl | rfl | rfl
 ·exact mA_wf ha
 ·exact mU_wf rfl n0_by
 ·exact mK_wf rfl n0_by rfl n0_by
theorem tE_nd : (tE a).Nodup := by simp [tE]
include ha hb in
theorem tD_tw : TWf (tD a b) := ⟨tD_wf ha hb, by simp [tD], fun x hx h4 => by
 simp only [tD, List.mem_cons, List.not_mem_nil, or_false] at hx
 rcases hx with rfl | rfl | rfl | rfl | rfl
 ·exact absurd (show (1 : Nat) = 4 from h4) (by decide)
 ·exact absurd (show (1 : Nat) = 4 from h4) (by decide)
 ·exact absurd (show (3 : Nat) = 4 from h4) (by decide)
 ·exact absurd (show (3 : Nat) = 4 from h4) (by decide)
 ·exact ⟨n0, n1, rfl, mU_wf rfl n0_by, mU_wf rfl n1_by⟩⟩
include ha in
theorem tE_tw : TWf (tE a) := ⟨tE_wf ha, by simp [tE], fun x hx h4 => by
 simp only [tE, List.mem_cons, List.not_mem_nil, or_false] at hx
 rcases hx with rfl | rfl | rfl
 ·exact absurd (show (1 : Nat) = 4 from h4) (by decide)
 ·exact absurd (show (3 : Nat) = 4 from h4) (by decide)
 ·exact ⟨n0, n0, rfl, mU_wf rfl n0_by, mU_wf rfl n0_by⟩⟩
include ha hb in
theorem pub0 (hne : ¬ a = b) (C : List Bool) : pubK (tD a b) C n0 = kw C 2 := by
 unfold pubK
 rw [place_eq (mU_wf rfl n0_by) (tD_wf ha hb) (tD_nd hne) (i := 2) rfl]
include ha hb in
theorem pub1 (hne : ¬ a = b) (C : List Bool) : pubK (tD a b) C n1 = kw C 3 := by
 unfold pubK
 rw [place_eq (mU_wf rfl n1_by) (tD_wf ha hb) (tD_nd hne) (i := 3) rfl]
theorem folN {C : List Bool} {k : List Int} {i : Nat} (h : pk k = some i) : fol C k = kw C i := by unfold fol; rw [h]
include ha hb in
theorem mks4 (hne : ¬ a = b) (C : List Bool) : mks (tD a b) C (trm (tD a b) 4) = (kw C 0 && (kw C 1 || kw C 3) || kw C 1 && (kw C 0 || kw C 2)) := by
 have : trm (tD a b) 4 = mK n0 n1 := rfl
 rw [this]
 unfold mks agrS
 rw [if_neg (by decide), if_pos rfl]
 show (fol C n0 && (fol C n1 || pubK (tD a b) C n1) || fol C n1 && (fol C n0 || pubK (tD a b) C n0)) = _
 rw [folN p0, folN p1_, pub0 ha hb hne, pub1 ha hb hne]
include ha hb in
theorem d_f1 (hne : ¬ a = b) : fol (folL (tD a b) [n0, n3]) n4 = true := by
 have hc := fol_closed (tD_tw ha hb) [n0, n3]
 have s0 : kw (folL (tD a b) [n0, n3]) 0 = true := fol_seen (k := n0) (by simp) p0 (by simp [tD])
 have s3 : kw (folL (tD a b) [n0, n3]) 3 = true := fol_seen (k := n3) (by simp) p3_ (by simp [tD])
 rw [folN p4_]
 exact hc.made 4 (by simp [tD]) (by rw [mks4 ha hb hne, s0, s3]; simp)
include ha hb in
theorem d_f2 (hne : ¬ a = b) : fol (folL (tD a b) [n1, n2]) n4 = true := by
 have hc := fol_closed (tD_tw ha hb) [n1, n2]
 have s1 : kw (folL (tD a b) [n1, n2]) 1 = true := fol_seen (k := n1) (by simp) p1_ (by simp [tD])
 have s2 : kw (folL (tD a b) [n1, n2]) 2 = true := fol_seen (k := n2) (by simp) p2_ (by simp [tD])
 rw [folN p4_]
 exact hc.made 4 (by simp [tD]) (by rw [mks4 ha hb hne, s1, s2]; simp)
theorem mks1 (T : List TermD) (C : List Bool) (a : ByteArray) : mks T C (mA a) = false := rfl
theorem mks3 (T : List TermD) (C : List Bool) (k : List Int) : mks T C (mU k) = fol C k := by
 show List.all [k] (fol C) = _
 simp
include ha hb in
theorem cl_D (hne : ¬ a = b) {C : List Bool} (h2 : kw C 0 = true → kw C 2 = true) (h3 : kw C 1 = true → kw C 3 = true) (h4 : (kw C 0 && (kw C 1 || kw C 3) || kw C 1 && (kw C 0 || kw C 2)) = true → kw C 4 = true) : Cl (tD a b) C := by
 have t0 : trm (tD a b) 0 = mA a := rfl
 have t1 : trm (tD a b) 1 = mA b := rfl
 have t2 : trm (tD a b) 2 = mU n0 := rfl
 have t3 : trm (tD a b) 3 = mU n1 := rfl
 have t4 : trm (tD a b) 4 = mK n0 n1 := rfl
 refine ⟨fun i hi hm => ?_, fun i hi h6 => ?_⟩
 ·have hi : i = 0 ∨ i = 1 ∨ i = 2 ∨ i = 3 ∨ i = 4 := by simp [tD] at hi; omega
  rcases hi with rfl | rfl | rfl | rfl | rfl
  ·rw [t0, mks1] at hm; cases hm
  ·rw [t1, mks1] at hm; cases hm
  ·rw [t2, mks3, folN p0] at hm; exact h2 hm
  ·rw [t3, mks3, folN p1_] at hm; exact h3 hm
  ·rw [mks4 ha hb hne] at hm; exact h4 hm
 ·have hi : i = 0 ∨ i = 1 ∨ i = 2 ∨ i = 3 ∨ i = 4 := by simp [tD] at hi; omega
  rcases hi with rfl | rfl | rfl | rfl | rfl
  ·rw [t0] at h6; cases h6
  ·rw [t1] at h6; cases h6
  ·rw [t2] at h6; cases h6
  ·rw [t3] at h6; cases h6
  ·rw [t4] at h6; cases h6
include ha hb in
theorem d_f3 (hne : ¬ a = b) : fol (folL (tD a b) [n2, n3]) n4 = false := by
 rw [folN p4_]
 have hs := fol_sound (T := tD a b) (by simp [tD]) (C := [false, false, true, true, false]) (cl_D ha hb hne (by decide) (by decide) (by decide)) (seen := [n2, n3]) (fun k hk p h1 _ => by
  simp only [List.mem_cons, List.not_mem_nil, or_false] at hk
  rcases hk with rfl | rfl
  ·rw [p2_] at h1; cases h1; rfl
  ·rw [p3_] at h1; cases h1; rfl)
 cases h : kw (folL (tD a b) [n2, n3]) 4 with
 | false => rfl
 | true => exact absurd (hs 4 h) (by decide)
include ha hb in
theorem d_f4 (hne : ¬ a = b) : fol (folL (tD a b) [n0]) n4 = false := by
 rw [folN p4_]
 have hs := fol_sound (T := tD a b) (by simp [tD]) (C := [true, false, true, false, false]) (cl_D ha hb hne (by decide) (by decide) (by decide)) (seen := [n0]) (fun k hk p h1 _ => by
  rw [List.mem_singleton.1 hk, p0] at h1; cases h1; rfl)
 cases h : kw (folL (tD a b) [n0]) 4 with
 | false => rfl
 | true => exact absurd (hs 4 h) (by decide)
theorem mksE (C : List Bool) : mks (tE a) C (trm (tE a) 2) = kw C 0 := by
 have : trm (tE a) 2 = mK n0 n0 := rfl
 rw [this]
 unfold mks agrS
 rw [if_neg (by decide), if_pos rfl]
 show (fol C n0 && (fol C n0 || pubK (tE a) C n0) || fol C n0 && (fol C n0 || pubK (tE a) C n0)) = _
 rw [folN p0]
 cases kw C 0 <;> rfl
include ha in
theorem e_pos {seen : List (List Int)} (h : n0 ∈ seen) : fol (folL (tE a) seen) n2 = true := by
 have hc := fol_closed (tE_tw ha) seen
 have s0 : kw (folL (tE a) seen) 0 = true := fol_seen h p0 (by simp [tE])
 rw [folN p2_]
 exact hc.made 2 (by simp [tE]) (by rw [mksE, s0])
theorem e_neg : fol (folL (tE a) [n1, n1]) n2 = false := by
 rw [folN p2_]
 have t0 : trm (tE a) 0 = mA a := rfl
 have t1 : trm (tE a) 1 = mU n0 := rfl
 have t2 : trm (tE a) 2 = mK n0 n0 := rfl
 have hcl : Cl (tE a) [false, true, false] := by
  refine ⟨fun i hi hm => ?_, fun i hi h6 => ?_⟩
  ·have hi : i = 0 ∨ i = 1 ∨ i = 2 := by simp [tE] at hi; omega
   rcases hi with rfl | rfl | rfl
   ·rw [t0, mks1] at hm; cases hm
   ·rfl
   ·rw [mksE] at hm; cases hm
  ·have hi : i = 0 ∨ i = 1 ∨ i = 2 := by simp [tE] at hi; omega
   rcases hi with rfl | rfl | rfl
   ·rw [t0] at h6; cases h6
   ·rw [t1] at h6; cases h6
   ·rw [t2] at h6; cases h6
 have hs := fol_sound (T := tE a) (by simp [tE]) hcl (seen := [n1, n1]) (fun k hk p h1 _ => by
  simp only [List.mem_cons, List.not_mem_nil, or_false, or_self] at hk
  rw [hk, p1_] at h1; cases h1; rfl)
 cases h : kw (folL (tE a) [n1, n1]) 2 with
 | false => rfl
 | true => exact absurd (hs 2 h) (by decide)
theorem sub_wf {T T' : List TermD} (h : ∀ x ∈ T', x.Wf) (hs : T <+: T') : ∀ x ∈ T, x.Wf := fun x hx => h x (hs.subset hx)
theorem agr_of {T : List TermD} {s p c : List Int} (h : findT T p = some (mU c)) : agreeT T s p = if 0 < cmpL s c then mK c s else mK s c := by
 unfold agreeT
 rw [h]
 rfl
include ha hb in
theorem meet_ne (hne : ¬ a = b) : MeetD a b n0 n1 n2 n3 n4 [mA a] [mA a, mA b] [mA a, mA b, mU n0] [mA a, mA b, mU n0, mU n1] (tD a b) (mK n0 n1) := by
 have hw := tD_wf ha hb
 have e1 := add_new (T := []) (mA_wf ha) (by simp) (by simp)
 have e2 := add_new (T := [mA a]) (mA_wf hb) (sub_wf hw ⟨_, rfl⟩) (by simp [Ne.symm hne])
 have e3 := add_new (T := [mA a, mA b]) (mU_wf (k := n0) rfl n0_by) (sub_wf hw ⟨_, rfl⟩) (by simp)
 have e4 := add_new (T := [mA a, mA b, mU n0]) (mU_wf (k := n1) rfl n1_by) (sub_wf hw ⟨_, rfl⟩) (by simp [Ne.symm n01])
 have e5 := add_new (T := [mA a, mA b, mU n0, mU n1]) (mK_wf (k := n0) (l := n1) rfl n0_by rfl n1_by) (sub_wf hw ⟨_, rfl⟩) (by simp)
 have e6 := add_old (x := mK n0 n1) (mK_wf rfl n0_by rfl n1_by) hw (tD_nd hne) (i := 4) rfl
 have g1 : findT [mA a, mA b, mU n0, mU n1] n3 = some (mU n1) := rfl
 have g2 : findT (tD a b) n2 = some (mU n0) := rfl
 refine ⟨⟨e1.1, by rw [e1.2]; rfl⟩, ⟨e2.1, by rw [e2.2]; rfl⟩, ⟨e3.1, by rw [e3.2]; rfl⟩, ⟨e4.1, by rw [e4.2]; rfl⟩, ⟨?_, by decide, e5.1, by rw [e5.2]; rfl⟩, ⟨?_, by decide, e6.1, by rw [e6.2]; rfl⟩, tD_tw ha hb, by simp [tD], d_f1 ha hb hne, d_f2 ha hb hne, d_f3 ha hb hne, by rw [d_f4 ha hb hne, decide_eq_false hne]⟩
 ·rw [agr_of g1, if_neg (by decide)]
 ·rw [agr_of g2, if_pos (by decide)]
include ha in
theorem meet_eq : MeetD a a n0 n0 n1 n1 n2 [mA a] [mA a] [mA a, mU n0] [mA a, mU n0] (tE a) (mK n0 n0) := by
 have hw := tE_wf ha
 have e1 := add_new (T := []) (mA_wf ha) (by simp) (by simp)
 have e2 := add_old (x := mA a) (T := [mA a]) (mA_wf ha) (sub_wf hw ⟨_, rfl⟩) (by simp) (i := 0) rfl
 have e3 := add_new (T := [mA a]) (mU_wf (k := n0) rfl n0_by) (sub_wf hw ⟨_, rfl⟩) (by simp)
 have e4 := add_old (x := mU n0) (T := [mA a, mU n0]) (mU_wf (k := n0) rfl n0_by) (sub_wf hw ⟨_, rfl⟩) (by simp) (i := 1) rfl
 have e5 := add_new (T := [mA a, mU n0]) (mK_wf (k := n0) (l := n0) rfl n0_by rfl n0_by) (sub_wf hw ⟨_, rfl⟩) (by simp)
 have e6 := add_old (x := mK n0 n0) (mK_wf rfl n0_by rfl n0_by) hw tE_nd (i := 2) rfl
 have g1 : findT [mA a, mU n0] n1 = some (mU n0) := rfl
 have g2 : findT (tE a) n1 = some (mU n0) := rfl
 refine ⟨⟨e1.1, by rw [e1.2]; rfl⟩, ⟨e2.1, by rw [e2.2]; rfl⟩, ⟨e3.1, by rw [e3.2]; rfl⟩, ⟨e4.1, by rw [e4.2]; rfl⟩, ⟨?_, by decide, e5.1, by rw [e5.2]; rfl⟩, ⟨?_, by decide, e6.1, by rw [e6.2]; rfl⟩, tE_tw ha, by simp [tE], e_pos ha (by simp), e_pos ha (by simp), e_neg, by rw [e_pos ha (by simp), decide_eq_true rfl]⟩
 ·rw [agr_of g1]; split <;> rfl
 ·rw [agr_of g2]; split <;> rfl
end
end
end Go.Proofs.YtecjhpamfkfilaaDoor
