/-
  Append.
  A commit on a disk that is well: the records are there then.
  A journal over a disk that is well; acts.
  alive; JournalKept.
  JournalKept.
-/
import Derived.Test.YtgamobjfeaeddaaDoorMeF
import Derived.Test.YtgamobjfeaeddaaDoorMeC
namespace Go.Proofs.YtgamobjfeaeddaaDoor
section
open Go Go.RowKit
set_option linter.unusedSimpArgs false
set_option linter.unusedVariables false
set_option maxRecDepth 100000
set_option maxHeartbeats 4000000

theorem pages_len (J : JM) (a b : Nat) (xs : List Int) : (J.pages a b xs).length ≤ (xs.length + 510) / 256 := by
  unfold JM.pages
  rw [pgL_len]
  have : (J.pageB a b xs).length ≤ xs.length + 255 := by
    unfold JM.pageB
    split
    · omega
    · rw [List.length_append, List.length_take]; omega
  omega
theorem commit_ac {nro : Nat} {H : AH} (hG : GG H) (hnl : nro ≤ H.length) {q d : Nat} {rv : Value} {FD FR : List Nat} {J : JM} (h : JrR H q d rv FD FR J) (hn : ∀ j ∈ q :: (FD ++ FR), nro ≤ j) (h2 : 2 ≤ H.length) (a b : Nat) (ha : a ≤ 1) (xs : List Int) (hxb : By xs) (hxl : b + xs.length ≤ J.half * 256) (hfew : J.D.uns.length + (xs.length + 510) / 256 + 1 < 1000) :
    AC Tryd.prog nro gm 42 #[.pointer (some ⟨q, 0, none⟩), .int .i64 (a : Nat), .int .i64 (b : Nat), .string (strOfNums xs)] H
      (fun v' H' => CommitQ H q d rv FD FR J a (b + xs.length) (commitR J.D (J.pages a b xs) [(0, fillB (markL a (b + xs.length)))]) v' H') := by
  have hlt : ∀ j ∈ q :: (FD ++ FR), j < H.length := fun j hj => by
    simp only [List.mem_cons, List.mem_append] at hj
    rcases hj with rfl | hj | hj
    · exact hget_lt h.hq
    · exact h.hd.lt j hj
    · exact h.hr.lt j hj
  have hbd : J.half * 256 ≤ 200000 := by
    have := h.hd.1.most
    unfold JM.half
    omega
  have hpl := pages_len J a b xs
  exact commit_go hnl h hn a b (b + xs.length) ha xs (markL a (b + xs.length)) (fillB (markL a (b + xs.length))) (J.pages a b xs) rfl (by omega) (by omega) (mark_rc hG a (b + xs.length) (by omega) (by omega)) (filled_vc _ (by rw [markL_len]; omega))
    (fun G hl => pages_ac (by have := hl.2; omega) (h.low (fun j hj => hl.1 j (hlt j hj)) hl.2) a b ha xs hxb hxl)
/-- What Append makes of a journal. -/
def appJ (J : JM) (ps : List ByteArray) : JM × Int :=
  if J.half * 256 < J.size + (textsB ps).length then (J, 8)
  else if ps = [] then (J, 0)
  else if (commitR J.D (J.pages J.area J.size (textsB ps)) [(0, fillB (markL J.area (J.size + (textsB ps).length)))]).2 = 0 then (⟨(commitR J.D (J.pages J.area J.size (textsB ps)) [(0, fillB (markL J.area (J.size + (textsB ps).length)))]).1, J.recs ++ ps, J.area, J.size + (textsB ps).length⟩, 0)
  else (⟨(commitR J.D (J.pages J.area J.size (textsB ps)) [(0, fillB (markL J.area (J.size + (textsB ps).length)))]).1, J.recs, J.area, J.size⟩, 7)
def AppQ (H : AH) (q d : Nat) (FD FR : List Nat) (r : JM × Int) (v' : Value) (H' : AH) : Prop :=
  v' = .int .i64 r.2 ∧ ∃ rv' FD' FR', JrR H' q d rv' FD' FR' r.1 ∧ Fr H H' (q :: (FD ++ FR)) (q :: (FD' ++ FR'))
theorem SlV.part {H : AH} {v : Value} {cells : List Value} (h : SlV H v cells) (hne : cells ≠ []) : Part H H.length v cells := by
  rcases h with ⟨a, rfl, rfl⟩ | ⟨j, off, k, rfl, hb, hc⟩
  · exact absurd rfl hne
  · refine ⟨⟨_, _, rfl⟩, fun G hg => ?_⟩
    have h0 : 0 < cells.length := List.length_pos_iff.2 hne
    have hle : off + cells.length ≤ k.cells.length := by
      have := hc (cells.length - 1) _ (List.getElem?_eq_getElem (by omega))
      have := (List.getElem?_eq_some_iff.1 this).1
      omega
    have he : (k.cells.drop off).take cells.length = cells := by
      apply List.ext_getElem?
      intro i
      rcases Nat.lt_or_ge i cells.length with hi | hi
      · rw [List.getElem?_take_of_lt hi, List.getElem?_drop, List.getElem?_eq_getElem hi]
        exact hc i _ (List.getElem?_eq_getElem hi)
      · rw [List.getElem?_eq_none hi, List.getElem?_eq_none (by rw [List.length_take]; omega)]
    unfold xcells
    split
    · rename_i e; cases e
    · rename_i e; cases e
    · rename_i e
      cases e
      rw [hg j (hget_lt hb), hb]
      simp only [Nat.mul_one]
      rw [if_pos hle, he]
    · rename_i e; cases e
    · rename_i e1 e2 e3 e4
      exact absurd rfl (e3 _ _ _ _)
theorem OwnL.g {lo : Nat} {H : AH} {v : Value} {cells : List Value} (h : OwnL lo H v cells) : ∃ F, OwnG H v cells F ∧ ∀ j ∈ F, lo ≤ j := by
  rcases h with ⟨rfl, rfl⟩ | ⟨j, cs, h1, rfl, h3, h4⟩
  · exact ⟨[], ⟨⟨none, 0, rfl⟩, by simp, fun G _ => rfl⟩, by simp⟩
  · refine ⟨[j], ⟨⟨_, _, rfl⟩, fun i hi => by simp at hi; subst hi; exact hget_lt h3, fun G hg => ?_⟩, fun i hi => by simp at hi; subst hi; exact h1⟩
    have hpl := h4.length_le
    have hpt : cs.take cells.length = cells := by obtain ⟨r, rfl⟩ := h4; simp
    have hg2 := (hg j (by simp)).trans h3
    simp [xcells, hg2, hpl, hpt]
attribute [local irreducible] commitR textsB appJ
attribute [local simp] wb_bool wb_undef XL_nil XL_cons XLc_val XLc_call step1_eq stepW_t stepW_f stepC_n stepC_s stepX_s stepX_n stepN_s calleeX oneV xop_eq xopR_s xopR_n wantedA_eq wantedG_n wantedG_s plain1_int plain1_bool plain1_string bits_i64 bits_u64 bits_u32 bits_u16 bits_u8 xeqA xagg xcmp xarr allK_iv num_iv calleeOf xread xeff xbin xint xnil xun xstr xload xconv xpart xfield xfieldAddr xindexAddr xindex bnd asInt? xslice xlen xmin xmax xbuild xfill xappend xapp2 xappstr xappmk xcap xcopy xcells eval_tmp eval_const put_at put_none fr0_at cells_agg cells_int cells_bool cells_string cells_ptr cells_slice notTuple tab iv_all hget_app hget_app0 hget_cons0 hget_cons set_app set_app0 setR setR_one QL_nil QL_cons QLc_val stepQ_t stepQ_f stepQC_n stepQC_s stepQX_s SL_nil SL_cons SLc_val stepS_t stepS_f ltT ltF leT leF eqT eqF ltTn ltFn leTn leFn eqTn eqFn beqT beqF bneT bneF wi64 wu64 wu32 wu16 wu8 tmodP tdivP hgetL hgetNe hgetEq setL nums_def nums_len Nat.succ_le_of_lt List.getElem?_cons_zero List.getElem?_cons_succ Option.getD_some Int.toNat_add Int.toNat_mul agB agI agS agP agL agA okB okI okS okP okSl okA
/-- The same over the text's own bytes, whatever they are. -/
theorem append_go {nro : Nat} {H : AH} (hnl : nro ≤ H.length) {q d : Nat} {rv v : Value} {FD FR : List Nat} {J : JM} (h : JrR H q d rv FD FR J) (ho : J.Ok) (hn : ∀ j ∈ q :: (FD ++ FR), nro ≤ j) (ps : List ByteArray) (hvs : SlS H (q :: (FD ++ FR)) v (ps.map .string)) (hps : ∀ s ∈ ps, s.size ≤ 2000) (hlen : ps.length ≤ 21) (hrl : J.recs.length ≤ 100000)
    (bs : List Int) (hbl : bs.length ≤ 100000) (r : DM × Int) (res : JM × Int) (hres : res = if J.half * 256 < J.size + bs.length then (J, 8) else if ps = [] then (J, 0) else if r.2 = 0 then (⟨r.1, J.recs ++ ps, J.area, J.size + bs.length⟩, 0) else (⟨r.1, J.recs, J.area, J.size⟩, 7))
    (hwr : AC Tryd.prog H.length gm 41 #[v] H (fun v' _ => v' = .string (strOfNums bs)))
    (hcm : ¬ J.half * 256 < J.size + bs.length → ps ≠ [] → AC Tryd.prog nro gm 42 #[.pointer (some ⟨q, 0, none⟩), .int .i64 (J.area : Nat), .int .i64 (J.size : Nat), .string (strOfNums bs)] H (fun v' H' => CommitQ H q d rv FD FR J J.area (J.size + bs.length) r v' H')) :
    AC Tryd.prog nro gm 17 #[.pointer (some ⟨q, 0, none⟩), v] H (fun v' H' => AppQ H q d FD FR res v' H') := by
  have hq := h.hq
  have hql := hget_lt hq
  have hbs := sn_size bs
  have hbd : J.half * 256 ≤ 200000 := by
    have := h.hd.1.most
    unfold JM.half
    omega
  have hsz := ho.size
  have hv := hvs.now
  have hno : notTuple v = true := by rcases hv with ⟨a, rfl, _⟩ | ⟨j, off, k, rfl, _⟩ <;> rfl
  have hvc : v.cells = #[v] := by rcases hv with ⟨a, rfl, _⟩ | ⟨j, off, k, rfl, _⟩ <;> rfl
  have hxl := hv.len (P := Tryd.prog) (t := 22) (e := 9) (by simp)
  rw [List.length_map] at hxl
  have htl := tooLong_rc (γ := gm) hv (fun s hs => by have := hps s hs; omega) (by omega)
  have hrm := room_rc (γ := gm) h ho
  refine ac_of_aw Tryd.func17 rfl Tryd.ntmps17 Tryd.results17 (by simp) ?_
  refine aw_seq ?_
  (refine aw_ops (by kernel_rfl) (fun K hK => ?_); simp (disch := first | omega | (simp only [List.length_set, List.length_append, List.length_cons, List.length_nil, iv_length, zl_length]; try omega; done)) [-getElem?_pos, -getElem?_neg]; refine hK _ _ ?_; clear hK K)
  refine aw_seq ?_
  refine aw_seq ?_
  (refine aw_ops (by kernel_rfl) (fun K hK => ?_); simp (disch := first | omega | (simp only [List.length_set, List.length_append, List.length_cons, List.length_nil, iv_length, zl_length]; try omega; done)) [-getElem?_pos, -getElem?_neg]; refine hK _ _ ?_; clear hK K)
  refine aw_f (by (first | (simp [eval_tmp, put_at]; done) | (simp [eval_tmp, put_at]; omega))) (by kernel_rfl) ?_
  refine aw_skip ?_
  refine aw_seq ?_
  refine aw_seq ?_
  refine aw_ops (by kernel_rfl) (fun K hK => ?_)
  simp (disch := first | omega | (simp only [List.length_set, List.length_append, List.length_cons, List.length_nil, iv_length, zl_length]; try omega; done)) [-getElem?_pos, -getElem?_neg, -notTuple, hno]
  refine ⟨by kernel_rfl, ac_of_rc htl (by simp [pv_iv, pv_int, pv_bool, pv_string, pv_tup2, pv_tup3, iv_plain, p2_int, p2_bool, p2_string]) ?_⟩
  try simp (disch := first | omega | (simp only [List.length_set, List.length_append, List.length_cons, List.length_nil, iv_length, zl_length]; try omega; done)) [-getElem?_pos, -getElem?_neg]
  refine hK _ _ ?_; clear hK K
  refine aw_f (by (first | (simp [eval_tmp, put_at]; done) | (simp [eval_tmp, put_at]; omega))) (by kernel_rfl) ?_
  refine aw_skip ?_
  refine aw_seq ?_
  refine aw_ops (by kernel_rfl) (fun K hK => ?_)
  simp (disch := first | omega | (simp only [List.length_set, List.length_append, List.length_cons, List.length_nil, iv_length, zl_length]; try omega; done)) [-getElem?_pos, -getElem?_neg, -notTuple, hno]
  refine ⟨by kernel_rfl, ac_of_rc hwr (by simp [pv_iv, pv_int, pv_bool, pv_string, pv_tup2, pv_tup3, iv_plain, p2_int, p2_bool, p2_string]) ?_⟩
  try simp (disch := first | omega | (simp only [List.length_set, List.length_append, List.length_cons, List.length_nil, iv_length, zl_length]; try omega; done)) [-getElem?_pos, -getElem?_neg]
  refine hK _ _ ?_; clear hK K
  refine aw_seq ?_
  refine aw_seq ?_
  refine aw_ops (by kernel_rfl) (fun K hK => ?_)
  simp (disch := first | omega | (simp only [List.length_set, List.length_append, List.length_cons, List.length_nil, iv_length, zl_length]; try omega; done)) [-getElem?_pos, -getElem?_neg, hbs]
  refine ⟨by kernel_rfl, ac_of_rc hrm (by simp [pv_iv, pv_int, pv_bool, pv_string, pv_tup2, pv_tup3, iv_plain, p2_int, p2_bool, p2_string]) ?_⟩
  by_cases hfull : J.half * 256 < J.size + bs.length
  · rw [if_pos hfull] at hres
    have hf2 : ((J.half * 256 : Nat) : Int) - (J.size : Nat) < (bs.length : Nat) := by omega
    simp only [Int.natCast_mul] at hf2
    simp (disch := first | omega | (simp only [List.length_set, List.length_append, List.length_cons, List.length_nil, iv_length, zl_length]; try omega; done)) [-getElem?_pos, -getElem?_neg, hf2]
    refine hK _ _ ?_; clear hK K
    refine aw_t (by (first | (simp [eval_tmp, put_at, hf2]; done) | (simp [eval_tmp, put_at, hf2]; omega))) (by kernel_rfl) ?_
    refine aw_seq ?_
    (refine aw_ops (by kernel_rfl) (fun K hK => ?_); simp (disch := first | omega | (simp only [List.length_set, List.length_append, List.length_cons, List.length_nil, iv_length, zl_length]; try omega; done)) [-getElem?_pos, -getElem?_neg]; refine hK _ _ ?_; clear hK K)
    (refine aw_ret ?_; simp (disch := first | omega | (simp only [List.length_set, List.length_append, List.length_cons, List.length_nil, iv_length, zl_length]; try omega; done)) [-getElem?_pos, -getElem?_neg, thenQ_ret, scopeQ_ret, inBlockQ_ret, RQ, resL, resV])
    subst hres
    exact ⟨rfl, rv, FD, FR, h, Fr.refl _ _⟩
  rw [if_neg hfull] at hres
  have hf2 : ¬ ((J.half * 256 : Nat) : Int) - (J.size : Nat) < (bs.length : Nat) := by omega
  simp only [Int.natCast_mul] at hf2
  simp (disch := first | omega | (simp only [List.length_set, List.length_append, List.length_cons, List.length_nil, iv_length, zl_length]; try omega; done)) [-getElem?_pos, -getElem?_neg, hf2]
  refine hK _ _ ?_; clear hK K
  refine aw_f (by (first | (simp [eval_tmp, put_at, hf2]; done) | (simp [eval_tmp, put_at, hf2]; omega))) (by kernel_rfl) ?_
  refine aw_skip ?_
  refine aw_seq ?_
  refine aw_seq ?_
  by_cases hnil : ps = []
  · rw [if_pos hnil] at hres
    rw [hnil] at hxl
    (refine aw_ops (by kernel_rfl) (fun K hK => ?_); simp (disch := first | omega | (simp only [List.length_set, List.length_append, List.length_cons, List.length_nil, iv_length, zl_length]; try omega; done)) [-getElem?_pos, -getElem?_neg, -notTuple, hno, -xlen, hxl]; refine hK _ _ ?_; clear hK K)
    refine aw_t (by (first | (simp [eval_tmp, put_at]; done) | (simp [eval_tmp, put_at]; omega))) (by kernel_rfl) ?_
    refine aw_seq ?_
    (refine aw_ops (by kernel_rfl) (fun K hK => ?_); simp (disch := first | omega | (simp only [List.length_set, List.length_append, List.length_cons, List.length_nil, iv_length, zl_length]; try omega; done)) [-getElem?_pos, -getElem?_neg]; refine hK _ _ ?_; clear hK K)
    (refine aw_ret ?_; simp (disch := first | omega | (simp only [List.length_set, List.length_append, List.length_cons, List.length_nil, iv_length, zl_length]; try omega; done)) [-getElem?_pos, -getElem?_neg, thenQ_ret, scopeQ_ret, inBlockQ_ret, RQ, resL, resV])
    subst hres
    exact ⟨rfl, rv, FD, FR, h, Fr.refl _ _⟩
  rw [if_neg hnil] at hres
  have hpl : 0 < ps.length := List.length_pos_iff.2 hnil
  (refine aw_ops (by kernel_rfl) (fun K hK => ?_); simp (disch := first | omega | (simp only [List.length_set, List.length_append, List.length_cons, List.length_nil, iv_length, zl_length]; try omega; done)) [-getElem?_pos, -getElem?_neg, -notTuple, hno, -xlen, hxl]; refine hK _ _ ?_; clear hK K)
  refine aw_f (by (first | (simp [eval_tmp, put_at]; done) | (simp [eval_tmp, put_at]; omega))) (by kernel_rfl) ?_
  refine aw_skip ?_
  refine aw_seq ?_
  refine aw_seq ?_
  (refine aw_plan [] [] [0, 1, 2, 3, 4, 5, 6, 7, 8, 9] 10 2 (by kernel_rfl) (by kernel_rfl) (by kernel_rfl) (fun K hK => ?_)); simp only [sel, List.getElem?_cons_succ, List.getElem?_cons_zero, List.drop_succ_cons, List.drop_zero]; simp (disch := first | omega | (simp only [List.length_set, List.length_append, List.length_cons, List.length_nil, iv_length, zl_length]; try omega; done)) [-getElem?_pos, -getElem?_neg, hq, PL_nil, PL_cons, PLc_val, PLc_new, stepP_t, stepP_f, stepPC_n, stepPC_s, stepPX_s, stepPX_n, stepPA_t, stepPA_c, stepPA_l, stepPN_s, allocOp, reloc_sl, reloc_ptr, List.map_cons, List.map_nil, List.nil_append, List.append_assoc, List.cons_append, Nat.add_assoc]
  refine ⟨by kernel_rfl, AC.mono (hcm hfull hnil) ?_⟩
  rintro _ G ⟨rfl, FD', hj, hf⟩
  have hvG : Part G G.length v (ps.map .string) := SlV.part (hvs G hf.out) (by simpa using hnil)
  try simp (disch := first | omega | (simp only [List.length_set, List.length_append, List.length_cons, List.length_nil, iv_length, zl_length]; try omega; done)) [-getElem?_pos, -getElem?_neg, PL_nil, PL_cons, PLc_val, PLc_new, stepP_t, stepP_f, stepPC_n, stepPC_s, stepPX_s, stepPX_n, stepPA_t, stepPA_c, stepPA_l, stepPN_s, allocOp, reloc_sl, reloc_ptr, List.map_cons, List.map_nil, List.nil_append, List.append_assoc, List.cons_append, Nat.add_assoc]
  refine hK _ _ ?_; clear hK K
  refine aw_seq ?_
  by_cases he : r.2 = 0
  case neg =>
    rw [if_neg he] at hj hres
    (refine aw_ops (by kernel_rfl) (fun K hK => ?_); simp (disch := first | omega | (simp only [List.length_set, List.length_append, List.length_cons, List.length_nil, iv_length, zl_length]; try omega; done)) [-getElem?_pos, -getElem?_neg, he]; refine hK _ _ ?_; clear hK K)
    refine aw_t (by (first | (simp [eval_tmp, put_at, he]; done) | (simp [eval_tmp, put_at, he]; omega))) (by kernel_rfl) ?_
    refine aw_seq ?_
    (refine aw_ops (by kernel_rfl) (fun K hK => ?_); simp (disch := first | omega | (simp only [List.length_set, List.length_append, List.length_cons, List.length_nil, iv_length, zl_length]; try omega; done)) [-getElem?_pos, -getElem?_neg, he]; refine hK _ _ ?_; clear hK K)
    (refine aw_ret ?_; simp (disch := first | omega | (simp only [List.length_set, List.length_append, List.length_cons, List.length_nil, iv_length, zl_length]; try omega; done)) [-getElem?_pos, -getElem?_neg, thenQ_ret, scopeQ_ret, inBlockQ_ret, RQ, resL, resV])
    subst hres
    exact ⟨by simp [he], rv, FD', FR, hj, hf⟩
  rw [if_pos he] at hj hres
  (refine aw_ops (by kernel_rfl) (fun K hK => ?_); simp (disch := first | omega | (simp only [List.length_set, List.length_append, List.length_cons, List.length_nil, iv_length, zl_length]; try omega; done)) [-getElem?_pos, -getElem?_neg, he]; refine hK _ _ ?_; clear hK K)
  refine aw_f (by (first | (simp [eval_tmp, put_at]; done) | (simp [eval_tmp, put_at]; omega))) (by kernel_rfl) ?_
  refine aw_skip ?_
  refine aw_seq ?_
  have hqj := hj.hq
  have hqlj := hget_lt hqj
  have hsh := hj.hr.nt
  have r2 : List.range 2 = [0, 1] := rfl
  refine aw_ops (by kernel_rfl) (fun K hK => ?_)
  simp (disch := first | omega | (simp only [List.length_set, List.length_append, List.length_cons, List.length_nil, iv_length, zl_length]; try omega; done)) [-getElem?_pos, -getElem?_neg, hqj, -notTuple, hsh.1, hsh.2, hno, hvc, nt_slJ, nt_ptrJ, r2, plain_nil]
  refine ⟨by kernel_rfl, ?_⟩
  obtain ⟨Gs, hGs⟩ : ∃ Gs : AH, Gs = G ++ [some ⟨[rv, v], 22, some 1⟩] := ⟨_, rfl⟩
  rw [← hGs]
  have hGl : Gs.length = G.length + 1 := by rw [hGs]; simp
  have hGk : ∀ j, j < G.length → hget Gs j = hget G j := fun j hj => by rw [hGs]; exact hget_left hj
  have hGn : hget Gs G.length = some ⟨[rv, v], 22, some 1⟩ := by rw [hGs, hget_app0]; rfl
  clear hGs
  have hpp : ∀ (i : Nat) (x : Value) (c : List Value), [rv, v][i]? = some x → [J.recs.map Value.string, ps.map Value.string][i]? = some c → Part Gs Gs.length x c := fun i x c hx hc => by
    have hk : ∀ x c, Part G G.length x c → Part Gs Gs.length x c := fun x c hp => hp.keep (by omega) hGk
    match i, hx, hc with
    | 0, hx, hc => cases hx; cases hc; exact hk _ _ hj.hr.part
    | 1, hx, hc => cases hx; cases hc; exact hk _ _ hvG
  have hc2 := concat_ac (nro := nro) (γ := gm) (v := v) (H := Gs) (j := G.length) (xs := [rv, v]) (L := [J.recs.map .string, ps.map .string]) hGn rfl hpp (by simp [sumL]; omega) (by simp) (by have := hf.len; omega)
  refine AC.mono hc2 ?_
  rintro v3 G3 ⟨_, ho3, hl3, hk3⟩
  obtain ⟨F3, ho3, hF3⟩ := ho3.g
  have hq3 : hget G3 q = _ := (hk3 q (by omega)).trans ((hGk q hqlj).trans hqj)
  have hsh3 := ho3.nt
  have hnq : nro ≤ q := hn q (by simp)
  simp (disch := first | omega | (simp only [List.length_set, List.length_append, List.length_cons, List.length_nil, iv_length, zl_length]; try omega; done)) [-getElem?_pos, -getElem?_neg, hq3, -notTuple, nt_slJ, nt_ptrJ, hsh3.1, hsh3.2]
  refine hK _ _ ?_; clear hK K
  refine aw_seq ?_
  (refine aw_ops (by kernel_rfl) (fun K hK => ?_); simp (disch := first | omega | (simp only [List.length_set, List.length_append, List.length_cons, List.length_nil, iv_length, zl_length]; try omega; done)) [-getElem?_pos, -getElem?_neg]; refine hK _ _ ?_; clear hK K)
  (refine aw_ret ?_; simp (disch := first | omega | (simp only [List.length_set, List.length_append, List.length_cons, List.length_nil, iv_length, zl_length]; try omega; done)) [-getElem?_pos, -getElem?_neg, thenQ_ret, scopeQ_ret, inBlockQ_ret, RQ, resL, resV])
  subst hres
  have hltJ : ∀ j ∈ q :: (FD' ++ FR), j < G.length := fun j hm => by
    simp only [List.mem_cons, List.mem_append] at hm
    rcases hm with rfl | hm | hm
    · exact hqlj
    · exact hj.hd.lt j hm
    · exact hj.hr.lt j hm
  have hk4 : ∀ j, j < G.length → hget G3 j = hget G j := fun j hm => (hk3 j (by omega)).trans (hGk j hm)
  refine ⟨by simp [he], v3, FD', F3, ⟨by rw [hget_set_eq (by omega)]; simp, hj.hd.low (fun j hm => (hget_set_ne (show q ≠ j from fun e => hj.qd (e ▸ hm))).trans (hk4 j (hj.hd.lt j hm))), ?_, hj.qd, fun hm => by have := hF3 _ hm; omega, fun j hm hm2 => by have := hF3 _ hm2; have := hj.hd.lt j hm; omega⟩, ?_⟩
  · have : (J.recs ++ ps).map Value.string = [J.recs.map Value.string, ps.map Value.string].flatten := by simp
    rw [this]
    exact ho3.low (fun j hm => hget_set_ne (by have := hF3 _ hm; omega)) (by simp)
  · refine ⟨by have := hf.len; simp; omega, fun j hm hne => ?_, fun j hm => ?_⟩
    · rw [hget_set_ne (fun e => hne (by simp [e])), hk4 j (Nat.lt_of_lt_of_le hm hf.len), hf.out j hm hne]
    · simp only [List.mem_cons, List.mem_append] at hm
      rcases hm with rfl | hm | hm
      · exact .inl (by simp)
      · exact hf.new j (by simp [hm])
      · exact .inr (by have := hF3 _ hm; have := hf.len; omega)
theorem append_ac {nro : Nat} {H : AH} (hG : GG H) (hnl : nro ≤ H.length) (h2 : 2 ≤ H.length) {q d : Nat} {rv v : Value} {FD FR : List Nat} {J : JM} (h : JrR H q d rv FD FR J) (ho : J.Ok) (hn : ∀ j ∈ q :: (FD ++ FR), nro ≤ j) (ps : List ByteArray) (hvs : SlS H (q :: (FD ++ FR)) v (ps.map .string)) (hps : ∀ s ∈ ps, s.size ≤ 2000) (hlen : ps.length ≤ 21) (hrl : J.recs.length ≤ 100000)
    (hbl : (textsB ps).length ≤ 100000) (hby : By (textsB ps)) (hfew : J.D.uns.length ≤ 500) :
    AC Tryd.prog nro gm 17 #[.pointer (some ⟨q, 0, none⟩), v] H (fun v' H' => AppQ H q d FD FR (appJ J ps) v' H') := by
  have hbd : J.half * 256 ≤ 200000 := by
    have := h.hd.1.most
    unfold JM.half
    omega
  exact append_go hnl h ho hn ps hvs hps hlen hrl (textsB ps) hbl _ _ (by unfold appJ; rfl) (written_rc hvs.now (fun s hs => by have := hps s hs; omega) (by omega))
    (fun hr hne => commit_ac hG hnl h hn h2 J.area J.size ho.area (textsB ps) hby (by omega) (by omega))
end

section
open Go Go.RowKit
set_option linter.unusedSimpArgs false
set_option linter.unusedVariables false
set_option maxRecDepth 100000
set_option maxHeartbeats 4000000

theorem puts_one (D : DM) (p : Nat × List Int) (ps : Pgs) : D.puts (p :: ps) = (D.put (p.1 : Nat) (strOfNums p.2)).puts ps := rfl
theorem wrAll_well : ∀ (ps : Pgs) (D : DM), D.Well → (∀ p ∈ ps, p.1 < D.firm.length ∧ p.2.length = 256) → wrAll D ps = (D.puts ps, 0) ∧ (D.puts ps).Well
  | [], D, h, _ => ⟨rfl, h⟩
  | p :: ps, D, h, hp => by
    have h1 := hp p (by simp)
    have hok : okW D (p.1 : Nat) (strOfNums p.2) = true := by
      unfold okW hasB
      rw [sn_size]
      simp [h1.1, h1.2]
    obtain ⟨e1, e2, e3⟩ := write_well h hok
    have ih := wrAll_well ps (D.put (p.1 : Nat) (strOfNums p.2)) e3 (fun q hq => hp q (by simp [hq]))
    rw [puts_one]
    refine ⟨?_, ih.2⟩
    unfold wrAll
    rw [if_pos e2, e1]
    exact ih.1
/-- A disk on which pages were written and settled. -/
def DM.done (D : DM) (ps : Pgs) : DM := { (D.puts ps) with firm := (D.puts ps).late, uns := [] }
theorem wrSync_well {D : DM} {ps : Pgs} (h : D.Well) (hp : ∀ p ∈ ps, p.1 < D.firm.length ∧ p.2.length = 256) : wrSync D ps = (D.done ps, 0) ∧ (D.done ps).Well ∧ (D.done ps).uns = [] ∧ (D.done ps).firm.length = D.firm.length ∧ (D.done ps).late = (D.puts ps).late := by
  obtain ⟨h1, h2⟩ := wrAll_well ps D h hp
  obtain ⟨h3, h4, h5⟩ := sync_well h2
  have hl : (D.puts ps).late.length = D.firm.length := by
    unfold DM.late
    rw [late_len, puts_firm]
  refine ⟨?_, h5, rfl, hl, settled_late rfl⟩
  unfold wrSync
  rw [h1]
  simp only [if_true]
  rw [h3, h4]
  rfl
theorem catK_app (L : List ByteArray) (s i : Nat) : ∀ k, catK L s (i + k) = catK L s i ++ catK L (s + i) k
  | 0 => by simp [catK]
  | k + 1 => by
    rw [← Nat.add_assoc, catK, catK_app L s i k, catK, List.append_assoc, Nat.add_assoc]
theorem catK_same {L L' : List ByteArray} {s : Nat} : ∀ k, (∀ j, s ≤ j → j < s + k → L'.getD j ⟨#[]⟩ = L.getD j ⟨#[]⟩) → catK L' s k = catK L s k
  | 0, _ => rfl
  | k + 1, h => by
    rw [catK, catK, catK_same k (fun j h1 h2 => h j h1 (by omega)), h (s + k) (by omega) (by omega)]
/-- The blocks that pages were written to: their bytes, and noughts. -/
theorem catK_pages {L : List ByteArray} {A : Nat} {Y : List Int} (hY : By Y) : ∀ k, 256 * k ≤ Y.length + 255 → (∀ j, A ≤ j → j < A + k → L.getD j ⟨#[]⟩ = strOfNums (fillB ((Y.drop (256 * (j - A))).take 256))) → (catK L A k).take Y.length = Y.take (256 * k)
  | 0, _, _ => by simp [catK]
  | k + 1, hk, h => by
    have ih := catK_pages hY k (by omega) (fun j h1 h2 => h j h1 (by omega))
    have hl : (catK L A k).length = 256 * k := by
      clear ih hk
      induction k with
      | zero => rfl
      | succ k ih =>
        rw [catK, List.length_append, ih (fun j h1 h2 => h j h1 (by omega)), nums_len, h (A + k) (by omega) (by omega), sn_size, fillB_len (by rw [List.length_take]; omega)]
        omega
    have hk2 : 256 * k ≤ Y.length := by omega
    rw [catK, h (A + k) (by omega) (by omega), nums_of _ (fillB_by ((hY.drop _).take _)), List.take_append, ih, hl, show A + k - A = k by omega]
    have e1 : Y.take (256 * (k + 1)) = Y.take (256 * k) ++ (Y.drop (256 * k)).take 256 := by
      rw [show 256 * (k + 1) = 256 * k + 256 by omega, List.take_add]
    rw [e1]
    congr 1
    have hwl : ((Y.drop (256 * k)).take 256).length = min 256 (Y.length - 256 * k) := by rw [List.length_take, List.length_drop]
    generalize (Y.drop (256 * k)).take 256 = W at *
    unfold fillB
    by_cases hr : Y.length - 256 * k ≤ 256
    · rw [List.take_append_of_le_length (by omega), List.take_of_length_le (by omega)]
    · have : 256 - W.length = 0 := by omega
      rw [this, List.take_of_length_le]
      · simp [zl]
      · rw [List.length_append, zl_length]; omega
theorem catK_pages_len {L : List ByteArray} {A : Nat} {Y : List Int} : ∀ k, (∀ j, A ≤ j → j < A + k → L.getD j ⟨#[]⟩ = strOfNums (fillB ((Y.drop (256 * (j - A))).take 256))) → (catK L A k).length = 256 * k
  | 0, _ => rfl
  | k + 1, h => by
    rw [catK, List.length_append, catK_pages_len k (fun j h1 h2 => h j h1 (by omega)), nums_len, h (A + k) (by omega) (by omega), sn_size, fillB_len (by rw [List.length_take]; omega)]
    omega
theorem pgL_mem {s : Nat} {l : List Int} {p : Nat × List Int} : ∀ {k : Nat}, p ∈ pgL s l k → s ≤ p.1 ∧ p.1 < s + k ∧ p.2.length = 256
  | 0, h => by simp [pgL] at h
  | k + 1, h => by
    simp only [pgL, List.mem_append, List.mem_singleton] at h
    rcases h with h | rfl
    · have := pgL_mem h
      omega
    · exact ⟨by simp, by simp, fillB_len (by rw [List.length_take]; omega)⟩
/-- Records on a disk, but for the mark. -/
structure Base (D : DM) (a : Nat) (recs : List ByteArray) : Prop where
  three : 3 ≤ D.firm.length
  most : D.firm.length ≤ 1024
  area : a ≤ 1
  room : (textsB recs).length ≤ (D.firm.length - 1) / 2 * 256
  data : (catK D.late (1 + a * ((D.firm.length - 1) / 2)) ((D.firm.length - 1) / 2)).take (textsB recs).length = textsB recs
  small : ∀ s ∈ recs, s.size ≤ 60000
theorem Holds.base {D : DM} {a : Nat} {recs : List ByteArray} (h : Holds D a recs) : Base D a recs := ⟨h.three, h.most, h.area, h.room, h.data, h.small⟩
theorem commit_well {D : DM} {a : Nat} {recs ps : List ByteArray} (hw : D.Well) (h : Base D a recs) (hrows : ∀ r ∈ D.late, r.size = 256) (hps : ∀ s ∈ ps, s.size ≤ 60000) (hby : By (textsB ps)) (hroom : (textsB recs).length + (textsB ps).length ≤ (D.firm.length - 1) / 2 * 256) :
    ∃ D', commitR D (JM.pages ⟨D, recs, a, (textsB recs).length⟩ a (textsB recs).length (textsB ps)) [(0, fillB (markL a ((textsB recs).length + (textsB ps).length)))] = (D', 0) ∧ D'.Well ∧ D'.uns = [] ∧ D'.firm.length = D.firm.length ∧ Holds D' a (recs ++ ps) := by
  have h3 := h.three
  have h4 := h.most
  have hta : textsB (recs ++ ps) = textsB recs ++ textsB ps := by simp [textsB]
  have hdat := h.data
  have hml := markL_len a ((textsB recs).length + (textsB ps).length)
  have hmb := markL_by a ((textsB recs).length + (textsB ps).length)
  have hll : D.late.length = D.firm.length := late_len _ _
  obtain ⟨Hf, hHf⟩ : ∃ Hf, Hf = (D.firm.length - 1) / 2 := ⟨_, rfl⟩
  obtain ⟨b, hb⟩ : ∃ b, b = (textsB recs).length := ⟨_, rfl⟩
  obtain ⟨xs, hxs⟩ : ∃ xs, xs = textsB ps := ⟨_, rfl⟩
  obtain ⟨R, hR⟩ : ∃ R, R = textsB recs := ⟨_, rfl⟩
  have hN : 2 * Hf + 1 ≤ D.firm.length := by omega
  have ha := h.area
  obtain ⟨s, hs⟩ : ∃ s, s = 1 + a * Hf := ⟨_, rfl⟩
  have hsb : s + Hf ≤ D.firm.length := by
    rcases Nat.le_one_iff_eq_zero_or_eq_one.1 ha with e | e <;> rw [e] at hs <;> omega
  obtain ⟨A, hA⟩ : ∃ A, A = s + b / 256 := ⟨_, rfl⟩
  rw [← hb, ← hxs] at hml hmb hroom ⊢
  rw [← hHf] at hdat hroom
  rw [← hs, ← hR] at hdat
  have hRl : R.length = b := by rw [hR, hb]
  have hRby : By R := by
    rw [← hdat]
    exact (catK_by _ _ _).take _
  obtain ⟨Y, hY⟩ : ∃ Y, Y = (if b % 256 = 0 then xs else (nums (D.late.getD A ⟨#[]⟩)).take (b % 256) ++ xs) := ⟨_, rfl⟩
  have hAb : b % 256 ≠ 0 → A < D.firm.length := fun _ => by omega
  have hYl : Y.length = b % 256 + xs.length := by
    rw [hY]
    split
    · omega
    · rename_i hne
      have hsz : (D.late.getD A ⟨#[]⟩).size = 256 := by
        have := hAb hne
        rw [List.getD_eq_getElem?_getD, List.getElem?_eq_getElem (by omega)]
        exact hrows _ (List.getElem_mem _)
      rw [List.length_append, List.length_take, nums_len, hsz]
      omega
  have hYb : By Y := by
    rw [hY, hxs]
    split
    · exact hby
    · exact (By.take (fun x hx => nums_bd _ x hx) _).app hby
  obtain ⟨k, hk⟩ : ∃ k, k = (Y.length + 255) / 256 := ⟨_, rfl⟩
  have hpg : JM.pages ⟨D, recs, a, b⟩ a b xs = pgL A Y k := by
    have e1 : JM.pageAt ⟨D, recs, a, b⟩ a b = A := by
      unfold JM.pageAt JM.start JM.half
      rw [hA, hs, hHf]
    have e2 : JM.pageB ⟨D, recs, a, b⟩ a b xs = Y := by
      unfold JM.pageB
      rw [e1, hY]
    unfold JM.pages
    rw [e1, e2, hk]
  rw [hpg]
  have hAk : A + k ≤ s + Hf := by omega
  obtain ⟨w1, w2, w3, w4, w5⟩ := wrSync_well (D := D) (ps := pgL A Y k) hw (fun p hp => by have := pgL_mem hp; omega)
  obtain ⟨v1, v2, v3, v4, v5⟩ := wrSync_well (D := D.done (pgL A Y k)) (ps := [(0, fillB (markL a (b + xs.length)))]) w2 (fun p hp => by simp at hp; subst hp; exact ⟨by show 0 < _; omega, fillB_len (by rw [hml]; omega)⟩)
  refine ⟨_, ?_, v2, v3, by rw [v4, w4], ?_⟩
  · unfold commitR
    rw [w1]
    simp only [if_true]
    rw [v1]
  have hlate : ∀ j, ((D.done (pgL A Y k)).done [(0, fillB (markL a (b + xs.length)))]).late.getD j ⟨#[]⟩ = if j = 0 then strOfNums (fillB (markL a (b + xs.length))) else if A ≤ j ∧ j < A + k then strOfNums (fillB ((Y.drop (256 * (j - A))).take 256)) else D.late.getD j ⟨#[]⟩ := by
    intro j
    rw [v5, puts_one]
    show ((D.done (pgL A Y k)).put _ _).late.getD j ⟨#[]⟩ = _
    rw [put_late, w5]
    have hpl := puts_late D A Y k (by omega) j
    have hlen : (D.puts (pgL A Y k)).late.length = D.firm.length := by
      unfold DM.late
      rw [late_len, puts_firm]
    by_cases hj : j = 0
    · subst hj
      rw [if_pos rfl, List.getD_eq_getElem?_getD]
      simp [List.getElem?_set_self, show 0 < (D.puts (pgL A Y k)).late.length by omega]
    · rw [if_neg hj, List.getD_eq_getElem?_getD, List.getElem?_set_ne (by simp; omega), ← List.getD_eq_getElem?_getD]
      exact hpl
  have hfl : ((D.done (pgL A Y k)).done [(0, fillB (markL a (b + xs.length)))]).firm.length = D.firm.length := by rw [v4, w4]
  generalize ((D.done (pgL A Y k)).done [(0, fillB (markL a (b + xs.length)))]) = D2 at *
  have hrl : (textsB (recs ++ ps)).length = b + xs.length := by rw [hta, List.length_append, hb, hxs]
  refine ⟨by omega, by omega, ha, ?_, by rw [hrl, hfl, ← hHf]; exact hroom, ?_, fun x hx => ?_⟩
  · unfold firstL
    rw [hlate 0, if_pos rfl, nums_of _ (fillB_by hmb), hrl]
    unfold fillB
    rw [List.take_append_of_le_length (by omega), List.take_of_length_le (by omega)]
  · rw [hrl, hta, hfl, ← hHf, ← hs, ← hR, ← hxs]
    have hT : ∀ j, j < A → s ≤ j → D2.late.getD j ⟨#[]⟩ = D.late.getD j ⟨#[]⟩ := fun j h1 h2 => by
      rw [hlate j, if_neg (by omega), if_neg (by omega)]
    have hP : ∀ j, A ≤ j → j < A + k → D2.late.getD j ⟨#[]⟩ = strOfNums (fillB ((Y.drop (256 * (j - A))).take 256)) := fun j h1 h2 => by
      rw [hlate j, if_neg (by omega), if_pos ⟨h1, h2⟩]
    obtain ⟨i, hi⟩ : ∃ i, i = b / 256 := ⟨_, rfl⟩
    have hX : catK D2.late s i = catK D.late s i := catK_same i (fun j h1 h2 => hT j (by omega) h1)
    have hXl : (catK D.late s i).length = 256 * i := catK_len hrows s i (by omega)
    have hZ := catK_pages hYb k (by omega) hP
    have hZl := catK_pages_len k hP
    have hZ2 : Y.take (256 * k) = Y := List.take_of_length_le (by omega)
    rw [hZ2] at hZ
    have hsplit : catK D2.late s Hf = catK D.late s i ++ (catK D2.late A k ++ catK D2.late (A + k) (Hf - i - k)) := by
      rw [show Hf = i + (k + (Hf - i - k)) by omega, catK_app, catK_app, hX, show s + i = A by omega, show i + (k + (Hf - i - k)) - i - k = Hf - i - k by omega]
    have hgoal : (catK D2.late s Hf).take (b + xs.length) = catK D.late s i ++ Y := by
      rw [hsplit, show b + xs.length = (catK D.late s i).length + Y.length by omega, List.take_length_add_append, List.take_append_of_le_length (by omega), hZ]
    rw [hgoal]
    have hold : catK D.late s Hf = catK D.late s i ++ catK D.late A (Hf - i) := by
      rw [show Hf = i + (Hf - i) by omega, catK_app, show s + i = A by omega, show i + (Hf - i) - i = Hf - i by omega]
    rw [← hdat, hRl, hold, hY]
    by_cases hm : b % 256 = 0
    · rw [if_pos hm, List.take_append_of_le_length (by omega), List.take_of_length_le (by omega)]
    · rw [if_neg hm, show b = (catK D.late s i).length + b % 256 by omega, List.take_length_add_append, List.append_assoc]
      congr 1
      have hh : Hf - i = 1 + (Hf - i - 1) := by omega
      rw [hh, catK_app]
      have hone : catK D.late A 1 = nums (D.late.getD A ⟨#[]⟩) := by simp [catK]
      have hsz : (nums (D.late.getD A ⟨#[]⟩)).length = 256 := by
        rw [nums_len, List.getD_eq_getElem?_getD, List.getElem?_eq_getElem (by omega)]
        exact hrows _ (List.getElem_mem _)
      rw [hone, show ((catK D.late s i).length + b % 256) % 256 = b % 256 by omega, List.take_append_of_le_length (by omega)]
  · rcases List.mem_append.1 hx with hx | hx
    · exact h.small x hx
    · exact hps x hx
end

section
open Go Go.RowKit
set_option linter.unusedSimpArgs false
set_option linter.unusedVariables false
set_option maxRecDepth 100000
set_option maxHeartbeats 4000000

structure Live (J : JM) : Prop where
  well : J.D.Well
  uns : J.D.uns = []
  base : Base J.D J.area J.recs
  size : J.size = (textsB J.recs).length
  rest : Holds J.D J.area J.recs ∨ (J.recs = [] ∧ J.area = 0 ∧ firstL J.D = zl 64)
theorem Live.ok {J : JM} (h : Live J) : J.Ok := ⟨h.base.area, by rw [h.size]; exact h.base.room⟩
theorem Live.opens {J : JM} (h : Live J) : openJ J.D = (some J, 0) := by
  obtain ⟨D, recs, a, size⟩ := J
  obtain ⟨h1, h2, h3, h4, h5⟩ := h
  simp only at h1 h2 h3 h4 h5
  subst h4
  rcases h5 with h | ⟨rfl, rfl, h⟩
  · exact open_holds h
  · exact open_blank h3.three h
theorem Live.app {J : JM} (h : Live J) (hrows : ∀ r ∈ J.D.late, r.size = 256) {ps : List ByteArray} (hps : ∀ s ∈ ps, s.size ≤ 60000) (hby : By (textsB ps)) :
    ∃ J' e, appJ J ps = (J', e) ∧ Live J' ∧ J'.D.firm.length = J.D.firm.length ∧ J'.area = J.area ∧ ((e = 0 ∧ J'.recs = J.recs ++ ps) ∨ (e ≠ 0 ∧ J'.recs = J.recs)) ∧ (J.size + (textsB ps).length ≤ J.half * 256 → e = 0) := by
  by_cases hf : J.half * 256 < J.size + (textsB ps).length
  · exact ⟨J, 8, by unfold appJ; rw [if_pos hf], h, rfl, rfl, .inr ⟨by omega, rfl⟩, fun hn => by omega⟩
  by_cases hn : ps = []
  · exact ⟨J, 0, by unfold appJ; rw [if_neg hf, if_pos hn], h, rfl, rfl, .inl ⟨rfl, by rw [hn, List.append_nil]⟩, fun _ => rfl⟩
  obtain ⟨D, recs, a, size⟩ := J
  obtain ⟨h1, h2, h3, h4, h5⟩ := h
  simp only at h1 h2 h3 h4 h5 hrows
  subst h4
  have hhf : JM.half ⟨D, recs, a, (textsB recs).length⟩ = (D.firm.length - 1) / 2 := rfl
  rw [hhf] at hf
  obtain ⟨D', e1, e2, e3, e4, e5⟩ := commit_well (ps := ps) h1 h3 hrows hps hby (by simp only at hf; omega)
  refine ⟨⟨D', recs ++ ps, a, (textsB recs).length + (textsB ps).length⟩, 0, ?_, ⟨e2, e3, e5.base, by simp [textsB], .inl e5⟩, e4, rfl, .inl ⟨rfl, rfl⟩, fun _ => rfl⟩
  unfold appJ
  rw [hhf, if_neg hf, if_neg hn, e1]
  simp
theorem newD_late (b : Int) : (newD b).late = List.replicate (newN b) (zs 256) := rfl
theorem live_new (b : Int) (h : 3 ≤ newN b) : Live ⟨newD b, [], 0, 0⟩ := by
  have hb := newN_bd b
  have hl : (newD b).firm.length = newN b := by simp [newD]
  refine ⟨⟨rfl, rfl⟩, rfl, ⟨by show 3 ≤ (newD b).firm.length; omega, by show (newD b).firm.length ≤ 1024; omega, by simp, by simp [textsB], by simp [textsB], by simp⟩, by simp [textsB], .inr ⟨rfl, rfl, ?_⟩⟩
  show (nums ((newD b).late.getD 0 ⟨#[]⟩)).take 64 = zl 64
  rw [newD_late, List.getD_eq_getElem?_getD, List.getElem?_replicate, if_pos (by omega), Option.getD_some, zs_eq, nums_of _ (zl_by _)]
  rfl

structure AcD where
  kind : Int
  n : Int
  l : List ByteArray
  keep : List Int
def acK : List CK := [.int .i64, .int .i64, .sl [.str], .sl [.int .u8]]
def AcD.row (x : AcD) : List CD := [.int .i64 x.kind, .int .i64 x.n, .sl (x.l.map fun s => [.str s]), .sl (x.keep.map fun z => [.int .u8 z])]
structure AcD.Wf (x : AcD) : Prop where
  kind : -9223372036854775808 ≤ x.kind ∧ x.kind ≤ 9223372036854775807
  n : -9223372036854775808 ≤ x.n ∧ x.n ≤ 9223372036854775807
  keep : By x.keep
  tl : ∀ s ∈ x.l, s.size ≤ maxLen
  ll : x.l.length ≤ maxLen
theorem wf_i64' {z : Int} (h : (Lit.int .i64 z).wf = true) : -9223372036854775808 ≤ z ∧ z ≤ 9223372036854775807 := by
  simpa [Lit.wf, IntKind.min, IntKind.max, IntKind.bits, IntKind.signed] using h
theorem wf_u8' {z : Int} (h : (Lit.int .u8 z).wf = true) : 0 ≤ z ∧ z ≤ 255 := by
  simpa [Lit.wf, IntKind.min, IntKind.max, IntKind.bits, IntKind.signed] using h
theorem act_of {row : List CD} (h : OkL acK row) : ∃ x : AcD, row = x.row ∧ x.Wf := by
  obtain ⟨d0, r0, rfl, o0, h0⟩ := OkL.cons h
  obtain ⟨d1, r1, rfl, o1, h1⟩ := OkL.cons h0
  obtain ⟨d2, r2, rfl, o2, h2⟩ := OkL.cons h1
  obtain ⟨d3, r3, rfl, o3, h3⟩ := OkL.cons h2
  obtain rfl := h3.nil
  obtain ⟨k, rfl, wk⟩ := ok_int o0
  obtain ⟨m, rfl, wm⟩ := ok_int o1
  obtain ⟨l, rfl, wl, ll⟩ := ok_strs o2
  obtain ⟨ns, rfl, wn, ln⟩ := ok_ints o3
  exact ⟨⟨k, m, l, ns⟩, rfl, wf_i64' wk, wf_i64' wm, fun n hn => wf_u8' (wn n hn), wl, ll⟩
theorem acts_of {ds : List CD} (h : OkL [CK.sl acK] ds) : ∃ xs : List AcD, ds = [.sl (xs.map AcD.row)] ∧ (∀ x ∈ xs, x.Wf) ∧ xs.length ≤ maxLen := by
  obtain ⟨d, r, rfl, o, h1⟩ := OkL.cons h
  obtain rfl := h1.nil
  obtain ⟨rows, rfl, hm, hr⟩ := ok_sl o
  obtain ⟨xs, rfl, hx⟩ := rows_of (f := AcD.row) (R := AcD.Wf) rows (fun row hrow => act_of (hr row hrow))
  exact ⟨xs, rfl, hx, by simpa using hm⟩
theorem val_part {H : AH} {ss : List ByteArray} {v : Value} (h : CD.Val H (.sl (ss.map fun s => [.str s])) v) : Part H H.length v (ss.map .string) := by
  by_cases hn : ss = []
  · subst hn
    generalize hd : CD.sl (([] : List ByteArray).map fun s => [CD.str s]) = d at h
    cases h with
    | int => cases hd
    | str => cases hd
    | bool => cases hd
    | @nil a ha =>
      refine ⟨⟨a, 0, rfl⟩, fun G _ => ?_⟩
      cases a with
      | none => rfl
      | some x =>
        obtain ⟨i, off, sp⟩ := x
        have := ha _ rfl
        simp only at this
        subst this
        rfl
    | @sl sz j k rows h1 h2 h3 h4 =>
      injection hd with hd
      subst hd
      refine ⟨⟨_, _, rfl⟩, fun G hg => ?_⟩
      have := (hg j (hget_lt h1)).trans h1
      simp [xcells, this]
  · exact SlV.part (val_strs h) (by simpa using hn)
theorem act_val {H : AH} {x : AcD} {us : List Value} (h : ValL H x.row us) : ∃ lv kv, us = [.int .i64 x.kind, .int .i64 x.n, lv, kv] ∧ (SlV H lv (x.l.map .string) ∧ Part H H.length lv (x.l.map .string)) ∧ SlV H kv (iv .u8 x.keep) ∧ (notTuple lv = true ∧ lv.cells = #[lv]) ∧ (notTuple kv = true ∧ kv.cells = #[kv]) := by
  obtain ⟨u0, r0, rfl, v0, h0⟩ := ValL.cons h
  obtain ⟨u1, r1, rfl, v1, h1⟩ := ValL.cons h0
  obtain ⟨u2, r2, rfl, v2, h2⟩ := ValL.cons h1
  obtain ⟨u3, r3, rfl, v3, h3⟩ := ValL.cons h2
  obtain rfl := h3.nil
  rw [val_int v0, val_int v1]
  exact ⟨u2, u3, rfl, ⟨val_strs v2, val_part v2⟩, val_ints v3, val_nt v2, val_nt v3⟩
theorem act_at {H : AH} {xs : List AcD} {v : Value} (hv : CD.Val H (.sl (xs.map AcD.row)) v) {i : Nat} {x : AcD} (hx : xs[i]? = some x) (hs4 : szt Tryd.prog 55 = 4) (hag : isAggD (und Tryd.prog 55) = true) (hsl : und Tryd.prog 53 = .slice 55) :
    ∃ lv kv pp, xindexAddr Tryd.prog 53 v (.int .i64 (i : Nat)) = some pp ∧ notTuple pp = true ∧ (SlV H lv (x.l.map .string) ∧ Part H H.length lv (x.l.map .string)) ∧ SlV H kv (iv .u8 x.keep) ∧ (notTuple lv = true ∧ lv.cells = #[lv]) ∧ (notTuple kv = true ∧ kv.cells = #[kv]) ∧ ∀ {G : AH}, Low H.length H G → xload Tryd.prog 55 pp G = some (.agg #[.int .i64 x.kind, .int .i64 x.n, lv, kv]) := by
  obtain ⟨j, b, us, hvj, hb, hbl, hxa, hus, hul, hle, hcell, hval⟩ := val_at (P := Tryd.prog) (t := 53) (e := 55) (sz := 4) hv hsl hs4 (by omega) (fun row hr => by
    obtain ⟨y, _, rfl⟩ := List.mem_map.1 hr; rfl) (i := i) (row := x.row) (by rw [List.getElem?_map, hx]; rfl)
  obtain ⟨lv, kv, e, hsn, hsk, n1, n2⟩ := act_val hval
  refine ⟨lv, kv, _, hxa, rfl, hsn, hsk, n1, n2, fun {G} hs => ?_⟩
  have := load_at (P := Tryd.prog) (e := 55) (i := i) ((hs.1 j (hget_lt hb)).trans hb) hs4 (by omega) hag hus hle
  rw [this, e]
end

section
open Go Go.RowKit
set_option linter.unusedSimpArgs false
set_option linter.unusedVariables false
set_option maxRecDepth 100000
set_option maxHeartbeats 4000000

theorem numB_byJ (n : Nat) : By (numB n) := by
  have h : ∀ g, By (hiG n g) := by
    intro g
    induction g with
    | zero => intro x hx; cases hx
    | succ g ih =>
      unfold hiG
      refine By.app ?_ ih
      split
      · intro x hx; cases hx
      · intro x hx
        simp at hx
        subst hx
        have := Nat.mod_lt (n / 128 ^ (g + 1)) (show 0 < 128 by omega)
        omega
  unfold numB
  refine (h 4).app ?_
  intro x hx
  simp at hx
  omega
theorem textB_byJ (s : ByteArray) : By (textB s) := (numB_byJ _).app (nums_bd s)
theorem textsB_byJ (ps : List ByteArray) : By (textsB ps) := fun y hy => by
  obtain ⟨s, _, hy⟩ := List.mem_flatMap.1 hy
  exact textB_byJ s y hy
theorem hiG_lenJ (n : Nat) : ∀ g, (hiG n g).length ≤ g := hiG_len n
theorem textB_lenJ (s : ByteArray) : (textB s).length ≤ s.size + 5 := by
  unfold textB numB
  have := hiG_len s.size 4
  simp only [List.length_append, List.length_cons, List.length_nil, nums_len]
  omega
theorem textsB_lenJ : ∀ ps : List ByteArray, (textsB ps).length ≤ totS ps + 5 * ps.length
  | [] => by simp [textsB]
  | s :: ps => by
    have h1 := textsB_lenJ ps
    have h2 := textB_lenJ s
    have e : textsB (s :: ps) = textB s ++ textsB ps := by simp [textsB]
    rw [e, List.length_append]
    simp only [totS, List.map_cons, List.sum_cons, List.length_cons] at h1 ⊢
    omega
theorem dk_rows {H : AH} {p : Nat} {F : List Nat} {D : DM} (h : Dk H p F D) : ∀ r ∈ D.late, r.size = 256 := late_rows h.1.rows (fun w hw => (h.1.uns w hw).2)
/-- A row of texts that the call itself built. -/
theorem own_sls {G : AH} {F : List Nat} {j : Nat} {ps : List ByteArray} {e : TypeId} {z : Option Nat} (h : hget G j = some ⟨ps.map .string, e, z⟩) (hF : j ∉ F) : SlS G F (.slice (some ⟨j, 0, none⟩) ps.length ps.length) (ps.map .string) := fun G' hg =>
  .inr ⟨j, 0, _, by rw [List.length_map], (hg j (hget_lt h) hF).trans h, fun i x hx => by simpa using hx⟩
def sA : ByteArray := ⟨#[97]⟩
def sBC : ByteArray := ⟨#[98, 99]⟩
theorem GG.lowJ {H H' : AH} (h : GG H) (h2 : 2 ≤ H.length) (hl : Low H.length H H') : GG H' :=
  ⟨by obtain ⟨t, h1⟩ := h.1; exact ⟨t, (hl.1 0 (by omega)).trans h1⟩, by obtain ⟨t, h1⟩ := h.2; exact ⟨t, (hl.1 1 (by omega)).trans h1⟩⟩
attribute [local irreducible] markL newD textsB appJ openJ
attribute [local simp] wb_bool wb_undef XL_nil XL_cons XLc_val XLc_call step1_eq stepW_t stepW_f stepC_n stepC_s stepX_s stepX_n stepN_s calleeX oneV xop_eq xopR_s xopR_n wantedA_eq wantedG_n wantedG_s plain1_int plain1_bool plain1_string bits_i64 bits_u64 bits_u32 bits_u16 bits_u8 xeqA xagg xcmp xarr allK_iv num_iv calleeOf xread xeff xbin xint xnil xun xstr xload xconv xpart xfield xfieldAddr xindexAddr xindex bnd asInt? xslice xlen xmin xmax xbuild xfill xappend xapp2 xappstr xappmk xcap xcopy xcells eval_tmp eval_const put_at put_none fr0_at cells_agg cells_int cells_bool cells_string cells_ptr cells_slice notTuple tab iv_all hget_app hget_app0 hget_cons0 hget_cons set_app set_app0 setR setR_one QL_nil QL_cons QLc_val stepQ_t stepQ_f stepQC_n stepQC_s stepQX_s SL_nil SL_cons SLc_val stepS_t stepS_f ltT ltF leT leF eqT eqF ltTn ltFn leTn leFn eqTn eqFn beqT beqF bneT bneF wi64 wu64 wu32 wu16 wu8 tmodP tdivP hgetL hgetNe hgetEq setL nums_def nums_len Nat.succ_le_of_lt List.getElem?_cons_zero List.getElem?_cons_succ Option.getD_some Int.toNat_add Int.toNat_mul agB agI agS agP agL agA okB okI okS okP okSl okA
theorem alive_rc {H : AH} (hG : GG H) (h2 : 2 ≤ H.length) : AC Tryd.prog H.length gm 5 #[] H (fun v' _ => v' = .bool true) := by
  have hn5 : newN 5 = 5 := by decide
  have hnew := new_ac (nro := H.length) (γ := gm) (H := H) 5 (Nat.le_refl _)
  have hl5 := live_new 5 (by omega)
  have hf5 : (newD 5).firm.length = 5 := by unfold newD; simp [hn5]
  have hbl : (textsB [sA, sBC]).length = 5 := by decide +kernel
  have hop5 := hl5.opens
  have happ := fun hr => hl5.app (ps := [sA, sBC]) hr (fun s hs => by simp at hs; rcases hs with rfl | rfl <;> decide) (textsB_byJ _)
  rw [show JM.half ⟨newD 5, [], 0, 0⟩ = 2 by unfold JM.half; rw [hf5]] at happ
  generalize newD 5 = D0 at *
  generalize hTB : textsB [sA, sBC] = TB at *
  refine ac_of_aw Tryd.func5 rfl Tryd.ntmps5 Tryd.results5 (by simp) ?_
  refine aw_seq ?_
  (refine aw_ops (by kernel_rfl) (fun K hK => ?_); simp (disch := first | omega | (simp only [List.length_set, List.length_append, List.length_cons, List.length_nil, iv_length, zl_length]; try omega; done)) [-getElem?_pos, -getElem?_neg]; refine hK _ _ ?_; clear hK K)
  refine aw_seq ?_
  refine aw_ops (by kernel_rfl) (fun K hK => ?_)
  simp (disch := first | omega | (simp only [List.length_set, List.length_append, List.length_cons, List.length_nil, iv_length, zl_length]; try omega; done)) [-getElem?_pos, -getElem?_neg]
  refine ⟨by kernel_rfl, AC.mono hnew ?_⟩
  rintro _ G1 ⟨rfl, hd1, L1, rfl⟩
  try simp (disch := first | omega | (simp only [List.length_set, List.length_append, List.length_cons, List.length_nil, iv_length, zl_length]; try omega; done)) [-getElem?_pos, -getElem?_neg]
  refine hK _ _ ?_; clear hK K
  have hlow1 : Low H.length H (H ++ L1) := Low.push (Nat.le_refl _) _
  have hF1 : ∀ j ∈ [H.length + 2, H.length, H.length + 1], H.length ≤ j := fun j hj => by simp at hj; omega
  generalize H ++ L1 = G1 at *
  generalize [H.length + 2, H.length, H.length + 1] = F1 at *
  generalize H.length + 2 = d at *
  have hG1 := hG.lowJ h2 hlow1
  obtain ⟨J1, e1, q1, q2, q3, q4, q5, q6⟩ := happ (dk_rows hd1)
  have he1 : e1 = 0 := q6 (by show 0 + TB.length ≤ 2 * 256; omega)
  subst he1
  refine aw_seq ?_
  refine aw_ops (by kernel_rfl) (fun K hK => ?_)
  simp (disch := first | omega | (simp only [List.length_set, List.length_append, List.length_cons, List.length_nil, iv_length, zl_length]; try omega; done)) [-getElem?_pos, -getElem?_neg]
  refine ⟨by kernel_rfl, AC.mono (open_ac (nro := H.length) hG1 hlow1.2 hd1) ?_⟩
  rw [hop5]
  rintro _ G2 ⟨hl2, q, rv, FR, rfl, hj2, hok2, hq2, hfr2⟩
  try simp (disch := first | omega | (simp only [List.length_set, List.length_append, List.length_cons, List.length_nil, iv_length, zl_length]; try omega; done)) [-getElem?_pos, -getElem?_neg]
  refine hK _ _ ?_; clear hK K
  have hqj := hj2.hq
  have hG2 := hG1.lowJ (by have := hlow1.2; omega) hl2
  have hlow2 : Low H.length H G2 := hlow1.trans ⟨fun j hj => hl2.1 j (by have := hlow1.2; omega), by have := hl2.2; have := hlow1.2; omega⟩
  have hF2 : ∀ j ∈ q :: (F1 ++ FR), H.length ≤ j := fun j hj => by
    simp only [List.mem_cons, List.mem_append] at hj
    have := hlow1.2
    rcases hj with rfl | hj | hj
    · omega
    · exact hF1 j hj
    · have := hfr2 j hj; omega
  refine aw_seq ?_
  refine aw_seq ?_
  have r2 : List.range 2 = [0, 1] := rfl
  refine aw_ops (by kernel_rfl) (fun K hK => ?_)
  simp (disch := first | omega | (simp only [List.length_set, List.length_append, List.length_cons, List.length_nil, iv_length, zl_length]; try omega; done)) [-getElem?_pos, -getElem?_neg, -notTuple, nt_strJ, nt_slJ, nt_ptrJ, r2]
  have hrow : hget (G2 ++ [some ⟨[.string ⟨#[97]⟩, .string ⟨#[98, 99]⟩], 9, some 1⟩]) G2.length = some ⟨[sA, sBC].map .string, 9, some 1⟩ := by rw [hget_app0]; rfl
  have hlow3 : Low G2.length G2 (G2 ++ [some ⟨[.string ⟨#[97]⟩, .string ⟨#[98, 99]⟩], 9, some 1⟩]) := Low.push (Nat.le_refl _) _
  generalize G2 ++ [some ⟨[.string ⟨#[97]⟩, .string ⟨#[98, 99]⟩], 9, some 1⟩] = G3 at *
  have hltJ : ∀ j ∈ q :: (F1 ++ FR), j < G2.length := fun j hm => by
    simp only [List.mem_cons, List.mem_append] at hm
    rcases hm with rfl | hm | hm
    · exact hget_lt hqj
    · exact hj2.hd.lt j hm
    · exact hj2.hr.lt j hm
  have hj3 := hj2.low (H' := G3) (fun j hj => hlow3.1 j (hltJ j hj)) hlow3.2
  have hG3 := hG2.lowJ (by have := hlow2.2; omega) hlow3
  have hsls := own_sls (F := q :: (F1 ++ FR)) hrow (fun hm => by have := hltJ _ hm; omega)
  have hap := append_ac (nro := H.length) hG3 (by have := hlow2.2; have := hlow3.2; omega) (by have := hlow2.2; have := hlow3.2; omega) hj3 hl5.ok hF2 [sA, sBC] hsls (fun s hs => by simp at hs; rcases hs with rfl | rfl <;> decide) (by simp) (by simp) (by rw [hTB]; omega) (textsB_byJ _) (by rw [hl5.uns]; simp)
  rw [q1] at hap
  refine ⟨by kernel_rfl, AC.mono hap ?_⟩
  rintro _ G4 ⟨rfl, rv4, F4, FR4, hj4, hf4⟩
  simp (disch := first | omega | (simp only [List.length_set, List.length_append, List.length_cons, List.length_nil, iv_length, zl_length]; try omega; done)) [-getElem?_pos, -getElem?_neg]
  refine hK _ _ ?_; clear hK K
  refine aw_f (by (first | (simp [eval_tmp, put_at]; done) | (simp [eval_tmp, put_at]; omega))) (by kernel_rfl) ?_
  refine aw_skip ?_
  have hlt4 : ∀ j ∈ q :: (F4 ++ FR4), j < G4.length := fun j hm => by
    simp only [List.mem_cons, List.mem_append] at hm
    rcases hm with rfl | hm | hm
    · exact hget_lt hj4.hq
    · exact hj4.hd.lt j hm
    · exact hj4.hr.lt j hm
  have hlow4 : Low H.length H G4 := ⟨fun j hj => (hf4.out j (by have := hlow2.2; have := hlow3.2; omega) (fun hm => by have := hF2 _ hm; omega)).trans ((hlow3.1 j (by have := hlow2.2; omega)).trans (hlow2.1 j hj)), by have := hlow2.2; have := hlow3.2; have := hf4.len; omega⟩
  have hG4 := hG.lowJ h2 hlow4
  have hrec : J1.recs = [sA, sBC] := by
    rcases q5 with ⟨_, h⟩ | ⟨h, _⟩
    · exact h
    · exact absurd rfl h
  have hop1 := q2.opens
  have hsz1 := q2.size
  rw [hrec, hTB, hbl] at hsz1
  have hhf1 : J1.half = 2 := by unfold JM.half; rw [q3, hf5]
  refine aw_seq ?_
  refine aw_ops (by kernel_rfl) (fun K hK => ?_)
  simp (disch := first | omega | (simp only [List.length_set, List.length_append, List.length_cons, List.length_nil, iv_length, zl_length]; try omega; done)) [-getElem?_pos, -getElem?_neg]
  refine ⟨by kernel_rfl, AC.mono (open_ac (nro := H.length) hG4 hlow4.2 hj4.hd) ?_⟩
  rw [hop1]
  rintro _ G5 ⟨hl5', q', rv5, FR5, rfl, hj5, hok5, hq5, hfr5⟩
  try simp (disch := first | omega | (simp only [List.length_set, List.length_append, List.length_cons, List.length_nil, iv_length, zl_length]; try omega; done)) [-getElem?_pos, -getElem?_neg]
  refine hK _ _ ?_; clear hK K
  have hj4' := hj4.low (H' := G5) (fun j hj => hl5'.1 j (hlt4 j hj)) hl5'.2
  refine aw_seq ?_
  refine aw_ops (by kernel_rfl) (fun K hK => ?_)
  simp (disch := first | omega | (simp only [List.length_set, List.length_append, List.length_cons, List.length_nil, iv_length, zl_length]; try omega; done)) [-getElem?_pos, -getElem?_neg]
  refine ⟨by kernel_rfl, AC.mono (records_ac (nro := H.length) (by have := hlow4.2; have := hl5'.2; omega) hj5 (by rw [hrec]; simp)) ?_⟩
  rw [hrec]
  rintro v6 G6 ⟨hp6, hl6, hk6⟩
  have hn6 := hp6.nt
  simp (disch := first | omega | (simp only [List.length_set, List.length_append, List.length_cons, List.length_nil, iv_length, zl_length]; try omega; done)) [-getElem?_pos, -getElem?_neg, -notTuple, hn6, nt_strJ, nt_slJ, nt_ptrJ, r2]
  have hrow2 : hget (G6 ++ [some ⟨[.string ⟨#[97]⟩, .string ⟨#[98, 99]⟩], 9, some 1⟩]) G6.length = some ⟨[sA, sBC].map .string, 9, some 1⟩ := by rw [hget_app0]; rfl
  have hlow7 : Low G6.length G6 (G6 ++ [some ⟨[.string ⟨#[97]⟩, .string ⟨#[98, 99]⟩], 9, some 1⟩]) := Low.push (Nat.le_refl _) _
  generalize G6 ++ [some ⟨[.string ⟨#[97]⟩, .string ⟨#[98, 99]⟩], 9, some 1⟩] = G7 at *
  have hs1 : StrV G7 v6 [sA, sBC] := (hp6.keep hlow7.2 hlow7.1).str
  have hs2 : StrV G7 (.slice (some ⟨G6.length, 0, none⟩) 2 2) [sA, sBC] := (own_sls (F := []) (ps := [sA, sBC]) hrow2 (by simp)).now.str
  refine ⟨by kernel_rfl, ac_of_rc (same_rc hs1 hs2 (by simp) (by simp)) (by simp [pv_iv, pv_int, pv_bool, pv_string, pv_tup2, pv_tup3, iv_plain, p2_int, p2_bool, p2_string]) ?_⟩
  simp (disch := first | omega | (simp only [List.length_set, List.length_append, List.length_cons, List.length_nil, iv_length, zl_length]; try omega; done)) [-getElem?_pos, -getElem?_neg]
  have hj7 := hj4'.low (H' := G7) (fun j hj => by
    have := hlt4 j hj
    have := hl5'.2
    rw [hlow7.1 j (by omega), hk6 j (by omega)]) (by have := hlow7.2; omega)
  refine ⟨by kernel_rfl, ac_of_rc (room_rc hj7 q2.ok) (by simp [pv_iv, pv_int, pv_bool, pv_string, pv_tup2, pv_tup3, iv_plain, p2_int, p2_bool, p2_string]) ?_⟩
  simp (disch := first | omega | (simp only [List.length_set, List.length_append, List.length_cons, List.length_nil, iv_length, zl_length]; try omega; done)) [-getElem?_pos, -getElem?_neg, hhf1, hsz1]
  refine hK _ _ ?_; clear hK K
  (refine aw_ret ?_; simp (disch := first | omega | (simp only [List.length_set, List.length_append, List.length_cons, List.length_nil, iv_length, zl_length]; try omega; done)) [-getElem?_pos, -getElem?_neg, thenQ_ret, scopeQ_ret, inBlockQ_ret, RQ, resL, resV])
end

section
open Go Go.RowKit
set_option linter.unusedSimpArgs false
set_option linter.unusedVariables false
set_option maxRecDepth 100000
set_option maxHeartbeats 4000000

/-- Texts laid behind an own row of texts, also none. -/
theorem ownF_appendS {P : Program} {nro : Nat} {t e : TypeId} {H : AH} {v x : Value} {cells news : List Value} {F : List Nat} (hu : und P t = .slice e) (hs : szt P e = 1) (hz : (zer P e).map (·.cells.size) = some 1) (hby : byt P e = 16)
    (hv : OwnF H v e 1 cells F) (hnro : ∀ j ∈ F, nro ≤ j) (hstr : ∀ s, x ≠ .string s) (hx : xcells 1 x H = some news) (hb : cells.length + news.length ≤ 1000000) :
    ∃ v' H' F', xappend P nro t v x H = some (v', H') ∧ OwnF H' v' e 1 (cells ++ news) F' ∧ H.length ≤ H'.length ∧ (∀ j, j < H.length → j ∉ F → hget H' j = hget H j) ∧ ∀ j ∈ F', H.length ≤ j := by
  rcases hv with ⟨rfl, rfl, rfl⟩ | ⟨j, len, rfl, h3, h4, rfl⟩
  · by_cases hn : news = []
    · subst hn
      refine ⟨.slice none 0 0, H, [], ?_, .inl ⟨rfl, rfl, rfl⟩, Nat.le_refl _, fun _ _ _ => rfl, by simp⟩
      unfold xappend
      cases x <;> first | (exact absurd rfl (hstr _)) | (simp only [hu, hs, hx]; rw [if_pos ⟨by omega, hz, by simp, by simp⟩]; first | rw [if_pos rfl] | rw [if_pos trivial])
    · refine ⟨.slice (some ⟨H.length, 0, none⟩) (news.length / 1) (news.length / 1), H ++ [some ⟨news, e, some 1⟩], [H.length], ?_, .inr ⟨H.length, _, rfl, by rw [hget_app0]; rfl, by simp, rfl⟩, by simp, fun i hi _ => hget_left (by omega), by simp⟩
      simp only [List.length_nil, Nat.zero_add] at hb
      unfold xappend
      cases x <;> first | (exact absurd rfl (hstr _)) | (simp only [hu, hs, hx]; rw [if_pos ⟨by omega, hz, by rw [hby]; omega, by simp only [maxLen]; omega⟩, if_neg hn])
  · have hj := hget_lt h3
    have hl : len = cells.length := by omega
    subst hl
    refine ⟨.slice (some ⟨H.length, 0, none⟩) (cells.length + news.length / 1) (cells.length + news.length / 1), H.set j none ++ [some ⟨cells ++ news, e, some 1⟩], [H.length], ?_, .inr ⟨H.length, _, rfl, by rw [hga0]; rfl, by simp, rfl⟩, by simp, fun i hi hni => ?_, by simp⟩
    · have hc : True ∧ 0 < 1 ∧ (zer P e).map (·.cells.size) = some 1 ∧ nro ≤ j ∧ True ∧ True ∧ cells.length * 1 ≤ cells.length ∧ (cells.length * 1 + news.length) * byt P e ≤ 140737488355328 ∧ cells.length * 1 + news.length ≤ maxLen :=
        ⟨trivial, by omega, hz, hnro j (by simp), trivial, trivial, by omega, by rw [hby]; omega, by simp only [maxLen]; omega⟩
      unfold xappend
      cases x <;> first | (exact absurd rfl (hstr _)) | (simp only [hu, hs, hx, h3]; rw [if_pos hc, Nat.mul_one, List.take_length])
    · rw [hget_left (by simp; omega), hget_set_ne (fun e => hni (by simp [e]))]
/-- What stands ahead of each act. -/
structure KS (H G : AH) (d q : Nat) (rv : Value) (FD FR : List Nat) (J : JM) (va : Value) (Fa : List Nat) (i : Nat) : Prop where
  live : Live J
  jr : JrR G q d rv FD FR J
  new : ∀ j ∈ q :: (FD ++ FR), H.length ≤ j
  own : OwnF G va 9 1 (J.recs.map .string) Fa
  ownN : ∀ j ∈ Fa, H.length ≤ j ∧ j ∉ q :: (FD ++ FR)
  low : Low H.length H G
  few : J.recs.length ≤ 21 * i
  twelve : i ≤ 12
theorem JrR.lts {H : AH} {q d : Nat} {rv : Value} {FD FR : List Nat} {J : JM} (h : JrR H q d rv FD FR J) : ∀ j ∈ q :: (FD ++ FR), j < H.length := fun j hm => by
  simp only [List.mem_cons, List.mem_append] at hm
  rcases hm with rfl | hm | hm
  · exact hget_lt h.hq
  · exact h.hd.lt j hm
  · exact h.hr.lt j hm
theorem KS.lowG {H G G' : AH} {d q : Nat} {rv : Value} {FD FR : List Nat} {J : JM} {va : Value} {Fa : List Nat} {i : Nat} (h : KS H G d q rv FD FR J va Fa i) (hl : Low G.length G G') : KS H G' d q rv FD FR J va Fa i :=
  ⟨h.live, h.jr.low (fun j hj => hl.1 j (h.jr.lts j hj)) hl.2, h.new, h.own.low (fun j hj => hl.1 j (h.own.lt j hj)), h.ownN, h.low.trans ⟨fun j hj => hl.1 j (by have := h.low.2; omega), by have := h.low.2; have := hl.2; omega⟩, h.few, h.twelve⟩
attribute [local irreducible] markL newD textsB appJ openJ
attribute [local simp] wb_bool wb_undef XL_nil XL_cons XLc_val XLc_call step1_eq stepW_t stepW_f stepC_n stepC_s stepX_s stepX_n stepN_s calleeX oneV xop_eq xopR_s xopR_n wantedA_eq wantedG_n wantedG_s plain1_int plain1_bool plain1_string bits_i64 bits_u64 bits_u32 bits_u16 bits_u8 xeqA xagg xcmp xarr allK_iv num_iv calleeOf xread xeff xbin xint xnil xun xstr xload xconv xpart xfield xfieldAddr xindexAddr xindex bnd asInt? xslice xlen xmin xmax xbuild xfill xappend xapp2 xappstr xappmk xcap xcopy xcells eval_tmp eval_const put_at put_none fr0_at cells_agg cells_int cells_bool cells_string cells_ptr cells_slice notTuple tab iv_all hget_app hget_app0 hget_cons0 hget_cons set_app set_app0 setR setR_one QL_nil QL_cons QLc_val stepQ_t stepQ_f stepQC_n stepQC_s stepQX_s SL_nil SL_cons SLc_val stepS_t stepS_f ltT ltF leT leF eqT eqF ltTn ltFn leTn leFn eqTn eqFn beqT beqF bneT bneF wi64 wu64 wu32 wu16 wu8 tmodP tdivP hgetL hgetNe hgetEq setL nums_def nums_len Nat.succ_le_of_lt List.getElem?_cons_zero List.getElem?_cons_succ Option.getD_some Int.toNat_add Int.toNat_mul agB agI agS agP agL agA okB okI okS okP okSl okA
theorem kept_law {H : AH} (hG : GG H) (h2 : 2 ≤ H.length) {ds : List CD} {v : Value} (hok : OkL [CK.sl acK] ds) (hvl : ValL H ds [v]) :
    AC Tryd.prog H.length gm 4 #[v] H (fun v' _ => v' = .bool true) := by
  obtain ⟨xs, rfl, hwf, hlen⟩ := acts_of hok
  have hv : CD.Val H (.sl (xs.map AcD.row)) v := hvl.2 0 _ _ rfl rfl
  have hvn := (val_nt hv).1
  have hvlen := val_len (P := Tryd.prog) (t := 53) (e := 55) hv (by simp)
  rw [List.length_map] at hvlen
  have hxl63 : xs.length ≤ 9223372036854775807 := by simp only [maxLen] at hlen; omega
  have hat := fun (i : Nat) (x : AcD) (hx : xs[i]? = some x) => act_at hv hx (by simp) (by simp) (by simp)
  have hal := alive_rc hG h2
  have hn120 : newN 120 = 120 := by decide
  have hnew := new_ac (nro := H.length) (γ := gm) (H := H) 120 (Nat.le_refl _)
  have hl120 := live_new 120 (by omega)
  have hop := hl120.opens
  generalize newD 120 = D0 at *
  refine ac_of_aw Tryd.func4 rfl Tryd.ntmps4 Tryd.results4 (by simp) ?_
  refine aw_seq ?_
  (refine aw_ops (by kernel_rfl) (fun K hK => ?_); simp (disch := first | omega | (simp only [List.length_set, List.length_append, List.length_cons, List.length_nil, iv_length, zl_length]; try omega; done)) [-getElem?_pos, -getElem?_neg]; refine hK _ _ ?_; clear hK K)
  refine aw_seq ?_
  refine aw_seq ?_
  refine aw_ops (by kernel_rfl) (fun K hK => ?_)
  simp (disch := first | omega | (simp only [List.length_set, List.length_append, List.length_cons, List.length_nil, iv_length, zl_length]; try omega; done)) [-getElem?_pos, -getElem?_neg]
  refine ⟨by kernel_rfl, ac_of_rc hal (by simp [pv_iv, pv_int, pv_bool, pv_string, pv_tup2, pv_tup3, iv_plain, p2_int, p2_bool, p2_string]) ?_⟩
  simp (disch := first | omega | (simp only [List.length_set, List.length_append, List.length_cons, List.length_nil, iv_length, zl_length]; try omega; done)) [-getElem?_pos, -getElem?_neg]
  refine hK _ _ ?_; clear hK K
  refine aw_f (by (first | (simp [eval_tmp, put_at]; done) | (simp [eval_tmp, put_at]; omega))) (by kernel_rfl) ?_
  refine aw_skip ?_
  refine aw_seq ?_
  refine aw_ops (by kernel_rfl) (fun K hK => ?_)
  simp (disch := first | omega | (simp only [List.length_set, List.length_append, List.length_cons, List.length_nil, iv_length, zl_length]; try omega; done)) [-getElem?_pos, -getElem?_neg]
  refine ⟨by kernel_rfl, AC.mono hnew ?_⟩
  rintro _ G1 ⟨rfl, hd1, L1, rfl⟩
  try simp (disch := first | omega | (simp only [List.length_set, List.length_append, List.length_cons, List.length_nil, iv_length, zl_length]; try omega; done)) [-getElem?_pos, -getElem?_neg]
  refine hK _ _ ?_; clear hK K
  have hlow1 : Low H.length H (H ++ L1) := Low.push (Nat.le_refl _) _
  have hF1 : ∀ j ∈ [H.length + 2, H.length, H.length + 1], H.length ≤ j := fun j hj => by simp at hj; omega
  generalize H ++ L1 = G1 at *
  generalize [H.length + 2, H.length, H.length + 1] = F1 at *
  generalize H.length + 2 = d at *
  have hG1 := hG.lowJ h2 hlow1
  refine aw_seq ?_
  refine aw_ops (by kernel_rfl) (fun K hK => ?_)
  simp (disch := first | omega | (simp only [List.length_set, List.length_append, List.length_cons, List.length_nil, iv_length, zl_length]; try omega; done)) [-getElem?_pos, -getElem?_neg]
  refine ⟨by kernel_rfl, AC.mono (open_ac (nro := H.length) hG1 hlow1.2 hd1) ?_⟩
  rw [hop]
  rintro _ G2 ⟨hl2, q, rv, FR, rfl, hj2, hok2, hq2, hfr2⟩
  try simp (disch := first | omega | (simp only [List.length_set, List.length_append, List.length_cons, List.length_nil, iv_length, zl_length]; try omega; done)) [-getElem?_pos, -getElem?_neg]
  refine hK _ _ ?_; clear hK K
  refine aw_seq ?_
  refine aw_seq ?_
  (refine aw_ops (by kernel_rfl) (fun K hK => ?_); simp (disch := first | omega | (simp only [List.length_set, List.length_append, List.length_cons, List.length_nil, iv_length, zl_length]; try omega; done)) [-getElem?_pos, -getElem?_neg]; refine hK _ _ ?_; clear hK K)
  refine aw_f (by (first | (simp [eval_tmp, put_at]; done) | (simp [eval_tmp, put_at]; omega))) (by kernel_rfl) ?_
  refine aw_skip ?_
  refine aw_seq ?_
  (refine aw_ops (by kernel_rfl) (fun K hK => ?_); simp (disch := first | omega | (simp only [List.length_set, List.length_append, List.length_cons, List.length_nil, iv_length, zl_length]; try omega; done)) [-getElem?_pos, -getElem?_neg]; refine hK _ _ ?_; clear hK K)
  refine aw_seq ?_
  refine aw_seq ?_
  (refine aw_ops (by kernel_rfl) (fun K hK => ?_); simp (disch := first | omega | (simp only [List.length_set, List.length_append, List.length_cons, List.length_nil, iv_length, zl_length]; try omega; done)) [-getElem?_pos, -getElem?_neg]; refine hK _ _ ?_; clear hK K)
  refine aw_block ?_
  refine aw_loop (fun c α G => ∃ (i q : Nat) (rv : Value) (FD FR : List Nat) (J : JM) (va : Value) (Fa : List Nat), i + c = xs.length ∧ KS H G d q rv FD FR J va Fa i ∧ α 0 = v ∧ α 3 = .pointer (some ⟨d, 0, none⟩) ∧ α 4 = .pointer (some ⟨q, 0, none⟩) ∧ α 6 = va ∧ α 7 = .int .i64 (i : Nat)) xs.length ?_ ?_
  · refine ⟨0, q, rv, F1, FR, _, .slice none 0 0, [], by omega, ⟨hl120, hj2, fun j hj => ?_, .inl ⟨rfl, rfl, rfl⟩, by simp, hlow1.trans ⟨fun j hj => hl2.1 j (by have := hlow1.2; omega), by have := hl2.2; have := hlow1.2; omega⟩, by simp, by omega⟩, by (first | (simp [put_at, put_none, fr0_at]; done) | rfl), by (first | (simp [put_at, put_none, fr0_at]; done) | rfl), by (first | (simp [put_at, put_none, fr0_at]; done) | rfl), by (first | (simp [put_at, put_none, fr0_at]; done) | rfl), by (first | (simp [put_at, put_none, fr0_at]; done) | rfl)⟩
    simp only [List.mem_cons, List.mem_append] at hj
    have := hlow1.2
    rcases hj with rfl | hj | hj
    · omega
    · exact hF1 j hj
    · have := hfr2 j hj; omega
  clear hj2 hl2 hq2 hfr2 hok2 hop hd1 hl120 hnew hlow1 hG1 hF1 rv FR q G1 G2 F1
  rintro c α G ⟨i, q, rv, FD, FR, J, va, Fa, hic, hks, h0, h3, h4, h6, h7⟩
  have h12 := hks.twelve
  refine aw_seq ?_
  refine aw_seq ?_
  by_cases hlt : i < xs.length ∧ i < 12
  case neg =>
    have hcase : ¬ i < xs.length ∨ (i < xs.length ∧ ¬ i < 12) := by omega
    have hG5 := hG.lowJ h2 hks.low
    have hal5 := alive_rc hG5 (by have := hks.low.2; omega)
    rcases hcase with hc | ⟨hc1, hc2⟩
    · (refine aw_ops (by kernel_rfl) (fun K hK => ?_); simp (disch := first | omega | (simp only [List.length_set, List.length_append, List.length_cons, List.length_nil, iv_length, zl_length]; try omega; done)) [-getElem?_pos, -getElem?_neg, h0, h7, -notTuple, hvn, -xlen, hvlen, hc]; refine hK _ _ ?_; clear hK K)
      refine aw_f (by (first | (simp [eval_tmp, put_at]; done) | (simp [eval_tmp, put_at]; omega))) (by kernel_rfl) ?_
      refine aw_exit ?_
      refine aw_seq ?_
      refine aw_ops (by kernel_rfl) (fun K hK => ?_)
      try simp (disch := first | omega | (simp only [List.length_set, List.length_append, List.length_cons, List.length_nil, iv_length, zl_length]; try omega; done)) [-getElem?_pos, -getElem?_neg]
      refine ⟨by kernel_rfl, ac_of_rc hal5 (by simp [pv_iv, pv_int, pv_bool, pv_string, pv_tup2, pv_tup3, iv_plain, p2_int, p2_bool, p2_string]) ?_⟩
      try simp (disch := first | omega | (simp only [List.length_set, List.length_append, List.length_cons, List.length_nil, iv_length, zl_length]; try omega; done)) [-getElem?_pos, -getElem?_neg]
      refine hK _ _ ?_; clear hK K
      (refine aw_ret ?_; simp (disch := first | omega | (simp only [List.length_set, List.length_append, List.length_cons, List.length_nil, iv_length, zl_length]; try omega; done)) [-getElem?_pos, -getElem?_neg, thenQ_ret, scopeQ_ret, inBlockQ_ret, RQ, resL, resV])
    · (refine aw_ops (by kernel_rfl) (fun K hK => ?_); simp (disch := first | omega | (simp only [List.length_set, List.length_append, List.length_cons, List.length_nil, iv_length, zl_length]; try omega; done)) [-getElem?_pos, -getElem?_neg, h0, h7, -notTuple, hvn, -xlen, hvlen, hc1, hc2]; refine hK _ _ ?_; clear hK K)
      refine aw_f (by (first | (simp [eval_tmp, put_at]; done) | (simp [eval_tmp, put_at]; omega))) (by kernel_rfl) ?_
      refine aw_exit ?_
      refine aw_seq ?_
      refine aw_ops (by kernel_rfl) (fun K hK => ?_)
      try simp (disch := first | omega | (simp only [List.length_set, List.length_append, List.length_cons, List.length_nil, iv_length, zl_length]; try omega; done)) [-getElem?_pos, -getElem?_neg]
      refine ⟨by kernel_rfl, ac_of_rc hal5 (by simp [pv_iv, pv_int, pv_bool, pv_string, pv_tup2, pv_tup3, iv_plain, p2_int, p2_bool, p2_string]) ?_⟩
      try simp (disch := first | omega | (simp only [List.length_set, List.length_append, List.length_cons, List.length_nil, iv_length, zl_length]; try omega; done)) [-getElem?_pos, -getElem?_neg]
      refine hK _ _ ?_; clear hK K
      (refine aw_ret ?_; simp (disch := first | omega | (simp only [List.length_set, List.length_append, List.length_cons, List.length_nil, iv_length, zl_length]; try omega; done)) [-getElem?_pos, -getElem?_neg, thenQ_ret, scopeQ_ret, inBlockQ_ret, RQ, resL, resV])
  obtain ⟨hl1, hl2⟩ := hlt
  obtain ⟨x, hx⟩ : ∃ x, xs[i]? = some x := ⟨_, List.getElem?_eq_getElem hl1⟩
  have hwx := hwf x (List.mem_of_getElem? hx)
  obtain ⟨lv, kv, pp, hp1, hp2, ⟨hsl, hpl⟩, hsk, hln, hkn, hload⟩ := hat i x hx
  have hld := hload hks.low
  (refine aw_ops (by kernel_rfl) (fun K hK => ?_); simp (disch := first | omega | (simp only [List.length_set, List.length_append, List.length_cons, List.length_nil, iv_length, zl_length]; try omega; done)) [-getElem?_pos, -getElem?_neg, h0, h7, -notTuple, hvn, -xlen, hvlen, hl1, hl2]; refine hK _ _ ?_; clear hK K)
  refine aw_t (by (first | (simp [eval_tmp, put_at]; done) | (simp [eval_tmp, put_at]; omega))) (by kernel_rfl) ?_
  refine aw_skip ?_
  refine aw_seq ?_
  refine aw_block ?_
  refine aw_seq ?_
  have hnG : H.length ≤ G.length := hks.low.2
  (refine aw_ops (by kernel_rfl) (fun K hK => ?_); simp (disch := first | omega | (simp only [List.length_set, List.length_append, List.length_cons, List.length_nil, iv_length, zl_length]; try omega; done)) [-getElem?_pos, -getElem?_neg, plain_nil, h0, h7, -notTuple, hvn, hp2, hln.1, hkn.1, nt_intJ, nt_aggJ, nt_ptrJ, -xindexAddr, hp1, -xload, hld]; refine hK _ _ ?_; clear hK K)
  obtain ⟨G1, hGx⟩ : ∃ G1 : AH, G1 = G ++ [some ⟨[.int .i64 x.kind, .int .i64 x.n, lv, kv], 55, none⟩] := ⟨_, rfl⟩
  rw [← hGx]
  have hks1 := hks.lowG (G' := G1) (by rw [hGx]; exact Low.push (Nat.le_refl _) _)
  have hb1 : hget G1 G.length = some ⟨[.int .i64 x.kind, .int .i64 x.n, lv, kv], 55, none⟩ := by rw [hGx, hget_app0]; rfl
  have hg8 : H.length ≤ G.length ∧ G.length < G1.length ∧ (∀ j ∈ q :: (FD ++ FR), j ≠ G.length) ∧ ∀ j ∈ Fa, j ≠ G.length :=
    ⟨hnG, by rw [hGx]; simp, fun j hj e => by have := hks.jr.lts j hj; omega, fun j hj e => by have := hks.own.lt j hj; omega⟩
  clear hks hld hGx
  generalize G.length = b8 at *
  obtain ⟨g81, g82, g83, g84⟩ := hg8
  refine aw_seq ?_
  refine aw_seq ?_
  have hgreat := great_rc (γ := gm) (H := G1) ((hsl.keep (fun j hj => hks1.low.1 j hj)).str) (fun s hs => by have := hwx.tl s hs; simp only [maxLen] at this; omega) (by have := hwx.ll; simp only [maxLen] at this; omega)
  refine aw_ops (by kernel_rfl) (fun K hK => ?_)
  simp (disch := first | omega | (simp only [List.length_set, List.length_append, List.length_cons, List.length_nil, iv_length, zl_length]; try omega; done)) [-getElem?_pos, -getElem?_neg, hb1, -notTuple, hln.1, hkn.1]
  refine ⟨by kernel_rfl, ac_of_rc hgreat (by simp [pv_iv, pv_int, pv_bool, pv_string, pv_tup2, pv_tup3, iv_plain, p2_int, p2_bool, p2_string]) ?_⟩
  try simp (disch := first | omega | (simp only [List.length_set, List.length_append, List.length_cons, List.length_nil, iv_length, zl_length]; try omega; done)) [-getElem?_pos, -getElem?_neg]
  refine hK _ _ ?_; clear hK K
  cases hgr : grJ x.l with
  | true =>
    refine aw_t (by (first | (simp [eval_tmp, put_at, hgr]; done) | (simp [eval_tmp, put_at, hgr]; omega))) (by kernel_rfl) ?_
    refine aw_exit ?_
    (refine aw_ops (by kernel_rfl) (fun K hK => ?_); simp (disch := first | omega | (simp only [List.length_set, List.length_append, List.length_cons, List.length_nil, iv_length, zl_length]; try omega; done)) [-getElem?_pos, -getElem?_neg, h7]; refine hK _ _ ?_; clear hK K)
    exact ⟨c - 1, by omega, i + 1, q, rv, FD, FR, J, va, Fa, by omega, ⟨hks1.live, hks1.jr, hks1.new, hks1.own, hks1.ownN, hks1.low, by have := hks1.few; omega, by omega⟩, by (first | (simp [put_at, put_none, fr0_at, h0]; done) | rfl), by (first | (simp [put_at, put_none, fr0_at, h3]; done) | rfl), by (first | (simp [put_at, put_none, fr0_at, h4]; done) | rfl), by (first | (simp [put_at, put_none, fr0_at, h6]; done) | rfl), by (first | (simp [put_at, put_none, fr0_at]; done) | rfl)⟩
  | false =>
    obtain ⟨gr1, gr2, gr3⟩ := grJ_f hgr
    refine aw_f (by (first | (simp [eval_tmp, put_at, hgr]; done) | (simp [eval_tmp, put_at, hgr]; omega))) (by kernel_rfl) ?_
    refine aw_skip ?_
    refine aw_seq ?_
    refine aw_cut (fun α G => ∃ (q : Nat) (rv : Value) (FD FR : List Nat), KS H G d q rv FD FR J va Fa i ∧ hget G b8 = some ⟨[.int .i64 x.kind, .int .i64 x.n, lv, kv], 55, none⟩ ∧ (∀ j ∈ q :: (FD ++ FR), j ≠ b8) ∧ (∀ j ∈ Fa, j ≠ b8) ∧ b8 < G.length ∧ α 0 = v ∧ α 3 = .pointer (some ⟨d, 0, none⟩) ∧ α 4 = .pointer (some ⟨q, 0, none⟩) ∧ α 6 = va ∧ α 7 = .int .i64 (i : Nat) ∧ α 8 = .pointer (some ⟨b8, 0, none⟩)) ?_ ?_
    · have hG1 := hG.lowJ h2 hks1.low
      refine aw_seq ?_
      by_cases hk3 : x.kind.tmod 4 = 3
      · have hk3' : (x.kind.tmod 4 == 3) = true := by simp [hk3]
        (refine aw_ops (by kernel_rfl) (fun K hK => ?_); simp (disch := first | omega | (simp only [List.length_set, List.length_append, List.length_cons, List.length_nil, iv_length, zl_length]; try omega; done)) [-getElem?_pos, -getElem?_neg, hb1, -notTuple, hln.1, hkn.1, nt_intJ, hk3, hk3', -tmodP]; refine hK _ _ ?_; clear hK K)
        refine aw_t (by (first | (simp [eval_tmp, put_at, hk3]; done) | (simp [eval_tmp, put_at, hk3]; omega))) (by kernel_rfl) ?_
        have hcr := crash_ac (nro := H.length) (γ := gm) hks1.jr.hd (fun j hj => hks1.new j (by simp [hj])) hks1.low.2 (hsk.sls (F := FD) hks1.low.1 hks1.low.2 (fun j hj => hks1.new j (by simp [hj]))) hwx.keep
        rw [crash_well hks1.live.well hks1.live.uns] at hcr
        refine aw_seq ?_
        refine aw_ops (by kernel_rfl) (fun K hK => ?_)
        simp (disch := first | omega | (simp only [List.length_set, List.length_append, List.length_cons, List.length_nil, iv_length, zl_length]; try omega; done)) [-getElem?_pos, -getElem?_neg, h3, hb1, -notTuple, hln.1, hkn.1]
        refine ⟨by kernel_rfl, AC.mono hcr ?_⟩
        rintro vc G2 ⟨F2, hd2, hf2⟩
        try simp (disch := first | omega | (simp only [List.length_set, List.length_append, List.length_cons, List.length_nil, iv_length, zl_length]; try omega; done)) [-getElem?_pos, -getElem?_neg]
        refine hK _ _ ?_; clear hK K
        have hlow2 : Low H.length H G2 := ⟨fun j hj => (hf2.out j (by have := hks1.low.2; omega) (fun hm => by have := hks1.new j (by simp [hm]); omega)).trans (hks1.low.1 j hj), by have := hks1.low.2; have := hf2.len; omega⟩
        have hG2 := hG.lowJ h2 hlow2
        refine aw_seq ?_
        refine aw_ops (by kernel_rfl) (fun K hK => ?_)
        simp (disch := first | omega | (simp only [List.length_set, List.length_append, List.length_cons, List.length_nil, iv_length, zl_length]; try omega; done)) [-getElem?_pos, -getElem?_neg, h3]
        refine ⟨by kernel_rfl, AC.mono (open_ac (nro := H.length) hG2 hlow2.2 hd2) ?_⟩
        rw [hks1.live.opens]
        rintro _ G3 ⟨hl3, q3, rv3, FR3, rfl, hj3, hok3, hq3, hfr3⟩
        try simp (disch := first | omega | (simp only [List.length_set, List.length_append, List.length_cons, List.length_nil, iv_length, zl_length]; try omega; done)) [-getElem?_pos, -getElem?_neg]
        refine hK _ _ ?_; clear hK K
        refine aw_seq ?_
        (refine aw_ops (by kernel_rfl) (fun K hK => ?_); simp (disch := first | omega | (simp only [List.length_set, List.length_append, List.length_cons, List.length_nil, iv_length, zl_length]; try omega; done)) [-getElem?_pos, -getElem?_neg]; refine hK _ _ ?_; clear hK K)
        refine aw_f (by (first | (simp [eval_tmp, put_at]; done) | (simp [eval_tmp, put_at]; omega))) (by kernel_rfl) ?_
        refine aw_skip ?_
        have hno : ∀ j, j < G1.length → j ∉ FD → j ∉ q3 :: (F2 ++ FR3) := fun j hj hn hm => by
          simp only [List.mem_cons, List.mem_append] at hm
          have := hf2.len
          rcases hm with rfl | hm | hm
          · omega
          · rcases hf2.new j hm with h | h
            · exact hn h
            · omega
          · have := hfr3 j hm; omega
        have hkeep : ∀ j, j < G1.length → j ∉ FD → hget G3 j = hget G1 j := fun j hj hn => (hl3.1 j (by have := hf2.len; omega)).trans (hf2.out j hj hn)
        have hFaD : ∀ j ∈ Fa, j ∉ FD := fun j hj hm => (hks1.ownN j hj).2 (by simp [hm])
        have hb8D : b8 ∉ FD := fun hm => g83 b8 (by simp [hm]) rfl
        refine ⟨q3, rv3, F2, FR3, ⟨hks1.live, hj3, fun j hj => ?_, hks1.own.low (fun j hj => hkeep j (hks1.own.lt j hj) (hFaD j hj)), fun j hj => ⟨(hks1.ownN j hj).1, hno j (hks1.own.lt j hj) (hFaD j hj)⟩, hlow2.trans ⟨fun j hj => hl3.1 j (by have := hlow2.2; omega), by have := hl3.2; have := hlow2.2; omega⟩, hks1.few, h12⟩, (hkeep b8 g82 hb8D).trans hb1, fun j hj e => hno b8 g82 hb8D (e ▸ hj), g84, by have := hf2.len; have := hl3.2; omega, by (first | (simp [put_at, put_none, fr0_at, h0]; done) | rfl), by (first | (simp [put_at, put_none, fr0_at, h3]; done) | rfl), by (first | (simp [put_at, put_none, fr0_at]; done) | rfl), by (first | (simp [put_at, put_none, fr0_at, h6]; done) | rfl), by (first | (simp [put_at, put_none, fr0_at, h7]; done) | rfl), by (first | (simp [put_at, put_none, fr0_at]; done) | rfl)⟩
        simp only [List.mem_cons, List.mem_append] at hj
        have := hlow2.2
        rcases hj with rfl | hj | hj
        · omega
        · rcases hf2.new j hj with h | h
          · exact hks1.new j (by simp [h])
          · have := hks1.low.2; omega
        · have := hfr3 j hj; omega
      · have hk3' : (x.kind.tmod 4 == 3) = false := by simp [hk3]
        (refine aw_ops (by kernel_rfl) (fun K hK => ?_); simp (disch := first | omega | (simp only [List.length_set, List.length_append, List.length_cons, List.length_nil, iv_length, zl_length]; try omega; done)) [-getElem?_pos, -getElem?_neg, hb1, -notTuple, hln.1, hkn.1, nt_intJ, hk3, hk3', -tmodP]; refine hK _ _ ?_; clear hK K)
        refine aw_f (by (first | (simp [eval_tmp, put_at, hk3]; done) | (simp [eval_tmp, put_at, hk3]; omega))) (by kernel_rfl) ?_
        refine aw_skip ?_
        exact ⟨q, rv, FD, FR, hks1, hb1, g83, g84, g82, by (first | (simp [put_at, put_none, fr0_at, h0]; done) | rfl), by (first | (simp [put_at, put_none, fr0_at, h3]; done) | rfl), by (first | (simp [put_at, put_none, fr0_at, h4]; done) | rfl), by (first | (simp [put_at, put_none, fr0_at, h6]; done) | rfl), by (first | (simp [put_at, put_none, fr0_at, h7]; done) | rfl), by (first | (simp [put_at, put_none, fr0_at]; done) | rfl)⟩
    clear hks1 hb1 g81 g82 g83 g84 hgreat h0 h3 h4 h6 h7 G1 q rv FD FR
    rintro α G ⟨q, rv, FD, FR, hks, hb, g83, g84, g82, h0, h3, h4, h6, h7, h8⟩
    have hGG := hG.lowJ h2 hks.low
    obtain ⟨J', e, a1, a2, a3, a4, a5, _⟩ := hks.live.app (dk_rows hks.jr.hd) (ps := x.l) (fun s hs => by have := gr1 s hs; omega) (textsB_byJ _)
    have htl := textsB_lenJ x.l
    have hap := append_ac (nro := H.length) hGG hks.low.2 (by have := hks.low.2; omega) hks.jr hks.live.ok hks.new x.l (hsl.sls hks.low.1 hks.low.2 hks.new) gr1 gr2 (by have := hks.few; omega) (by omega) (textsB_byJ _) (by rw [hks.live.uns]; simp)
    rw [a1] at hap
    have hrl : J'.recs.length ≤ 21 * (i + 1) := by
      have := hks.few
      rcases a5 with ⟨_, h⟩ | ⟨_, h⟩ <;> rw [h]
      · rw [List.length_append]; omega
      · omega
    refine aw_seq ?_
    refine aw_cut (fun α G => ∃ (rv : Value) (FD FR : List Nat) (va : Value) (Fa : List Nat), KS H G d q rv FD FR J' va Fa (i + 1) ∧ α 0 = v ∧ α 3 = .pointer (some ⟨d, 0, none⟩) ∧ α 4 = .pointer (some ⟨q, 0, none⟩) ∧ α 6 = va ∧ α 7 = .int .i64 (i : Nat)) ?_ ?_
    · refine aw_seq ?_
      refine aw_ops (by kernel_rfl) (fun K hK => ?_)
      simp (disch := first | omega | (simp only [List.length_set, List.length_append, List.length_cons, List.length_nil, iv_length, zl_length]; try omega; done)) [-getElem?_pos, -getElem?_neg, h4, h8, hb, -notTuple, hln.1, hkn.1]
      refine ⟨by kernel_rfl, AC.mono hap ?_⟩
      rintro _ G4 ⟨rfl, rv4, F4, FR4, hj4, hf4⟩
      have hnew4 : ∀ j ∈ q :: (F4 ++ FR4), H.length ≤ j := fun j hj => by
        rcases hf4.new j hj with h | h
        · exact hks.new j h
        · have := hks.low.2; omega
      have hno4 : ∀ j, j < G.length → j ∉ q :: (FD ++ FR) → j ∉ q :: (F4 ++ FR4) := fun j hj hn hm => by
        rcases hf4.new j hm with h | h
        · exact hn h
        · omega
      have hlow4 : Low H.length H G4 := ⟨fun j hj => (hf4.out j (by have := hks.low.2; omega) (fun hm => by have := hks.new j hm; omega)).trans (hks.low.1 j hj), by have := hks.low.2; have := hf4.len; omega⟩
      have hown4 := hks.own.low (H' := G4) (fun j hj => hf4.out j (hks.own.lt j hj) (hks.ownN j hj).2)
      have hnat4 : ∀ j ∈ Fa, H.length ≤ j ∧ j ∉ q :: (F4 ++ FR4) := fun j hj => ⟨(hks.ownN j hj).1, hno4 j (hks.own.lt j hj) (hks.ownN j hj).2⟩
      have hb4 : hget G4 b8 = _ := (hf4.out b8 g82 (fun hm => g83 b8 hm rfl)).trans hb
      rcases a5 with ⟨rfl, hrec⟩ | ⟨hne, hrec⟩
      · simp (disch := first | omega | (simp only [List.length_set, List.length_append, List.length_cons, List.length_nil, iv_length, zl_length]; try omega; done)) [-getElem?_pos, -getElem?_neg]
        refine hK _ _ ?_; clear hK K
        refine aw_t (by (first | (simp [eval_tmp, put_at]; done) | (simp [eval_tmp, put_at]; omega))) (by kernel_rfl) ?_
        obtain ⟨v', G5, F', hxa, ho5, hl5, hk5, hn5⟩ := ownF_appendS (P := Tryd.prog) (nro := H.length) (t := 22) (e := 9) (x := lv) (by simp) (by simp) (by simp) (by simp) hown4 (fun j hj => (hnat4 j hj).1) hpl.ns (hpl.2 G4 hlow4.1) (by have := hks.few; simp; omega)
        have hsh := own_shape hown4
        have hsh5 := own_shape ho5
        (refine aw_ops (by kernel_rfl) (fun K hK => ?_); simp (disch := first | omega | (simp only [List.length_set, List.length_append, List.length_cons, List.length_nil, iv_length, zl_length]; try omega; done)) [-getElem?_pos, -getElem?_neg, h6, h8, hb4, -notTuple, hln.1, hkn.1, hsh.1, hsh5.1, -xappend, hxa]; refine hK _ _ ?_; clear hK K)
        have hj5 := hj4.low (H' := G5) (fun j hj => hk5 j (hj4.lts j hj) (fun hm => (hnat4 j hm).2 hj)) hl5
        refine ⟨rv4, F4, FR4, v', F', ⟨a2, hj5, hnew4, by rw [hrec, List.map_append]; exact ho5, fun j hj => ⟨by have := hn5 j hj; have := hlow4.2; omega, fun hm => by have := hn5 j hj; have := hj4.lts j hm; omega⟩, ⟨fun j hj => (hk5 j (by have := hlow4.2; omega) (fun hm => by have := (hnat4 j hm).1; omega)).trans (hlow4.1 j hj), by have := hlow4.2; omega⟩, hrl, by omega⟩, by (first | (simp [put_at, put_none, fr0_at, h0]; done) | rfl), by (first | (simp [put_at, put_none, fr0_at, h3]; done) | rfl), by (first | (simp [put_at, put_none, fr0_at, h4]; done) | rfl), by (first | (simp [put_at, put_none, fr0_at]; done) | rfl), by (first | (simp [put_at, put_none, fr0_at, h7]; done) | rfl)⟩
      · simp (disch := first | omega | (simp only [List.length_set, List.length_append, List.length_cons, List.length_nil, iv_length, zl_length]; try omega; done)) [-getElem?_pos, -getElem?_neg, hne]
        refine hK _ _ ?_; clear hK K
        refine aw_f (by (first | (simp [eval_tmp, put_at, hne]; done) | (simp [eval_tmp, put_at, hne]; omega))) (by kernel_rfl) ?_
        refine aw_skip ?_
        exact ⟨rv4, F4, FR4, va, Fa, ⟨a2, hj4, hnew4, by rw [hrec]; exact hown4, hnat4, hlow4, hrl, by omega⟩, by (first | (simp [put_at, put_none, fr0_at, h0]; done) | rfl), by (first | (simp [put_at, put_none, fr0_at, h3]; done) | rfl), by (first | (simp [put_at, put_none, fr0_at, h4]; done) | rfl), by (first | (simp [put_at, put_none, fr0_at, h6]; done) | rfl), by (first | (simp [put_at, put_none, fr0_at, h7]; done) | rfl)⟩
    clear hks hb g83 g84 g82 h0 h3 h4 h6 h7 h8 hap hGG rv FD FR va Fa
    rintro α G ⟨rv, FD, FR, va, Fa, hks, h0, h3, h4, h6, h7⟩
    refine aw_seq ?_
    have hsh := own_shape hks.own
    refine aw_ops (by kernel_rfl) (fun K hK => ?_)
    simp (disch := first | omega | (simp only [List.length_set, List.length_append, List.length_cons, List.length_nil, iv_length, zl_length]; try omega; done)) [-getElem?_pos, -getElem?_neg, h4]
    refine ⟨by kernel_rfl, AC.mono (records_ac (nro := H.length) hks.low.2 hks.jr (by omega)) ?_⟩
    rintro v6 G6 ⟨hp6, hl6, hk6⟩
    have hn6 := hp6.nt
    simp (disch := first | omega | (simp only [List.length_set, List.length_append, List.length_cons, List.length_nil, iv_length, zl_length]; try omega; done)) [-getElem?_pos, -getElem?_neg, h6, -notTuple, hn6, hsh.1]
    have hva6 := (hks.own.g.part.keep hl6 hk6).str
    refine ⟨by kernel_rfl, ac_of_rc (same_rc hp6.str hva6 (by omega) (by omega)) (by simp [pv_iv, pv_int, pv_bool, pv_string, pv_tup2, pv_tup3, iv_plain, p2_int, p2_bool, p2_string]) ?_⟩
    simp (disch := first | omega | (simp only [List.length_set, List.length_append, List.length_cons, List.length_nil, iv_length, zl_length]; try omega; done)) [-getElem?_pos, -getElem?_neg]
    refine hK _ _ ?_; clear hK K
    refine aw_f (by (first | (simp [eval_tmp, put_at]; done) | (simp [eval_tmp, put_at]; omega))) (by kernel_rfl) ?_
    refine aw_skip ?_
    (refine aw_ops (by kernel_rfl) (fun K hK => ?_); simp (disch := first | omega | (simp only [List.length_set, List.length_append, List.length_cons, List.length_nil, iv_length, zl_length]; try omega; done)) [-getElem?_pos, -getElem?_neg, h7]; refine hK _ _ ?_; clear hK K)
    exact ⟨c - 1, by omega, i + 1, q, rv, FD, FR, J', va, Fa, by omega, hks.lowG ⟨hk6, hl6⟩, by (first | (simp [put_at, put_none, fr0_at, h0]; done) | rfl), by (first | (simp [put_at, put_none, fr0_at, h3]; done) | rfl), by (first | (simp [put_at, put_none, fr0_at, h4]; done) | rfl), by (first | (simp [put_at, put_none, fr0_at, h6]; done) | rfl), by (first | (simp [put_at, put_none, fr0_at]; done) | rfl)⟩
end
end Go.Proofs.YtgamobjfeaeddaaDoor
