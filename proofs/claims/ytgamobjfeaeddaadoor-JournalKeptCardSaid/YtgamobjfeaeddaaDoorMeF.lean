/-
  Records as bytes; too long ones.
  Records read of bytes.
  A journal in memory; half, areaSize, start, Room, bytes.
  The journal's bytes, as they are on the disk.
  A disk's journal, opened.
  The blocks that have some bytes of an area.
  Numbers as bytes and back: by numbers alone.
  Texts and lists as bytes and back: by numbers alone.
  What was written is read: records, the mark.
  slices.Concat, slices.Clone, at slices of texts.
  The same records; too many or too long ones.
  A journal's records, told.
  A disk that holds records: what opening it finds.
  A disk that is not lit and not dead: what writes, syncs and crashes make of it.
  Pages written: what is on the disk behind them.
  Pages written one behind the other, and settled; a commit, told.
  A commit: bytes into an area behind those that are there, then the mark that lets them count.
-/
import Derived.Test.YtgamobjfeaeddaaDoorMeE
import Derived.Test.YtgamobjfeaeddaaDoorMeC
import Derived.Test.YtgamobjfeaeddaaDoorMeB
import Derived.Test.YtgamobjfeaeddaaDoorTabm
namespace Go.Proofs.YtgamobjfeaeddaaDoor
section
open Go Go.RowKit
set_option linter.unusedSimpArgs false
set_option linter.unusedVariables false
set_option maxRecDepth 100000
set_option maxHeartbeats 4000000

theorem SlV.stab {H : AH} {v : Value} {cells : List Value} (h : SlV H v cells) (F : List Nat) (hF : ∀ j ∈ F, H.length ≤ j) (L : AH) : SlS (H ++ L) F v cells := by
  intro G hg
  rcases h with h | ⟨j, off, k, h1, h2, h3⟩
  · exact .inl h
  · have hj := hget_lt h2
    refine .inr ⟨j, off, k, h1, ?_, h3⟩
    rw [hg j (by simp; omega) (fun hm => by have := hF j hm; omega)]
    exact hget_left' h2
attribute [local simp] wb_bool wb_undef XL_nil XL_cons XLc_val XLc_call step1_eq stepW_t stepW_f stepC_n stepC_s stepX_s stepX_n stepN_s calleeX oneV xop_eq xopR_s xopR_n wantedA_eq wantedG_n wantedG_s plain1_int plain1_bool plain1_string bits_i64 bits_u64 bits_u32 bits_u16 bits_u8 xeqA xagg xcmp xarr allK_iv num_iv calleeOf xread xeff xbin xint xnil xun xstr xload xconv xpart xfield xfieldAddr xindexAddr xindex bnd asInt? xslice xlen xmin xmax xbuild xfill xappend xapp2 xappstr xappmk xcap xcopy xcells eval_tmp eval_const put_at put_none fr0_at cells_agg cells_int cells_bool cells_string cells_ptr cells_slice notTuple tab iv_all hget_app hget_app0 hget_cons0 hget_cons set_app set_app0 setR setR_one QL_nil QL_cons QLc_val stepQ_t stepQ_f stepQC_n stepQC_s stepQX_s SL_nil SL_cons SLc_val stepS_t stepS_f ltT ltF leT leF eqT eqF ltTn ltFn leTn leFn eqTn eqFn beqT beqF bneT bneF wi64 wu64 wu32 wu16 wu8 tmodP tdivP hgetL hgetNe hgetEq setL nums_def nums_len Nat.succ_le_of_lt List.getElem?_cons_zero List.getElem?_cons_succ Option.getD_some Int.toNat_add Int.toNat_mul agB agI agS agP agL agA okB okI okS okP okSl okA
theorem written_rc {H : AH} {γ : Nat → Option Nat} {v : Value} {ps : List ByteArray} (hv : SlV H v (ps.map .string)) (hps : ∀ s ∈ ps, s.size ≤ 3000) (hlen : ps.length ≤ 29) :
    AC Tryd.prog H.length γ 41 #[v] H (fun v' _ => v' = .string (strOfNums (textsB ps))) := by
  have hno : notTuple v = true := by rcases hv with ⟨a, rfl, _⟩ | ⟨j, off, k, rfl, _⟩ <;> rfl
  refine ac_of_aw Tryd.func41 rfl Tryd.ntmps41 Tryd.results41 (by simp) ?_
  refine aw_seq ?_
  (refine aw_ops (by kernel_rfl) (fun K hK => ?_); simp (disch := first | omega | (simp only [List.length_set, List.length_append, List.length_cons, List.length_nil, iv_length, zl_length]; try omega; done)) [-getElem?_pos, -getElem?_neg]; refine hK _ _ ?_; clear hK K)
  refine aw_seq ?_
  (refine aw_ops (by kernel_rfl) (fun K hK => ?_); simp (disch := first | omega | (simp only [List.length_set, List.length_append, List.length_cons, List.length_nil, iv_length, zl_length]; try omega; done)) [-getElem?_pos, -getElem?_neg]; refine hK _ _ ?_; clear hK K)
  have hw : Wr (H ++ [some ⟨[.slice none 0 0], 112, none⟩]) H.length [H.length] [] := ⟨.slice none 0 0, [], rfl, by rw [hget_app0]; rfl, .inl ⟨rfl, rfl, rfl⟩, by simp⟩
  refine aw_seq ?_
  refine aw_ops (by kernel_rfl) (fun K hK => ?_)
  simp (disch := first | omega | (simp only [List.length_set, List.length_append, List.length_cons, List.length_nil, iv_length, zl_length]; try omega; done)) [-getElem?_pos, -getElem?_neg, -notTuple, hno]
  refine ⟨by kernel_rfl, AC.mono (texts_ac hw (by simp) (by simp) (hv.stab [H.length] (by simp) _) hps (by simp; omega)) ?_⟩
  rintro v1 H1 ⟨F1, hw1, hf1⟩
  rw [List.nil_append] at hw1
  try simp (disch := first | omega | (simp only [List.length_set, List.length_append, List.length_cons, List.length_nil, iv_length, zl_length]; try omega; done)) [-getElem?_pos, -getElem?_neg]
  refine hK _ _ ?_; clear hK K
  refine aw_seq ?_
  refine aw_ops (by kernel_rfl) (fun K hK => ?_)
  simp (disch := first | omega | (simp only [List.length_set, List.length_append, List.length_cons, List.length_nil, iv_length, zl_length]; try omega; done)) [-getElem?_pos, -getElem?_neg]
  refine ⟨by kernel_rfl, AC.mono (wstring_ac hw1) ?_⟩
  rintro v2 H2 ⟨rfl, rfl⟩
  try simp (disch := first | omega | (simp only [List.length_set, List.length_append, List.length_cons, List.length_nil, iv_length, zl_length]; try omega; done)) [-getElem?_pos, -getElem?_neg]
  refine hK _ _ ?_; clear hK K
  (refine aw_ret ?_; simp (disch := first | omega | (simp only [List.length_set, List.length_append, List.length_cons, List.length_nil, iv_length, zl_length]; try omega; done)) [-getElem?_pos, -getElem?_neg, thenQ_ret, scopeQ_ret, inBlockQ_ret, RQ, resL, resV])
theorem eval_fn2 (γ : Nat → Option Nat) (α : Fm) (f : FuncId) : α.eval γ (.func f) = .func (.func f) #[] #[] := rfl
def fnV (f : FuncId) : Value := .func (.func f) #[] #[]
theorem tooLong1_vc (s : ByteArray) (hs : s.size ≤ 60000) : VC Tryd.prog 66 #[.string s] (.bool false) := by
  refine vc_of_ac (by simp [pv_iv, pv_int, pv_bool, pv_string, pv_tup2, pv_tup3, iv_plain, p2_int, p2_bool, p2_string]) (by simp [pv_iv, pv_int, pv_bool, pv_string, pv_tup2, pv_tup3, iv_plain, p2_int, p2_bool, p2_string]) ?_
  refine ac_of_aw Tryd.func66 rfl Tryd.ntmps66 Tryd.results66 (by simp) ?_
  refine aw_seq ?_
  (refine aw_ops (by kernel_rfl) (fun K hK => ?_); simp (disch := first | omega | (simp only [List.length_set, List.length_append, List.length_cons, List.length_nil, iv_length, zl_length]; try omega; done)) [-getElem?_pos, -getElem?_neg]; refine hK _ _ ?_; clear hK K)
  refine aw_seq ?_
  have : ¬ 60000 < s.size := by omega
  (refine aw_ops (by kernel_rfl) (fun K hK => ?_); simp (disch := first | omega | (simp only [List.length_set, List.length_append, List.length_cons, List.length_nil, iv_length, zl_length]; try omega; done)) [-getElem?_pos, -getElem?_neg, this]; refine hK _ _ ?_; clear hK K)
  (refine aw_ret ?_; simp (disch := first | omega | (simp only [List.length_set, List.length_append, List.length_cons, List.length_nil, iv_length, zl_length]; try omega; done)) [-getElem?_pos, -getElem?_neg, thenQ_ret, scopeQ_ret, inBlockQ_ret, RQ, resL, resV])
theorem SlV.atS {P : Program} {H : AH} {v : Value} {ps : List ByteArray} {t e : TypeId} (h : SlV H v (ps.map .string)) (ht : und P t = .slice e) (hs : szt P e = 1) (he : isAggD (und P e) = false) (ho : okD (und P e) = true) {i : Nat} {s : ByteArray} (hi : ps[i]? = some s) :
    ∃ p, xindexAddr P t v (.int .i64 (i : Nat)) = some p ∧ xload P e p H = some (.string s) := by
  have hil : i < ps.length := (List.getElem?_eq_some_iff.1 hi).1
  rcases h with ⟨a, rfl, h0⟩ | ⟨j, off, b, rfl, hb, hc⟩
  · have : ps = [] := by simpa using h0
    subst this
    simp at hil
  · refine ⟨.pointer (some ⟨j, off + i, none⟩), ?_, ?_⟩
    · simp [xindexAddr, ht, hs, bnd, hil]
    · have := hc i (.string s) (by rw [List.getElem?_map, hi]; rfl)
      simp [xload, hb, he, ho, this]
theorem indexFunc_rc {H : AH} {γ : Nat → Option Nat} {v : Value} {ps : List ByteArray} (hv : SlV H v (ps.map .string)) (hps : ∀ s ∈ ps, s.size ≤ 60000) (hlen : ps.length ≤ 1000000) :
    AC Tryd.prog H.length γ 82 #[v, fnV 66] H (fun v' _ => v' = .int .i64 (-1)) := by
  have hno : notTuple v = true := by rcases hv with ⟨a, rfl, _⟩ | ⟨j, off, k, rfl, _⟩ <;> rfl
  have hxl := hv.len (P := Tryd.prog) (t := 22) (e := 9) (by simp)
  rw [List.length_map] at hxl
  refine ac_of_aw Tryd.func82 rfl Tryd.ntmps82 Tryd.results82 (by simp) ?_
  refine aw_seq ?_
  (refine aw_ops (by kernel_rfl) (fun K hK => ?_); simp (disch := first | omega | (simp only [List.length_set, List.length_append, List.length_cons, List.length_nil, iv_length, zl_length]; try omega; done)) [-getElem?_pos, -getElem?_neg]; refine hK _ _ ?_; clear hK K)
  refine aw_seq ?_
  refine aw_seq ?_
  (refine aw_ops (by kernel_rfl) (fun K hK => ?_); simp (disch := first | omega | (simp only [List.length_set, List.length_append, List.length_cons, List.length_nil, iv_length, zl_length]; try omega; done)) [-getElem?_pos, -getElem?_neg, -notTuple, hno, -xlen, hxl]; refine hK _ _ ?_; clear hK K)
  refine aw_block ?_
  refine aw_loop (fun q α H' => ∃ i : Nat, i + q = ps.length ∧ α 0 = v ∧ α 1 = fnV 66 ∧ α 7 = .int .i64 (ps.length : Nat) ∧ α 8 = .int .i64 (i : Nat) ∧ H' = H) ps.length ?_ ?_
  · exact ⟨0, by omega, by (first | (simp [put_at, put_none, fr0_at]; done) | rfl), by (first | (simp [put_at, put_none, fr0_at]; done) | rfl), by (first | (simp [put_at, put_none, fr0_at]; done) | rfl), by (first | (simp [put_at, put_none, fr0_at]; done) | rfl), rfl⟩
  rintro q α H' ⟨i, hi, h0, h1, h7, h8, rfl⟩
  refine aw_seq ?_
  by_cases hlt : i < ps.length
  · (refine aw_ops (by kernel_rfl) (fun K hK => ?_); simp (disch := first | omega | (simp only [List.length_set, List.length_append, List.length_cons, List.length_nil, iv_length, zl_length]; try omega; done)) [-getElem?_pos, -getElem?_neg, h7, h8, hlt]; refine hK _ _ ?_; clear hK K)
    refine aw_seq ?_
    refine aw_t (by (first | (simp [eval_tmp, put_at]; done) | (simp [eval_tmp, put_at]; omega))) (by kernel_rfl) ?_
    refine aw_skip ?_
    refine aw_seq ?_
    refine aw_block ?_
    refine aw_seq ?_
    (refine aw_ops (by kernel_rfl) (fun K hK => ?_); simp (disch := first | omega | (simp only [List.length_set, List.length_append, List.length_cons, List.length_nil, iv_length, zl_length]; try omega; done)) [-getElem?_pos, -getElem?_neg, h8]; refine hK _ _ ?_; clear hK K)
    obtain ⟨s, hs⟩ : ∃ s, ps[i]? = some s := ⟨_, List.getElem?_eq_getElem hlt⟩
    obtain ⟨p, hp1, hp2⟩ := hv.atS (P := Tryd.prog) (t := 22) (e := 9) (by simp) (by simp) (by simp) (by simp) hs
    refine aw_seq ?_
    refine aw_ops (by kernel_rfl) (fun K hK => ?_)
    simp (disch := first | omega | (simp only [List.length_set, List.length_append, List.length_cons, List.length_nil, iv_length, zl_length]; try omega; done)) [-getElem?_pos, -getElem?_neg, h0, h1, fnV, -notTuple, hno, -xindexAddr, hp1, -xload, hp2]
    refine ⟨by kernel_rfl, ac_of_vc (by simp [pv_iv, pv_int, pv_bool, pv_string, pv_tup2, pv_tup3, iv_plain, p2_int, p2_bool, p2_string]) (tooLong1_vc s (hps s (List.mem_of_getElem? hs))) ?_⟩
    try simp (disch := first | omega | (simp only [List.length_set, List.length_append, List.length_cons, List.length_nil, iv_length, zl_length]; try omega; done)) [-getElem?_pos, -getElem?_neg]
    refine hK _ _ ?_; clear hK K
    refine aw_f (by (first | (simp [eval_tmp, put_at]; done) | (simp [eval_tmp, put_at]; omega))) (by kernel_rfl) ?_
    refine aw_skip ?_
    (refine aw_ops (by kernel_rfl) (fun K hK => ?_); simp (disch := first | omega | (simp only [List.length_set, List.length_append, List.length_cons, List.length_nil, iv_length, zl_length]; try omega; done)) [-getElem?_pos, -getElem?_neg, h8]; refine hK _ _ ?_; clear hK K)
    refine ⟨q - 1, by omega, i + 1, by omega, by (first | (simp [put_at, put_none, fr0_at, h0]; done) | rfl), by (first | (simp [put_at, put_none, fr0_at, h1]; done) | rfl), by (first | (simp [put_at, put_none, fr0_at, h7]; done) | rfl), by (first | (simp [put_at, put_none, fr0_at]; done) | rfl), rfl⟩
  · (refine aw_ops (by kernel_rfl) (fun K hK => ?_); simp (disch := first | omega | (simp only [List.length_set, List.length_append, List.length_cons, List.length_nil, iv_length, zl_length]; try omega; done)) [-getElem?_pos, -getElem?_neg, h7, h8, hlt]; refine hK _ _ ?_; clear hK K)
    refine aw_seq ?_
    refine aw_f (by (first | (simp [eval_tmp, put_at]; done) | (simp [eval_tmp, put_at]; omega))) (by kernel_rfl) ?_
    refine aw_exit ?_
    refine aw_seq ?_
    (refine aw_ops (by kernel_rfl) (fun K hK => ?_); simp (disch := first | omega | (simp only [List.length_set, List.length_append, List.length_cons, List.length_nil, iv_length, zl_length]; try omega; done)) [-getElem?_pos, -getElem?_neg]; refine hK _ _ ?_; clear hK K)
    (refine aw_ret ?_; simp (disch := first | omega | (simp only [List.length_set, List.length_append, List.length_cons, List.length_nil, iv_length, zl_length]; try omega; done)) [-getElem?_pos, -getElem?_neg, thenQ_ret, scopeQ_ret, inBlockQ_ret, RQ, resL, resV])
theorem tooLong_rc {H : AH} {γ : Nat → Option Nat} {v : Value} {ps : List ByteArray} (hv : SlV H v (ps.map .string)) (hps : ∀ s ∈ ps, s.size ≤ 60000) (hlen : ps.length ≤ 1000000) :
    AC Tryd.prog H.length γ 40 #[v] H (fun v' _ => v' = .bool false) := by
  have hno : notTuple v = true := by rcases hv with ⟨a, rfl, _⟩ | ⟨j, off, k, rfl, _⟩ <;> rfl
  have hcon : AC Tryd.prog H.length γ 65 #[v, fnV 66] H (fun v' _ => v' = .bool false) := by
    refine ac_of_aw Tryd.func65 rfl Tryd.ntmps65 Tryd.results65 (by simp) ?_
    refine aw_seq ?_
    (refine aw_ops (by kernel_rfl) (fun K hK => ?_); simp (disch := first | omega | (simp only [List.length_set, List.length_append, List.length_cons, List.length_nil, iv_length, zl_length]; try omega; done)) [-getElem?_pos, -getElem?_neg]; refine hK _ _ ?_; clear hK K)
    refine aw_seq ?_
    refine aw_ops (by kernel_rfl) (fun K hK => ?_)
    simp (disch := first | omega | (simp only [List.length_set, List.length_append, List.length_cons, List.length_nil, iv_length, zl_length]; try omega; done)) [-getElem?_pos, -getElem?_neg, fnV, -notTuple, hno]
    refine ⟨by kernel_rfl, ac_of_rc (indexFunc_rc hv hps hlen) (by simp [pv_iv, pv_int, pv_bool, pv_string, pv_tup2, pv_tup3, iv_plain, p2_int, p2_bool, p2_string]) ?_⟩
    simp (disch := first | omega | (simp only [List.length_set, List.length_append, List.length_cons, List.length_nil, iv_length, zl_length]; try omega; done)) [-getElem?_pos, -getElem?_neg]
    refine hK _ _ ?_; clear hK K
    (refine aw_ret ?_; simp (disch := first | omega | (simp only [List.length_set, List.length_append, List.length_cons, List.length_nil, iv_length, zl_length]; try omega; done)) [-getElem?_pos, -getElem?_neg, thenQ_ret, scopeQ_ret, inBlockQ_ret, RQ, resL, resV])
  refine ac_of_aw Tryd.func40 rfl Tryd.ntmps40 Tryd.results40 (by simp) ?_
  refine aw_seq ?_
  (refine aw_ops (by kernel_rfl) (fun K hK => ?_); simp (disch := first | omega | (simp only [List.length_set, List.length_append, List.length_cons, List.length_nil, iv_length, zl_length]; try omega; done)) [-getElem?_pos, -getElem?_neg]; refine hK _ _ ?_; clear hK K)
  refine aw_seq ?_
  refine aw_ops (by kernel_rfl) (fun K hK => ?_)
  simp (disch := first | omega | (simp only [List.length_set, List.length_append, List.length_cons, List.length_nil, iv_length, zl_length]; try omega; done)) [-getElem?_pos, -getElem?_neg, -notTuple, hno, eval_fn2]
  refine ⟨by kernel_rfl, ac_of_rc hcon (by simp [pv_iv, pv_int, pv_bool, pv_string, pv_tup2, pv_tup3, iv_plain, p2_int, p2_bool, p2_string]) ?_⟩
  try simp (disch := first | omega | (simp only [List.length_set, List.length_append, List.length_cons, List.length_nil, iv_length, zl_length]; try omega; done)) [-getElem?_pos, -getElem?_neg]
  refine hK _ _ ?_; clear hK K
  (refine aw_ret ?_; simp (disch := first | omega | (simp only [List.length_set, List.length_append, List.length_cons, List.length_nil, iv_length, zl_length]; try omega; done)) [-getElem?_pos, -getElem?_neg, thenQ_ret, scopeQ_ret, inBlockQ_ret, RQ, resL, resV])
end

section
open Go Go.RowKit
set_option linter.unusedSimpArgs false
set_option linter.unusedVariables false
set_option maxRecDepth 100000
set_option maxHeartbeats 4000000

theorem rdN_short : ∀ (g n : Nat) (l : List Int), (rdN g n l).2.2 = 0 → (rdN g n l).2.1.length < l.length
  | 0, _, l, h => by simp [rdN] at h
  | _ + 1, _, [], h => by simp [rdN] at h
  | g + 1, n, b :: l, h => by
    unfold rdN at h ⊢
    split at h
    · simp at h
    · rename_i h1
      rw [if_neg h1]
      split at h
      · rename_i h2
        rw [if_pos h2]
        simp
      · rename_i h2
        rw [if_neg h2]
        have := rdN_short g _ l h
        simp only [List.length_cons]
        omega
theorem rdNum_short {l : List Int} (h : (rdNum l).2.2 = 0) : (rdNum l).2.1.length < l.length := by
  unfold rdNum at h ⊢
  split
  · rename_i e; exact rdN_short _ _ _ e
  · rename_i e; rw [if_neg e] at h; exact absurd h e
theorem rdText_short {most : Int} {l : List Int} : ((rdText most l).2.2 = 0 ∧ (rdText most l).2.1.length < l.length) ∨ ((rdText most l).2.2 ≠ 0 ∧ (rdText most l).2.1 = l) := by
  unfold rdText
  split
  · rename_i h; exact .inr ⟨h, rfl⟩
  · rename_i h
    split
    · exact .inr ⟨by simp, rfl⟩
    · refine .inl ⟨rfl, ?_⟩
      have h2 : (rdCount most l).2.1.length < l.length := by
        unfold rdCount at h ⊢
        split at h
        · rename_i h3; exact absurd h3 (by simpa using h)
        · rename_i h3
          rw [if_neg h3]
          split at h
          · simp at h
          · rename_i h4
            rw [if_neg h4]
            exact rdNum_short (by simpa using h3)
      rw [List.length_drop]
      omega
theorem rdText_by {most : Int} {l : List Int} (h : By l) : By (rdText most l).2.1 := by
  have := rdCount_by (most := most) h
  unfold rdText
  split
  · exact h
  · split
    · exact h
    · exact this.1.drop _
/-- The records in bytes, if there is nothing else; those that were read already ahead of them. -/
def recsR : Nat → List Int → List ByteArray → Option (List ByteArray)
  | 0, l, acc => if l = [] then some acc else none
  | f + 1, l, acc => if l = [] then some acc else if (rdText 60000 l).2.2 ≠ 0 then none else recsR f (rdText 60000 l).2.1 (acc ++ [strOfNums (rdText 60000 l).1])
attribute [local irreducible] rdText
theorem nt_strJ (s : ByteArray) : notTuple (.string s) = true := rfl
theorem nt_slJ (a : Option Addr) (n c : Nat) : notTuple (.slice a n c) = true := rfl
attribute [local simp] wb_bool wb_undef XL_nil XL_cons XLc_val XLc_call step1_eq stepW_t stepW_f stepC_n stepC_s stepX_s stepX_n stepN_s calleeX oneV xop_eq xopR_s xopR_n wantedA_eq wantedG_n wantedG_s plain1_int plain1_bool plain1_string bits_i64 bits_u64 bits_u32 bits_u16 bits_u8 xeqA xagg xcmp xarr allK_iv num_iv calleeOf xread xeff xbin xint xnil xun xstr xload xconv xpart xfield xfieldAddr xindexAddr xindex bnd asInt? xslice xlen xmin xmax xbuild xfill xappend xapp2 xappstr xappmk xcap xcopy xcells eval_tmp eval_const put_at put_none fr0_at cells_agg cells_int cells_bool cells_string cells_ptr cells_slice notTuple tab iv_all hget_app hget_app0 hget_cons0 hget_cons set_app set_app0 setR setR_one QL_nil QL_cons QLc_val stepQ_t stepQ_f stepQC_n stepQC_s stepQX_s SL_nil SL_cons SLc_val stepS_t stepS_f ltT ltF leT leF eqT eqF ltTn ltFn leTn leFn eqTn eqFn beqT beqF bneT bneF wi64 wu64 wu32 wu16 wu8 tmodP tdivP hgetL hgetNe hgetEq setL nums_def nums_len Nat.succ_le_of_lt List.getElem?_cons_zero List.getElem?_cons_succ Option.getD_some Int.toNat_add Int.toNat_mul agB agI agS agP agL agA okB okI okS okP okSl okA
theorem readRecs_ac {nro : Nat} {H : AH} {γ : Nat → Option Nat} (hnl : nro ≤ H.length) (l : List Int) (hb : By l) (hl : l.length ≤ 400000) :
    AC Tryd.prog nro γ 35 #[.string (strOfNums l)] H (fun v' H' => Low H.length H H' ∧ (recsR l.length l [] = none ∧ v' = .tuple #[.slice none 0 0, .bool false] ∨
      ∃ rs rv FR, recsR l.length l [] = some rs ∧ v' = .tuple #[rv, .bool true] ∧ OwnF H' rv 9 1 (rs.map .string) FR ∧ ∀ j ∈ FR, H.length ≤ j)) := by
  refine ac_of_aw Tryd.func35 rfl Tryd.ntmps35 Tryd.results35 (by simp) ?_
  refine aw_seq ?_
  (refine aw_ops (by kernel_rfl) (fun K hK => ?_); simp (disch := first | omega | (simp only [List.length_set, List.length_append, List.length_cons, List.length_nil, iv_length, zl_length]; try omega; done)) [-getElem?_pos, -getElem?_neg]; refine hK _ _ ?_; clear hK K)
  refine aw_seq ?_
  (refine aw_ops (by kernel_rfl) (fun K hK => ?_); simp (disch := first | omega | (simp only [List.length_set, List.length_append, List.length_cons, List.length_nil, iv_length, zl_length]; try omega; done)) [-getElem?_pos, -getElem?_neg]; refine hK _ _ ?_; clear hK K)
  refine aw_seq ?_
  refine aw_ops (by kernel_rfl) (fun K hK => ?_)
  simp (disch := first | omega | (simp only [List.length_set, List.length_append, List.length_cons, List.length_nil, iv_length, zl_length]; try omega; done)) [-getElem?_pos, -getElem?_neg]
  refine ⟨by kernel_rfl, AC.mono (newreader_ac (nro := nro)) ?_⟩
  rintro _ H1 ⟨rfl, rfl⟩
  try simp (disch := first | omega | (simp only [List.length_set, List.length_append, List.length_cons, List.length_nil, iv_length, zl_length]; try omega; done)) [-getElem?_pos, -getElem?_neg]
  refine hK _ _ ?_; clear hK K
  have hr0 : hget (H ++ [some (rdC l 0)]) H.length = some (rdC l 0) := by rw [hget_app0]; rfl
  refine aw_seq ?_
  refine aw_seq ?_
  refine aw_ops (by kernel_rfl) (fun K hK => ?_)
  simp (disch := first | omega | (simp only [List.length_set, List.length_append, List.length_cons, List.length_nil, iv_length, zl_length]; try omega; done)) [-getElem?_pos, -getElem?_neg]
  refine ⟨by kernel_rfl, AC.mono (left_ac (nro := nro) hr0 (by omega)) ?_⟩
  rintro _ H1 ⟨rfl, rfl⟩
  try simp (disch := first | omega | (simp only [List.length_set, List.length_append, List.length_cons, List.length_nil, iv_length, zl_length]; try omega; done)) [-getElem?_pos, -getElem?_neg]
  refine hK _ _ ?_; clear hK K
  refine aw_block ?_
  refine aw_loop (fun q α G => ∃ (s : List Int) (acc : List ByteArray) (v : Value) (F : List Nat), s.length ≤ q ∧ acc.length + s.length ≤ l.length ∧ recsR q s acc = recsR l.length l [] ∧ By s ∧ α 4 = v ∧ α 5 = .pointer (some ⟨H.length, 0, none⟩) ∧ α 6 = .int .i64 (s.length : Nat) ∧
    hget G H.length = some (rdC s 0) ∧ OwnF G v 9 1 (acc.map .string) F ∧ (∀ j ∈ F, H.length < j) ∧ Low H.length H G) l.length ?_ ?_
  · exact ⟨l, [], .slice none 0 0, [], Nat.le_refl _, by simp, rfl, hb, by (first | (simp [put_at, put_none, fr0_at]; done) | rfl), by (first | (simp [put_at, put_none, fr0_at]; done) | rfl), by (first | (simp [put_at, put_none, fr0_at]; done) | rfl), hr0, .inl ⟨rfl, rfl, rfl⟩, by simp, Low.push (Nat.le_refl _) _⟩
  rintro q α G ⟨s, acc, v, F, hq, hal, hrec, hsb, h4, h5, h6, hrd, hown, hF, hlow⟩
  have hlt := hget_lt hrd
  refine aw_seq ?_
  refine aw_seq ?_
  by_cases hs0 : 0 < s.length
  · (refine aw_ops (by kernel_rfl) (fun K hK => ?_); simp (disch := first | omega | (simp only [List.length_set, List.length_append, List.length_cons, List.length_nil, iv_length, zl_length]; try omega; done)) [-getElem?_pos, -getElem?_neg, h6, hs0]; refine hK _ _ ?_; clear hK K)
    refine aw_t (by (first | (simp [eval_tmp, put_at]; done) | (simp [eval_tmp, put_at]; omega))) (by kernel_rfl) ?_
    refine aw_skip ?_
    refine aw_seq ?_
    refine aw_block ?_
    refine aw_seq ?_
    refine aw_ops (by kernel_rfl) (fun K hK => ?_)
    have hsh := ownF_shape hown
    simp (disch := first | omega | (simp only [List.length_set, List.length_append, List.length_cons, List.length_nil, iv_length, zl_length]; try omega; done)) [-getElem?_pos, -getElem?_neg, h4, h5, -notTuple, hsh.1]
    refine ⟨by kernel_rfl, AC.mono (text_ac (most := 60000) hnl hrd hsb (by omega) (by omega)) ?_⟩
    rintro _ G1 ⟨rfl, rfl⟩
    have hsh2 := @rdText_short 60000 s
    have hrb := @rdText_by 60000 s hsb
    obtain ⟨t, s2, e, hr⟩ : ∃ t s2 e, rdText 60000 s = (t, s2, e) := ⟨_, _, _, rfl⟩
    rw [hr] at hsh2 hrb ⊢
    simp only at hsh2 hrb ⊢
    obtain ⟨G2, hG2⟩ : ∃ G2, G2 = G.set H.length (some (rdC s2 e)) := ⟨_, rfl⟩
    rw [← hG2]
    have hl2 : G2.length = G.length := by rw [hG2]; simp
    have hg2 : hget G2 H.length = some (rdC s2 e) := by rw [hG2]; exact hget_set_eq hlt
    have k2 : ∀ j, j ≠ H.length → hget G2 j = hget G j := fun j hj => by rw [hG2]; exact hget_set_ne (Ne.symm hj)
    have hown2 := (hown.low (H' := G2) (fun j hj => k2 j (by have := hF j hj; omega))).low (H' := G2 ++ [some ⟨[.string (strOfNums t)], 9, some 1⟩]) (fun j hj => hget_left (by have := hown.lt j hj; omega))
    obtain ⟨v', G3, hap, ho, hlen, hk⟩ := ownF_append (P := Tryd.prog) (nro := nro) (t := 22) (e := 9) (H := G2 ++ [some ⟨[.string (strOfNums t)], 9, some 1⟩]) (v := v) (x := .slice (some ⟨G2.length, 0, none⟩) 1 1) (sz := 1) (cells := acc.map .string) (news := [.string (strOfNums t)]) (F := F)
      (by simp) (by simp) (by omega) (by simp) hown2 (fun j hj => by have := hF j hj; omega) (fun s h => by cases h) (by simp [xcells, hget_app0, hget_cons0]) (by simp) (by simp) (by simp; omega) (by simp [maxLen]; omega)
    have hsh3 := ownF_shape ho
    simp (disch := first | omega | (simp only [List.length_set, List.length_append, List.length_cons, List.length_nil, iv_length, zl_length]; try omega; done)) [-getElem?_pos, -getElem?_neg, -notTuple, nt_strJ, nt_slJ, hsh.1, hsh3.1, hsh3.2, -xappend, hap]
    refine hK _ _ ?_; clear hK K
    have hg3 : hget G3 H.length = some (rdC s2 e) := by
      rw [hk _ (by simp; omega) (fun hm => by have := hF _ hm; omega), hget_left (by omega)]
      exact hg2
    have hl3 : G.length ≤ G3.length := by simp at hlen; omega
    have hlow3 : Low H.length H G3 := ⟨fun j hj => by
      rw [hk j (by simp; omega) (fun hm => by have := hF _ hm; omega), hget_left (by omega), k2 j (by omega)]
      exact hlow.1 j hj, by omega⟩
    have hrec2 : ∃ q', q = q' + 1 := ⟨q - 1, by omega⟩
    obtain ⟨q', rfl⟩ := hrec2
    have hsn : s ≠ [] := fun h => by rw [h] at hs0; simp at hs0
    have hunf : recsR (q' + 1) s acc = if e ≠ 0 then none else recsR q' s2 (acc ++ [strOfNums t]) := by
      rw [recsR, if_neg hsn, hr]
    rw [hunf] at hrec
    have hs2l : s2.length ≤ s.length := by
      rcases hsh2 with ⟨_, h⟩ | ⟨_, h⟩
      · omega
      · rw [h]; omega
    refine aw_seq ?_
    refine aw_ops (by kernel_rfl) (fun K hK => ?_)
    simp (disch := first | omega | (simp only [List.length_set, List.length_append, List.length_cons, List.length_nil, iv_length, zl_length]; try omega; done)) [-getElem?_pos, -getElem?_neg, h5]
    refine ⟨by kernel_rfl, AC.mono (left_ac (nro := nro) hg3 (by omega)) ?_⟩
    rintro _ G4 ⟨rfl, e4⟩
    rw [e4]
    clear e4 G4
    rcases hsh2 with ⟨he, hlt2⟩ | ⟨he, heq⟩
    · have hne : ¬ ((s2.length : Nat) : Int) = (s.length : Nat) := by omega
      simp (disch := first | omega | (simp only [List.length_set, List.length_append, List.length_cons, List.length_nil, iv_length, zl_length]; try omega; done)) [-getElem?_pos, -getElem?_neg, h6, hne]
      refine hK _ _ ?_; clear hK K
      refine aw_f (by (first | (simp [eval_tmp, put_at]; done) | (simp [eval_tmp, put_at]; omega))) (by kernel_rfl) ?_
      refine aw_skip ?_
      refine aw_ops (by kernel_rfl) (fun K hK => ?_)
      simp (disch := first | omega | (simp only [List.length_set, List.length_append, List.length_cons, List.length_nil, iv_length, zl_length]; try omega; done)) [-getElem?_pos, -getElem?_neg, h5]
      refine ⟨by kernel_rfl, AC.mono (left_ac (nro := nro) hg3 (by omega)) ?_⟩
      rintro _ G5 ⟨rfl, e5⟩
      rw [e5]
      clear e5 G5
      try simp (disch := first | omega | (simp only [List.length_set, List.length_append, List.length_cons, List.length_nil, iv_length, zl_length]; try omega; done)) [-getElem?_pos, -getElem?_neg]
      refine hK _ _ ?_; clear hK K
      subst he
      rw [if_neg (by simp)] at hrec
      have ho' : OwnF G3 v' 9 1 ((acc ++ [strOfNums t]).map .string) [G2.length + 1] := by
        rw [List.map_append]
        simpa using ho
      refine ⟨q', by omega, s2, acc ++ [strOfNums t], v', [G2.length + 1], by omega, by simp; omega, hrec, hrb, by (first | (simp [put_at, put_none, fr0_at]; done) | rfl), by (first | (simp [put_at, put_none, fr0_at, h5]; done) | rfl), by (first | (simp [put_at, put_none, fr0_at]; done) | rfl), hg3, ho', by simp; omega, hlow3⟩
    · subst heq
      simp (disch := first | omega | (simp only [List.length_set, List.length_append, List.length_cons, List.length_nil, iv_length, zl_length]; try omega; done)) [-getElem?_pos, -getElem?_neg, h6]
      refine hK _ _ ?_; clear hK K
      refine aw_t (by (first | (simp [eval_tmp, put_at]; done) | (simp [eval_tmp, put_at]; omega))) (by kernel_rfl) ?_
      refine aw_seq ?_
      (refine aw_ops (by kernel_rfl) (fun K hK => ?_); simp (disch := first | omega | (simp only [List.length_set, List.length_append, List.length_cons, List.length_nil, iv_length, zl_length]; try omega; done)) [-getElem?_pos, -getElem?_neg]; refine hK _ _ ?_; clear hK K)
      rw [if_pos he] at hrec
      (refine aw_ret ?_; simp (disch := first | omega | (simp only [List.length_set, List.length_append, List.length_cons, List.length_nil, iv_length, zl_length]; try omega; done)) [-getElem?_pos, -getElem?_neg, thenQ_ret, scopeQ_ret, inBlockQ_ret, RQ, resL, resV])
      exact ⟨hlow3, hrec.symm⟩
  · (refine aw_ops (by kernel_rfl) (fun K hK => ?_); simp (disch := first | omega | (simp only [List.length_set, List.length_append, List.length_cons, List.length_nil, iv_length, zl_length]; try omega; done)) [-getElem?_pos, -getElem?_neg, h6, hs0]; refine hK _ _ ?_; clear hK K)
    refine aw_f (by (first | (simp [eval_tmp, put_at]; done) | (simp [eval_tmp, put_at]; omega))) (by kernel_rfl) ?_
    refine aw_exit ?_
    refine aw_seq ?_
    have hsh := ownF_shape hown
    (refine aw_ops (by kernel_rfl) (fun K hK => ?_); simp (disch := first | omega | (simp only [List.length_set, List.length_append, List.length_cons, List.length_nil, iv_length, zl_length]; try omega; done)) [-getElem?_pos, -getElem?_neg, h4, -notTuple, hsh.1]; refine hK _ _ ?_; clear hK K)
    have hsn : s = [] := List.eq_nil_of_length_eq_zero (by omega)
    have hrec2 : recsR l.length l [] = some acc := by
      rw [← hrec, hsn]
      cases q <;> simp [recsR]
    (refine aw_ret ?_; simp (disch := first | omega | (simp only [List.length_set, List.length_append, List.length_cons, List.length_nil, iv_length, zl_length]; try omega; done)) [-getElem?_pos, -getElem?_neg, thenQ_ret, scopeQ_ret, inBlockQ_ret, RQ, resL, resV, -notTuple, hsh.1])
    exact ⟨_, ⟨rfl, rfl⟩, hlow, .inr ⟨acc, hrec2, v, rfl, F, hown, fun j hj => by have := hF j hj; omega⟩⟩
end

section
open Go Go.RowKit
set_option linter.unusedSimpArgs false
set_option linter.unusedVariables false
set_option maxRecDepth 100000
set_option maxHeartbeats 4000000

/-- A slice that shows these cells, as long as F stays. -/
structure OwnG (H : AH) (v : Value) (cells : List Value) (F : List Nat) : Prop where
  shape : ∃ a c, v = .slice a cells.length c
  lt : ∀ j ∈ F, j < H.length
  cells : ∀ G : AH, (∀ j ∈ F, hget G j = hget H j) → xcells 1 v G = some cells
theorem OwnG.low {H H' : AH} {v : Value} {cells : List Value} {F : List Nat} (h : OwnG H v cells F) (hl : ∀ j ∈ F, hget H' j = hget H j) (hlen : H.length ≤ H'.length) : OwnG H' v cells F :=
  ⟨h.shape, fun j hj => Nat.lt_of_lt_of_le (h.lt j hj) hlen, fun G hg => h.cells G (fun j hj => (hg j hj).trans (hl j hj))⟩
theorem OwnG.nt {H : AH} {v : Value} {cells : List Value} {F : List Nat} (h : OwnG H v cells F) : notTuple v = true ∧ v.cells = #[v] := by
  obtain ⟨a, c, rfl⟩ := h.shape
  exact ⟨rfl, rfl⟩
theorem OwnF.g {H : AH} {v : Value} {e : TypeId} {cells : List Value} {F : List Nat} (h : OwnF H v e 1 cells F) : OwnG H v cells F := by
  rcases h with ⟨rfl, rfl, rfl⟩ | ⟨j, len, rfl, h2, h3, rfl⟩
  · exact ⟨⟨none, 0, rfl⟩, by simp, fun G _ => rfl⟩
  · have hl : len = cells.length := by omega
    subst hl
    refine ⟨⟨_, _, rfl⟩, fun i hi => by simp at hi; subst hi; exact hget_lt h2, fun G hg => ?_⟩
    simp only [xcells]
    rw [hg j (by simp), h2]
    simp
/-- A journal: its disk, its records, its area, how many bytes of it. -/
structure JM where
  D : DM
  recs : List ByteArray
  area : Nat
  size : Nat
structure JrR (H : AH) (q d : Nat) (rv : Value) (FD FR : List Nat) (J : JM) : Prop where
  hq : hget H q = some ⟨[.pointer (some ⟨d, 0, none⟩), rv, .int .i64 (J.area : Nat), .int .i64 (J.size : Nat)], 72, none⟩
  hd : Dk H d FD J.D
  hr : OwnG H rv (J.recs.map .string) FR
  qd : q ∉ FD
  qr : q ∉ FR
  dr : ∀ j ∈ FD, j ∉ FR
def JM.half (J : JM) : Nat := (J.D.firm.length - 1) / 2
structure JM.Ok (J : JM) : Prop where
  area : J.area ≤ 1
  size : J.size ≤ J.half * 256
def Jr (H : AH) (q : Nat) (F : List Nat) (J : JM) : Prop := J.Ok ∧ ∃ d rv FD FR, F = q :: (FD ++ FR) ∧ JrR H q d rv FD FR J
theorem JrR.low {H H' : AH} {q d : Nat} {rv : Value} {FD FR : List Nat} {J : JM} (h : JrR H q d rv FD FR J) (hl : ∀ j ∈ q :: (FD ++ FR), hget H' j = hget H j) (hlen : H.length ≤ H'.length := by first | omega | (simp; done) | (simp; omega)) : JrR H' q d rv FD FR J :=
  ⟨(hl q (by simp)).trans h.hq, h.hd.low (fun j hj => hl j (by simp [hj])), h.hr.low (fun j hj => hl j (by simp [hj])) hlen, h.qd, h.qr, h.dr⟩
theorem Jr.low {H H' : AH} {q : Nat} {F : List Nat} {J : JM} (h : Jr H q F J) (hl : ∀ j ∈ F, hget H' j = hget H j) (hlen : H.length ≤ H'.length) : Jr H' q F J := by
  obtain ⟨h0, d, rv, FD, FR, rfl, h1⟩ := h
  exact ⟨h0, d, rv, FD, FR, rfl, h1.low hl hlen⟩
theorem Jr.lt {H : AH} {q : Nat} {F : List Nat} {J : JM} (h : Jr H q F J) : ∀ j ∈ F, j < H.length := by
  obtain ⟨h0, d, rv, FD, FR, rfl, h1⟩ := h
  intro j hj
  simp only [List.mem_cons, List.mem_append] at hj
  rcases hj with rfl | hj | hj
  · exact hget_lt h1.hq
  · exact h1.hd.lt j hj
  · exact h1.hr.lt j hj
attribute [local simp] wb_bool wb_undef XL_nil XL_cons XLc_val XLc_call step1_eq stepW_t stepW_f stepC_n stepC_s stepX_s stepX_n stepN_s calleeX oneV xop_eq xopR_s xopR_n wantedA_eq wantedG_n wantedG_s plain1_int plain1_bool plain1_string bits_i64 bits_u64 bits_u32 bits_u16 bits_u8 xeqA xagg xcmp xarr allK_iv num_iv calleeOf xread xeff xbin xint xnil xun xstr xload xconv xpart xfield xfieldAddr xindexAddr xindex bnd asInt? xslice xlen xmin xmax xbuild xfill xappend xapp2 xappstr xappmk xcap xcopy xcells eval_tmp eval_const put_at put_none fr0_at cells_agg cells_int cells_bool cells_string cells_ptr cells_slice notTuple tab iv_all hget_app hget_app0 hget_cons0 hget_cons set_app set_app0 setR setR_one QL_nil QL_cons QLc_val stepQ_t stepQ_f stepQC_n stepQC_s stepQX_s SL_nil SL_cons SLc_val stepS_t stepS_f ltT ltF leT leF eqT eqF ltTn ltFn leTn leFn eqTn eqFn beqT beqF bneT bneF wi64 wu64 wu32 wu16 wu8 tmodP tdivP hgetL hgetNe hgetEq setL nums_def nums_len Nat.succ_le_of_lt List.getElem?_cons_zero List.getElem?_cons_succ Option.getD_some Int.toNat_add Int.toNat_mul agB agI agS agP agL agA okB okI okS okP okSl okA
section
variable {nro : Nat} {γ : Nat → Option Nat} {H : AH} {q d : Nat} {rv : Value} {FD FR : List Nat} {J : JM}
theorem half_ac (h : JrR H q d rv FD FR J) : AC Tryd.prog nro γ 55 #[.pointer (some ⟨q, 0, none⟩)] H (fun v' H' => v' = .int .i64 (J.half : Nat) ∧ H' = H) := by
  have hq := h.hq
  have h1 := h.hd.1.one
  have h2 := h.hd.1.most
  have hlt : J.half ≤ 1024 := by unfold JM.half; omega
  have hh : ((J.D.firm.length : Nat) - 1 : Int).tdiv 2 = (J.half : Nat) := by
    unfold JM.half
    rw [Int.tdiv_eq_ediv_of_nonneg (by omega)]
    omega
  have hb := blocks_ac (nro := nro) (γ := γ) h.hd
  refine ac_of_aw Tryd.func55 rfl Tryd.ntmps55 Tryd.results55 (by simp) ?_
  refine aw_seq ?_
  (refine aw_ops (by kernel_rfl) (fun K hK => ?_); simp (disch := first | omega | (simp only [List.length_set, List.length_append, List.length_cons, List.length_nil, iv_length, zl_length]; try omega; done)) [-getElem?_pos, -getElem?_neg]; refine hK _ _ ?_; clear hK K)
  refine aw_seq ?_
  refine aw_ops (by kernel_rfl) (fun K hK => ?_)
  simp (disch := first | omega | (simp only [List.length_set, List.length_append, List.length_cons, List.length_nil, iv_length, zl_length]; try omega; done)) [-getElem?_pos, -getElem?_neg, hq]
  refine ⟨by kernel_rfl, AC.mono hb ?_⟩
  rintro _ G ⟨rfl, e⟩
  rw [e]
  clear e G
  simp (disch := first | omega | (simp only [List.length_set, List.length_append, List.length_cons, List.length_nil, iv_length, zl_length]; try omega; done)) [-getElem?_pos, -getElem?_neg, hh, -tdivP]
  refine hK _ _ ?_; clear hK K
  (refine aw_ret ?_; simp (disch := first | omega | (simp only [List.length_set, List.length_append, List.length_cons, List.length_nil, iv_length, zl_length]; try omega; done)) [-getElem?_pos, -getElem?_neg, thenQ_ret, scopeQ_ret, inBlockQ_ret, RQ, resL, resV])
theorem areaSize_ac (h : JrR H q d rv FD FR J) : AC Tryd.prog nro γ 34 #[.pointer (some ⟨q, 0, none⟩)] H (fun v' H' => v' = .int .i64 ((J.half * 256 : Nat) : Int) ∧ H' = H) := by
  have h2 := h.hd.1.most
  have hlt : J.half ≤ 1024 := by unfold JM.half; omega
  have hb := half_ac (nro := nro) (γ := γ) h
  refine ac_of_aw Tryd.func34 rfl Tryd.ntmps34 Tryd.results34 (by simp) ?_
  refine aw_seq ?_
  (refine aw_ops (by kernel_rfl) (fun K hK => ?_); simp (disch := first | omega | (simp only [List.length_set, List.length_append, List.length_cons, List.length_nil, iv_length, zl_length]; try omega; done)) [-getElem?_pos, -getElem?_neg]; refine hK _ _ ?_; clear hK K)
  refine aw_seq ?_
  refine aw_ops (by kernel_rfl) (fun K hK => ?_)
  simp (disch := first | omega | (simp only [List.length_set, List.length_append, List.length_cons, List.length_nil, iv_length, zl_length]; try omega; done)) [-getElem?_pos, -getElem?_neg]
  refine ⟨by kernel_rfl, AC.mono hb ?_⟩
  rintro _ G ⟨rfl, e⟩
  rw [e]
  clear e G
  simp (disch := first | omega | (simp only [List.length_set, List.length_append, List.length_cons, List.length_nil, iv_length, zl_length]; try omega; done)) [-getElem?_pos, -getElem?_neg]
  refine hK _ _ ?_; clear hK K
  (refine aw_ret ?_; simp (disch := first | omega | (simp only [List.length_set, List.length_append, List.length_cons, List.length_nil, iv_length, zl_length]; try omega; done)) [-getElem?_pos, -getElem?_neg, thenQ_ret, scopeQ_ret, inBlockQ_ret, RQ, resL, resV])
def JM.start (J : JM) (a : Nat) : Nat := 1 + a * J.half
theorem start_ac (h : JrR H q d rv FD FR J) (a : Nat) (ha : a ≤ 1) : AC Tryd.prog nro γ 59 #[.pointer (some ⟨q, 0, none⟩), .int .i64 (a : Nat)] H (fun v' H' => v' = .int .i64 (J.start a : Nat) ∧ H' = H) := by
  have h2 := h.hd.1.most
  have hlt : J.half ≤ 1024 := by unfold JM.half; omega
  have hb := half_ac (nro := nro) (γ := γ) h
  have hm : (a : Int) * (J.half : Int) = ((a * J.half : Nat) : Int) := by simp
  have hm2 : a * J.half ≤ 1024 := by
    have := Nat.mul_le_mul ha hlt
    omega
  have hs : J.start a = 1 + a * J.half := rfl
  generalize a * J.half = m at *
  refine ac_of_aw Tryd.func59 rfl Tryd.ntmps59 Tryd.results59 (by simp) ?_
  refine aw_seq ?_
  (refine aw_ops (by kernel_rfl) (fun K hK => ?_); simp (disch := first | omega | (simp only [List.length_set, List.length_append, List.length_cons, List.length_nil, iv_length, zl_length]; try omega; done)) [-getElem?_pos, -getElem?_neg]; refine hK _ _ ?_; clear hK K)
  refine aw_seq ?_
  refine aw_ops (by kernel_rfl) (fun K hK => ?_)
  simp (disch := first | omega | (simp only [List.length_set, List.length_append, List.length_cons, List.length_nil, iv_length, zl_length]; try omega; done)) [-getElem?_pos, -getElem?_neg]
  refine ⟨by kernel_rfl, AC.mono hb ?_⟩
  rintro _ G ⟨rfl, e⟩
  rw [e]
  clear e G
  simp (disch := first | omega | (simp only [List.length_set, List.length_append, List.length_cons, List.length_nil, iv_length, zl_length]; try omega; done)) [-getElem?_pos, -getElem?_neg, hm]
  refine hK _ _ ?_; clear hK K
  (refine aw_ret ?_; simp (disch := first | omega | (simp only [List.length_set, List.length_append, List.length_cons, List.length_nil, iv_length, zl_length]; try omega; done)) [-getElem?_pos, -getElem?_neg, thenQ_ret, scopeQ_ret, inBlockQ_ret, RQ, resL, resV])
end
theorem room_rc {γ : Nat → Option Nat} {H : AH} {q d : Nat} {rv : Value} {FD FR : List Nat} {J : JM} (h : JrR H q d rv FD FR J) (ho : J.Ok) : AC Tryd.prog H.length γ 16 #[.pointer (some ⟨q, 0, none⟩)] H (fun v' _ => v' = .int .i64 ((J.half * 256 : Nat) - (J.size : Nat) : Int)) := by
  have h2 := h.hd.1.most
  have hlt : J.half ≤ 1024 := by unfold JM.half; omega
  have hsz := ho.size
  have hq := h.hq
  have hql := hget_lt hq
  refine ac_of_aw Tryd.func16 rfl Tryd.ntmps16 Tryd.results16 (by simp) ?_
  refine aw_seq ?_
  (refine aw_ops (by kernel_rfl) (fun K hK => ?_); simp (disch := first | omega | (simp only [List.length_set, List.length_append, List.length_cons, List.length_nil, iv_length, zl_length]; try omega; done)) [-getElem?_pos, -getElem?_neg]; refine hK _ _ ?_; clear hK K)
  refine aw_seq ?_
  refine aw_seq ?_
  (refine aw_ops (by kernel_rfl) (fun K hK => ?_); simp (disch := first | omega | (simp only [List.length_set, List.length_append, List.length_cons, List.length_nil, iv_length, zl_length]; try omega; done)) [-getElem?_pos, -getElem?_neg]; refine hK _ _ ?_; clear hK K)
  refine aw_f (by (first | (simp [eval_tmp, put_at]; done) | (simp [eval_tmp, put_at]; omega))) (by kernel_rfl) ?_
  refine aw_skip ?_
  refine aw_seq ?_
  (refine aw_plan [] [] [0, 1, 2, 3, 4, 5, 6, 7] 8 0 (by kernel_rfl) (by kernel_rfl) (by kernel_rfl) (fun K hK => ?_)); simp only [sel, List.getElem?_cons_succ, List.getElem?_cons_zero, List.drop_succ_cons, List.drop_zero]; simp (disch := first | omega | (simp only [List.length_set, List.length_append, List.length_cons, List.length_nil, iv_length, zl_length]; try omega; done)) [-getElem?_pos, -getElem?_neg, hq, PL_nil, PL_cons, PLc_val, PLc_new, stepP_t, stepP_f, stepPC_n, stepPC_s, stepPX_s, stepPX_n, stepPA_t, stepPA_c, stepPA_l, stepPN_s, allocOp, reloc_sl, reloc_ptr, List.map_cons, List.map_nil, List.nil_append, List.append_assoc, List.cons_append, Nat.add_assoc]
  refine PLc_call (v := .int .i64 ((J.half * 256 : Nat) : Int)) (by kernel_rfl) (fun L hL => ?_) (by simp [pv_iv, pv_int, pv_bool, pv_string, pv_tup2, pv_tup3, iv_plain, p2_int, p2_bool, p2_string]) ?_
  · have hL2 := areaSize_ac (nro := (H ++ L).length) (γ := γ) (h.low (H' := H ++ L) (fun j hj => hget_left (Jr.lt (J := J) ⟨ho, d, rv, FD, FR, rfl, h⟩ j hj)))
    exact hL2.mono fun _ _ hh => hh.1
  try simp (disch := first | omega | (simp only [List.length_set, List.length_append, List.length_cons, List.length_nil, iv_length, zl_length]; try omega; done)) [-getElem?_pos, -getElem?_neg, hq, PL_nil, PL_cons, PLc_val, PLc_new, stepP_t, stepP_f, stepPC_n, stepPC_s, stepPX_s, stepPX_n, stepPA_t, stepPA_c, stepPA_l, stepPN_s, allocOp, reloc_sl, reloc_ptr, List.map_cons, List.map_nil, List.nil_append, List.append_assoc, List.cons_append, Nat.add_assoc]
  refine hK _ _ ?_; clear hK K
  (refine aw_ret ?_; simp (disch := first | omega | (simp only [List.length_set, List.length_append, List.length_cons, List.length_nil, iv_length, zl_length]; try omega; done)) [-getElem?_pos, -getElem?_neg, thenQ_ret, scopeQ_ret, inBlockQ_ret, RQ, resL, resV])
end

section
open Go Go.RowKit
set_option linter.unusedSimpArgs false
set_option linter.unusedVariables false
set_option maxRecDepth 100000
set_option maxHeartbeats 4000000

/-- So many blocks' bytes, from block s on. -/
def catK (L : List ByteArray) (s : Nat) : Nat → List Int
  | 0 => []
  | k + 1 => catK L s k ++ nums (L.getD (s + k) ⟨#[]⟩)
theorem catK_by (L : List ByteArray) (s : Nat) : ∀ k, By (catK L s k)
  | 0 => by intro x hx; cases hx
  | k + 1 => (catK_by L s k).app (nums_bd _)
theorem catK_len {L : List ByteArray} (hL : ∀ r ∈ L, r.size = 256) (s : Nat) : ∀ k, s + k ≤ L.length → (catK L s k).length = 256 * k
  | 0, _ => rfl
  | k + 1, h => by
    have h1 := catK_len hL s k (by omega)
    have h2 : (L.getD (s + k) ⟨#[]⟩).size = 256 := by
      rw [List.getD_eq_getElem?_getD, List.getElem?_eq_getElem (by omega)]
      exact hL _ (List.getElem_mem _)
    simp only [catK, List.length_append, nums_len, h1, h2]
    omega
theorem catK_take {L : List ByteArray} (hL : ∀ r ∈ L, r.size = 256) (s i k n : Nat) (h : s + (i + k) ≤ L.length) (hn : n ≤ 256 * i) : (catK L s (i + k)).take n = (catK L s i).take n := by
  induction k with
  | zero => rfl
  | succ k ih =>
    rw [← Nat.add_assoc]
    show (catK L s (i + k) ++ _).take n = _
    rw [List.take_append_of_le_length (by rw [catK_len hL s _ (by omega)]; omega)]
    exact ih (by omega)
def JM.bytes (J : JM) : List Int := (catK J.D.late (J.start J.area) J.half).take J.size
theorem JM.bytes_by (J : JM) : By J.bytes := (catK_by _ _ _).take _
theorem bl_new {H : AH} : Bl (H ++ [some ⟨[.pointer none, .slice none 0 0], 102, none⟩]) H.length (strOfNums []) [] :=
  ⟨.pointer none, .slice none 0 0, .inl rfl, by rw [hget_app0]; rfl, .inl ⟨rfl, rfl, rfl⟩, by simp, fun _ => rfl⟩
attribute [local irreducible] catK
attribute [local simp] wb_bool wb_undef XL_nil XL_cons XLc_val XLc_call step1_eq stepW_t stepW_f stepC_n stepC_s stepX_s stepX_n stepN_s calleeX oneV xop_eq xopR_s xopR_n wantedA_eq wantedG_n wantedG_s plain1_int plain1_bool plain1_string bits_i64 bits_u64 bits_u32 bits_u16 bits_u8 xeqA xagg xcmp xarr allK_iv num_iv calleeOf xread xeff xbin xint xnil xun xstr xload xconv xpart xfield xfieldAddr xindexAddr xindex bnd asInt? xslice xlen xmin xmax xbuild xfill xappend xapp2 xappstr xappmk xcap xcopy xcells eval_tmp eval_const put_at put_none fr0_at cells_agg cells_int cells_bool cells_string cells_ptr cells_slice notTuple tab iv_all hget_app hget_app0 hget_cons0 hget_cons set_app set_app0 setR setR_one QL_nil QL_cons QLc_val stepQ_t stepQ_f stepQC_n stepQC_s stepQX_s SL_nil SL_cons SLc_val stepS_t stepS_f ltT ltF leT leF eqT eqF ltTn ltFn leTn leFn eqTn eqFn beqT beqF bneT bneF wi64 wu64 wu32 wu16 wu8 tmodP tdivP hgetL hgetNe hgetEq setL nums_def nums_len Nat.succ_le_of_lt List.getElem?_cons_zero List.getElem?_cons_succ Option.getD_some Int.toNat_add Int.toNat_mul agB agI agS agP agL agA okB okI okS okP okSl okA
theorem bytes_rc {γ : Nat → Option Nat} {H : AH} {q d : Nat} {rv : Value} {FD FR : List Nat} {J : JM} (h : JrR H q d rv FD FR J) (ho : J.Ok) :
    AC Tryd.prog H.length γ 36 #[.pointer (some ⟨q, 0, none⟩)] H (fun v' _ => v' = .string (strOfNums J.bytes)) := by
  have h1 := h.hd.1.one
  have h2 := h.hd.1.most
  have hhf : 2 * J.half + 1 ≤ J.D.firm.length := by unfold JM.half; omega
  have hsz := ho.size
  have har := ho.area
  have hlate : ∀ r ∈ J.D.late, r.size = 256 := late_rows h.hd.1.rows (fun w hw => (h.hd.1.uns w hw).2)
  have hll : J.D.late.length = J.D.firm.length := late_len _ _
  have hst : J.start J.area + J.half ≤ J.D.firm.length := by
    unfold JM.start
    rcases Nat.le_one_iff_eq_zero_or_eq_one.1 har with e | e <;> rw [e] <;> omega
  have hfl : ∀ j ∈ q :: (FD ++ FR), j < H.length := Jr.lt (J := J) ⟨ho, d, rv, FD, FR, rfl, h⟩
  have hq := h.hq
  have hql := hget_lt hq
  refine ac_of_aw Tryd.func36 rfl Tryd.ntmps36 Tryd.results36 (by simp) ?_
  refine aw_seq ?_
  (refine aw_ops (by kernel_rfl) (fun K hK => ?_); simp (disch := first | omega | (simp only [List.length_set, List.length_append, List.length_cons, List.length_nil, iv_length, zl_length]; try omega; done)) [-getElem?_pos, -getElem?_neg]; refine hK _ _ ?_; clear hK K)
  refine aw_seq ?_
  (refine aw_ops (by kernel_rfl) (fun K hK => ?_); simp (disch := first | omega | (simp only [List.length_set, List.length_append, List.length_cons, List.length_nil, iv_length, zl_length]; try omega; done)) [-getElem?_pos, -getElem?_neg]; refine hK _ _ ?_; clear hK K)
  refine aw_seq ?_
  refine aw_seq ?_
  refine aw_ops (by kernel_rfl) (fun K hK => ?_)
  simp (disch := first | omega | (simp only [List.length_set, List.length_append, List.length_cons, List.length_nil, iv_length, zl_length]; try omega; done)) [-getElem?_pos, -getElem?_neg, hq]
  refine ⟨by kernel_rfl, AC.mono (start_ac (nro := H.length) (h.low (H' := H ++ [some ⟨[.pointer none, .slice none 0 0], 102, none⟩]) (fun j hj => hget_left (hfl j hj))) J.area har) ?_⟩
  rintro _ G ⟨rfl, e⟩
  rw [e]
  clear e G
  try simp (disch := first | omega | (simp only [List.length_set, List.length_append, List.length_cons, List.length_nil, iv_length, zl_length]; try omega; done)) [-getElem?_pos, -getElem?_neg]
  refine hK _ _ ?_; clear hK K
  refine aw_block ?_
  refine aw_loop (fun c α G => ∃ (i : Nat) (F : List Nat), i + c = J.half ∧ α 0 = .pointer (some ⟨q, 0, none⟩) ∧ α 3 = .pointer (some ⟨H.length, 0, none⟩) ∧ α 4 = .int .i64 ((J.start J.area + i : Nat) : Int) ∧
    Low H.length H G ∧ Bl G H.length (strOfNums (catK J.D.late (J.start J.area) i)) F ∧ ∀ j ∈ F, H.length ≤ j) J.half ?_ ?_
  · have : catK J.D.late (J.start J.area) 0 = [] := by unfold catK; rfl
    refine ⟨0, [], by omega, by (first | (simp [put_at, put_none, fr0_at]; done) | rfl), by (first | (simp [put_at, put_none, fr0_at]; done) | rfl), by (first | (simp [put_at, put_none, fr0_at]; done) | rfl), Low.push (Nat.le_refl _) _, ?_, by simp⟩
    rw [this]
    exact bl_new
  rintro c α G ⟨i, F, hi, h0, h3, h4, hlow, hbl, hF⟩
  have hG : JrR G q d rv FD FR J := h.low (fun j hj => hlow.1 j (hfl j hj)) hlow.2
  have hgq := hG.hq
  have hbs : (strOfNums (catK J.D.late (J.start J.area) i)).size = 256 * i := by rw [sn_size, catK_len hlate _ _ (by omega)]
  have hblt := hbl.lt
  have hgql := hget_lt hgq
  refine aw_seq ?_
  refine aw_seq ?_
  by_cases hlt : 256 * i < J.size
  · (refine aw_plan [] [] [0, 1, 2, 3, 4, 5] 6 0 (by kernel_rfl) (by kernel_rfl) (by kernel_rfl) (fun K hK => ?_)); simp only [sel, List.getElem?_cons_succ, List.getElem?_cons_zero, List.drop_succ_cons, List.drop_zero]; simp (disch := first | omega | (simp only [List.length_set, List.length_append, List.length_cons, List.length_nil, iv_length, zl_length]; try omega; done)) [-getElem?_pos, -getElem?_neg, hgq, h0, h3, hlt, PL_nil, PL_cons, PLc_val, PLc_new, stepP_t, stepP_f, stepPC_n, stepPC_s, stepPX_s, stepPX_n, stepPA_t, stepPA_c, stepPA_l, stepPN_s, allocOp, reloc_sl, reloc_ptr, List.map_cons, List.map_nil, List.nil_append, List.append_assoc, List.cons_append, Nat.add_assoc]
    refine PLc_call (v := .int .i64 ((256 * i : Nat) : Int)) (by kernel_rfl) (fun L hL => ?_) (by simp [pv_iv, pv_int, pv_bool, pv_string, pv_tup2, pv_tup3, iv_plain, p2_int, p2_bool, p2_string]) ?_
    · have := bl_len (nro := (G ++ L).length) (γ := γ) (hbl.low (H' := G ++ L) (hget_left hblt.1) (fun j hj => hget_left (hblt.2 j hj)))
      rw [hbs] at this
      exact this.mono fun _ _ hh => hh.1
    try simp (disch := first | omega | (simp only [List.length_set, List.length_append, List.length_cons, List.length_nil, iv_length, zl_length]; try omega; done)) [-getElem?_pos, -getElem?_neg, hgq, h0, h3, hlt, PL_nil, PL_cons, PLc_val, PLc_new, stepP_t, stepP_f, stepPC_n, stepPC_s, stepPX_s, stepPX_n, stepPA_t, stepPA_c, stepPA_l, stepPN_s, allocOp, reloc_sl, reloc_ptr, List.map_cons, List.map_nil, List.nil_append, List.append_assoc, List.cons_append, Nat.add_assoc]
    refine hK _ _ ?_; clear hK K
    refine aw_t (by (first | (simp [eval_tmp, put_at]; done) | (simp [eval_tmp, put_at]; omega))) (by kernel_rfl) ?_
    refine aw_skip ?_
    refine aw_seq ?_
    refine aw_block ?_
    have hat : hasB J.D.firm.length ((J.start J.area + i : Nat) : Int) = true := by simp [hasB]; omega
    have hat2 : hasB J.D.late.length ((J.start J.area + i : Nat) : Int) = true := by rw [hll]; exact hat
    have hrv : readV J.D.late ((J.start J.area + i : Nat) : Int) = J.D.late.getD (J.start J.area + i) ⟨#[]⟩ := by
      unfold readV
      rw [if_pos hat2]
      simp
    have hrs : (J.D.late.getD (J.start J.area + i) ⟨#[]⟩).size = 256 := by
      rw [List.getD_eq_getElem?_getD, List.getElem?_eq_getElem (by omega)]
      exact hlate _ (List.getElem_mem _)
    have hcat : catK J.D.late (J.start J.area) (i + 1) = catK J.D.late (J.start J.area) i ++ nums (J.D.late.getD (J.start J.area + i) ⟨#[]⟩) := by with_unfolding_all rfl
    generalize J.D.late.getD (J.start J.area + i) ⟨#[]⟩ = r at *
    refine aw_seq ?_
    refine aw_ops (by kernel_rfl) (fun K hK => ?_)
    simp (disch := first | omega | (simp only [List.length_set, List.length_append, List.length_cons, List.length_nil, iv_length, zl_length]; try omega; done)) [-getElem?_pos, -getElem?_neg, hgq, h0, h4]
    refine ⟨by kernel_rfl, AC.mono (read_ac (nro := H.length) hG.hd ((J.start J.area + i : Nat) : Int)) ?_⟩
    rintro _ G1 ⟨rfl, e⟩
    rw [e, hrv, if_pos hat]
    clear e G1
    try simp (disch := first | omega | (simp only [List.length_set, List.length_append, List.length_cons, List.length_nil, iv_length, zl_length]; try omega; done)) [-getElem?_pos, -getElem?_neg]
    refine hK _ _ ?_; clear hK K
    refine aw_ops (by kernel_rfl) (fun K hK => ?_)
    simp (disch := first | omega | (simp only [List.length_set, List.length_append, List.length_cons, List.length_nil, iv_length, zl_length]; try omega; done)) [-getElem?_pos, -getElem?_neg, h3]
    refine ⟨by kernel_rfl, AC.mono (bl_write (t := r) hbl (Nat.le_refl _) hF (by rw [hbs, hrs]; omega)) ?_⟩
    rintro _ G2 ⟨rfl, F2, b1, b2, b3, b4⟩
    try simp (disch := first | omega | (simp only [List.length_set, List.length_append, List.length_cons, List.length_nil, iv_length, zl_length]; try omega; done)) [-getElem?_pos, -getElem?_neg]
    refine hK _ _ ?_; clear hK K
    (refine aw_ops (by kernel_rfl) (fun K hK => ?_); simp (disch := first | omega | (simp only [List.length_set, List.length_append, List.length_cons, List.length_nil, iv_length, zl_length]; try omega; done)) [-getElem?_pos, -getElem?_neg, h4]; refine hK _ _ ?_; clear hK K)
    refine ⟨c - 1, by omega, i + 1, F2, by omega, by (first | (simp [put_at, put_none, fr0_at, h0]; done) | rfl), by (first | (simp [put_at, put_none, fr0_at, h3]; done) | rfl), by (first | (simp [put_at, put_none, fr0_at]; done) | rfl), ⟨fun j hj => ?_, by have := hlow.2; omega⟩, ?_, fun j hj => by have := b3 j hj; have := hlow.2; omega⟩
    · rw [b4 j (by have := hlow.2; omega) (by omega) (fun hm => by have := hF j hm; omega)]
      exact hlow.1 j hj
    · rw [hcat, ← sn_app, of_nums']
      exact b1
  · (refine aw_plan [] [] [0, 1, 2, 3, 4, 5] 6 0 (by kernel_rfl) (by kernel_rfl) (by kernel_rfl) (fun K hK => ?_)); simp only [sel, List.getElem?_cons_succ, List.getElem?_cons_zero, List.drop_succ_cons, List.drop_zero]; simp (disch := first | omega | (simp only [List.length_set, List.length_append, List.length_cons, List.length_nil, iv_length, zl_length]; try omega; done)) [-getElem?_pos, -getElem?_neg, hgq, h0, h3, hlt, PL_nil, PL_cons, PLc_val, PLc_new, stepP_t, stepP_f, stepPC_n, stepPC_s, stepPX_s, stepPX_n, stepPA_t, stepPA_c, stepPA_l, stepPN_s, allocOp, reloc_sl, reloc_ptr, List.map_cons, List.map_nil, List.nil_append, List.append_assoc, List.cons_append, Nat.add_assoc]
    refine PLc_call (v := .int .i64 ((256 * i : Nat) : Int)) (by kernel_rfl) (fun L hL => ?_) (by simp [pv_iv, pv_int, pv_bool, pv_string, pv_tup2, pv_tup3, iv_plain, p2_int, p2_bool, p2_string]) ?_
    · have := bl_len (nro := (G ++ L).length) (γ := γ) (hbl.low (H' := G ++ L) (hget_left hblt.1) (fun j hj => hget_left (hblt.2 j hj)))
      rw [hbs] at this
      exact this.mono fun _ _ hh => hh.1
    try simp (disch := first | omega | (simp only [List.length_set, List.length_append, List.length_cons, List.length_nil, iv_length, zl_length]; try omega; done)) [-getElem?_pos, -getElem?_neg, hgq, h0, h3, hlt, PL_nil, PL_cons, PLc_val, PLc_new, stepP_t, stepP_f, stepPC_n, stepPC_s, stepPX_s, stepPX_n, stepPA_t, stepPA_c, stepPA_l, stepPN_s, allocOp, reloc_sl, reloc_ptr, List.map_cons, List.map_nil, List.nil_append, List.append_assoc, List.cons_append, Nat.add_assoc]
    refine hK _ _ ?_; clear hK K
    refine aw_f (by (first | (simp [eval_tmp, put_at]; done) | (simp [eval_tmp, put_at]; omega))) (by kernel_rfl) ?_
    refine aw_exit ?_
    refine aw_seq ?_
    have hexn : (strOfNums (catK J.D.late (J.start J.area) i)).extract 0 J.size = strOfNums J.bytes := by
      rw [ex_take]
      congr 1
      unfold JM.bytes
      rw [← hi, catK_take hlate _ i c J.size (by omega) (by omega)]
    (refine aw_tree [[0, 1, 2, 3, 4, 5, 6], [1, 0, 2, 3, 4, 5, 6], [1, 2, 0, 3, 4, 5, 6], [1, 2, 3, 0, 4, 5, 6], [1, 2, 3, 4, 0, 5, 6]] (by kernel_rfl) (by kernel_rfl) (by kernel_rfl) (fun K hK => ?_)); simp (disch := first | omega | (simp only [List.length_set, List.length_append, List.length_cons, List.length_nil, iv_length, zl_length]; try omega; done)) [-getElem?_pos, -getElem?_neg, hgq, h0, h3, XO_s, XO_z, XLk_val, XLk_call, headsO, behind, List.length_cons, List.length_nil, List.mem_cons, List.not_mem_nil, or_false, forall_eq_or_imp, forall_eq, List.contains_cons, List.contains_nil]
    repeat' apply And.intro
    all_goals try kernel_rfl
    all_goals
      refine AC.mono (bl_string hbl (Nat.le_refl _) hF) ?_
      rintro _ G1 ⟨rfl, b1, b2⟩
      have hgq1 := (b2 q (fun hm => by have := hF q hm; omega)).trans hgq
      try simp (disch := first | omega | (simp only [List.length_set, List.length_append, List.length_cons, List.length_nil, iv_length, zl_length]; try omega; done)) [-getElem?_pos, -getElem?_neg, hgq1, hbs, hexn, XO_s, XO_z, XLk_val, XLk_call, headsO, behind, List.length_cons, List.length_nil, List.mem_cons, List.not_mem_nil, or_false, forall_eq_or_imp, forall_eq, List.contains_cons, List.contains_nil]
      refine hK _ _ ?_; clear hK K
      (refine aw_ret ?_; simp (disch := first | omega | (simp only [List.length_set, List.length_append, List.length_cons, List.length_nil, iv_length, zl_length]; try omega; done)) [-getElem?_pos, -getElem?_neg, thenQ_ret, scopeQ_ret, inBlockQ_ret, RQ, resL, resV])
end

section
open Go Go.RowKit
set_option linter.unusedSimpArgs false
set_option linter.unusedVariables false
set_option maxRecDepth 100000
set_option maxHeartbeats 4000000

/-- The first sector. -/
def firstL (D : DM) : List Int := (nums (D.late.getD 0 ⟨#[]⟩)).take 64
def openJ (D : DM) : Option JM × Int :=
  if D.firm.length < 3 then (none, 1)
  else if firstL D = zl 64 then (some ⟨D, [], 0, 0⟩, 0)
  else if isMark (firstL D) = false ∨ (D.firm.length - 1) / 2 * 256 < mSize (firstL D) then (none, 9)
  else match recsR (JM.bytes ⟨D, [], mArea (firstL D), mSize (firstL D)⟩).length (JM.bytes ⟨D, [], mArea (firstL D), mSize (firstL D)⟩) [] with
    | none => (none, 9)
    | some rs => (some ⟨D, rs, mArea (firstL D), mSize (firstL D)⟩, 0)
def OpenQ (H : AH) (d : Nat) (FD : List Nat) (o : Option JM × Int) (v' : Value) (H' : AH) : Prop :=
  Low H.length H H' ∧ match o with
    | (none, e) => v' = .tuple #[.pointer none, .int .i64 e]
    | (some J, e) => ∃ q rv FR, v' = .tuple #[.pointer (some ⟨q, 0, none⟩), .int .i64 e] ∧ JrR H' q d rv FD FR J ∧ J.Ok ∧ H.length ≤ q ∧ ∀ j ∈ FR, H.length ≤ j
attribute [local irreducible] markL
attribute [local simp] wb_bool wb_undef XL_nil XL_cons XLc_val XLc_call step1_eq stepW_t stepW_f stepC_n stepC_s stepX_s stepX_n stepN_s calleeX oneV xop_eq xopR_s xopR_n wantedA_eq wantedG_n wantedG_s plain1_int plain1_bool plain1_string bits_i64 bits_u64 bits_u32 bits_u16 bits_u8 xeqA xagg xcmp xarr allK_iv num_iv calleeOf xread xeff xbin xint xnil xun xstr xload xconv xpart xfield xfieldAddr xindexAddr xindex bnd asInt? xslice xlen xmin xmax xbuild xfill xappend xapp2 xappstr xappmk xcap xcopy xcells eval_tmp eval_const put_at put_none fr0_at cells_agg cells_int cells_bool cells_string cells_ptr cells_slice notTuple tab iv_all hget_app hget_app0 hget_cons0 hget_cons set_app set_app0 setR setR_one QL_nil QL_cons QLc_val stepQ_t stepQ_f stepQC_n stepQC_s stepQX_s SL_nil SL_cons SLc_val stepS_t stepS_f ltT ltF leT leF eqT eqF ltTn ltFn leTn leFn eqTn eqFn beqT beqF bneT bneF wi64 wu64 wu32 wu16 wu8 tmodP tdivP hgetL hgetNe hgetEq setL nums_def nums_len Nat.succ_le_of_lt List.getElem?_cons_zero List.getElem?_cons_succ Option.getD_some Int.toNat_add Int.toNat_mul agB agI agS agP agL agA okB okI okS okP okSl okA
theorem open_ac {nro : Nat} {H : AH} (hG : GG H) (hnl : nro ≤ H.length) {d : Nat} {FD : List Nat} {D : DM} (hd : Dk H d FD D) :
    AC Tryd.prog nro gm 13 #[.pointer (some ⟨d, 0, none⟩)] H (OpenQ H d FD (openJ D)) := by
  have h1 := hd.1.one
  have h2 := hd.1.most
  have hlate : ∀ r ∈ D.late, r.size = 256 := late_rows hd.1.rows (fun w hw => (hd.1.uns w hw).2)
  have hll : D.late.length = D.firm.length := late_len _ _
  have hopen : openJ D = openJ D := rfl
  generalize ho : openJ D = o at hopen ⊢
  unfold openJ at ho
  refine ac_of_aw Tryd.func13 rfl Tryd.ntmps13 Tryd.results13 (by simp) ?_
  refine aw_seq ?_
  (refine aw_ops (by kernel_rfl) (fun K hK => ?_); simp (disch := first | omega | (simp only [List.length_set, List.length_append, List.length_cons, List.length_nil, iv_length, zl_length]; try omega; done)) [-getElem?_pos, -getElem?_neg]; refine hK _ _ ?_; clear hK K)
  refine aw_seq ?_
  refine aw_seq ?_
  refine aw_ops (by kernel_rfl) (fun K hK => ?_)
  simp (disch := first | omega | (simp only [List.length_set, List.length_append, List.length_cons, List.length_nil, iv_length, zl_length]; try omega; done)) [-getElem?_pos, -getElem?_neg]
  refine ⟨by kernel_rfl, AC.mono (blocks_ac (nro := nro) hd) ?_⟩
  rintro _ G ⟨rfl, e⟩
  rw [e]
  clear e G
  by_cases hs3 : D.firm.length < 3
  · simp (disch := first | omega | (simp only [List.length_set, List.length_append, List.length_cons, List.length_nil, iv_length, zl_length]; try omega; done)) [-getElem?_pos, -getElem?_neg, hs3]
    refine hK _ _ ?_; clear hK K
    refine aw_t (by (first | (simp [eval_tmp, put_at]; done) | (simp [eval_tmp, put_at]; omega))) (by kernel_rfl) ?_
    rw [if_pos hs3] at ho
    refine aw_seq ?_
    (refine aw_ops (by kernel_rfl) (fun K hK => ?_); simp (disch := first | omega | (simp only [List.length_set, List.length_append, List.length_cons, List.length_nil, iv_length, zl_length]; try omega; done)) [-getElem?_pos, -getElem?_neg]; refine hK _ _ ?_; clear hK K)
    (refine aw_ret ?_; simp (disch := first | omega | (simp only [List.length_set, List.length_append, List.length_cons, List.length_nil, iv_length, zl_length]; try omega; done)) [-getElem?_pos, -getElem?_neg, thenQ_ret, scopeQ_ret, inBlockQ_ret, RQ, resL, resV])
    subst ho
    exact ⟨Low.refl (Nat.le_refl _), rfl⟩
  rw [if_neg hs3] at ho
  simp (disch := first | omega | (simp only [List.length_set, List.length_append, List.length_cons, List.length_nil, iv_length, zl_length]; try omega; done)) [-getElem?_pos, -getElem?_neg, hs3]
  refine hK _ _ ?_; clear hK K
  refine aw_f (by (first | (simp [eval_tmp, put_at]; done) | (simp [eval_tmp, put_at]; omega))) (by kernel_rfl) ?_
  refine aw_skip ?_
  refine aw_seq ?_
  (refine aw_ops (by kernel_rfl) (fun K hK => ?_); simp (disch := first | omega | (simp only [List.length_set, List.length_append, List.length_cons, List.length_nil, iv_length, zl_length]; try omega; done)) [-getElem?_pos, -getElem?_neg]; refine hK _ _ ?_; clear hK K)
  have hdl : ∀ j ∈ FD, j < H.length := hd.lt
  have hrd := read_ac (nro := nro) (γ := gm) (hd.low (H' := H ++ [some ⟨[.pointer (some ⟨d, 0, none⟩), .slice none 0 0, .int .i64 0, .int .i64 0], 72, none⟩]) (fun j hj => hget_left (hdl j hj))) 0
  have hat : hasB D.firm.length 0 = true := by simp [hasB]; omega
  have hrv : readV D.late 0 = D.late.getD 0 ⟨#[]⟩ := by
    unfold readV
    rw [if_pos (by rw [hll]; exact hat)]
    simp
  have hrs : (D.late.getD 0 ⟨#[]⟩).size = 256 := by
    rw [List.getD_eq_getElem?_getD, List.getElem?_eq_getElem (by omega)]
    exact hlate _ (List.getElem_mem _)
  have hF : firstL D = (nums (D.late.getD 0 ⟨#[]⟩)).take 64 := rfl
  rw [hrv, if_pos hat] at hrd
  generalize D.late.getD 0 ⟨#[]⟩ = r at *
  have hx : r.extract 0 64 = strOfNums (firstL D) := by rw [hF, ← ex_take, of_nums']
  have hFl : (firstL D).length = 64 := by rw [hF, List.length_take, nums_len, hrs]; rfl
  have hFb : By (firstL D) := by
    rw [hF]
    exact By.take (fun x hx => nums_bd r x hx) 64
  clear hF
  generalize firstL D = F at *
  refine aw_seq ?_
  refine aw_ops (by kernel_rfl) (fun K hK => ?_)
  simp (disch := first | omega | (simp only [List.length_set, List.length_append, List.length_cons, List.length_nil, iv_length, zl_length]; try omega; done)) [-getElem?_pos, -getElem?_neg]
  refine ⟨by kernel_rfl, AC.mono hrd ?_⟩
  rintro _ G ⟨rfl, e⟩
  rw [e]
  clear e G
  try simp (disch := first | omega | (simp only [List.length_set, List.length_append, List.length_cons, List.length_nil, iv_length, zl_length]; try omega; done)) [-getElem?_pos, -getElem?_neg]
  refine hK _ _ ?_; clear hK K
  refine aw_seq ?_
  (refine aw_ops (by kernel_rfl) (fun K hK => ?_); simp (disch := first | omega | (simp only [List.length_set, List.length_append, List.length_cons, List.length_nil, iv_length, zl_length]; try omega; done)) [-getElem?_pos, -getElem?_neg, hrs, hx]; refine hK _ _ ?_; clear hK K)
  refine aw_seq ?_
  refine aw_seq ?_
  refine aw_ops (by kernel_rfl) (fun K hK => ?_)
  simp (disch := first | omega | (simp only [List.length_set, List.length_append, List.length_cons, List.length_nil, iv_length, zl_length]; try omega; done)) [-getElem?_pos, -getElem?_neg]
  refine ⟨by kernel_rfl, ac_of_vc (by simp [pv_iv, pv_int, pv_bool, pv_string, pv_tup2, pv_tup3, iv_plain, p2_int, p2_bool, p2_string]) (zeros_vc 64 (by omega)) ?_⟩
  have he := sn_eq hFb (zl_by 64)
  have hJ0 : JrR (H ++ [some ⟨[.pointer (some ⟨d, 0, none⟩), .slice none 0 0, .int .i64 0, .int .i64 0], 72, none⟩]) H.length d (.slice none 0 0) FD [] ⟨D, [], 0, 0⟩ :=
    ⟨by rw [hget_app0]; rfl, hd.low (fun j hj => hget_left (hdl j hj)), OwnF.g (e := 9) (.inl ⟨rfl, rfl, rfl⟩), fun hm => by have := hdl _ hm; omega, by simp, by simp⟩
  by_cases hz : F = zl 64
  · rw [if_pos hz] at ho
    have hb : ((strOfNums F).toList == (strOfNums (zl 64)).toList) = true := by rw [hz]; simp
    simp (disch := first | omega | (simp only [List.length_set, List.length_append, List.length_cons, List.length_nil, iv_length, zl_length]; try omega; done)) [-getElem?_pos, -getElem?_neg, he, hz]
    refine hK _ _ ?_; clear hK K
    refine aw_t (by (first | (simp [eval_tmp, put_at]; done) | (simp [eval_tmp, put_at]; omega))) (by kernel_rfl) ?_
    refine aw_seq ?_
    (refine aw_ops (by kernel_rfl) (fun K hK => ?_); simp (disch := first | omega | (simp only [List.length_set, List.length_append, List.length_cons, List.length_nil, iv_length, zl_length]; try omega; done)) [-getElem?_pos, -getElem?_neg]; refine hK _ _ ?_; clear hK K)
    (refine aw_ret ?_; simp (disch := first | omega | (simp only [List.length_set, List.length_append, List.length_cons, List.length_nil, iv_length, zl_length]; try omega; done)) [-getElem?_pos, -getElem?_neg, thenQ_ret, scopeQ_ret, inBlockQ_ret, RQ, resL, resV])
    subst ho
    exact ⟨Low.push (Nat.le_refl _) _, H.length, .slice none 0 0, [], rfl, hJ0, ⟨by simp, by simp⟩, Nat.le_refl _, by simp⟩
  rw [if_neg hz] at ho
  have hb : ((strOfNums F).toList == (strOfNums (zl 64)).toList) = false := by
    rw [beq_eq_false_iff_ne]
    exact fun h => hz (he.1 h)
  simp (disch := first | omega | (simp only [List.length_set, List.length_append, List.length_cons, List.length_nil, iv_length, zl_length]; try omega; done)) [-getElem?_pos, -getElem?_neg, he, hz, hb]
  refine hK _ _ ?_; clear hK K
  refine aw_f (by (first | (simp [eval_tmp, put_at]; done) | (simp [eval_tmp, put_at]; omega))) (by kernel_rfl) ?_
  refine aw_skip ?_
  refine aw_seq ?_
  have hmk := readMark_rc (hG.app [some ⟨[.pointer (some ⟨d, 0, none⟩), .slice none 0 0, .int .i64 0, .int .i64 0], 72, none⟩]) F hFl hFb
  have hm2 : isMark F = true → mArea F < 2 := fun h => by
    unfold isMark at h
    simp only [Bool.and_eq_true, decide_eq_true_eq] at h
    exact h.1
  generalize isMark F = M at *
  generalize mArea F = A at *
  generalize mSize F = S at *
  refine aw_ops (by kernel_rfl) (fun K hK => ?_)
  simp (disch := first | omega | (simp only [List.length_set, List.length_append, List.length_cons, List.length_nil, iv_length, zl_length]; try omega; done)) [-getElem?_pos, -getElem?_neg]
  refine ⟨by kernel_rfl, ac_of_rc hmk (by simp [pv_iv, pv_int, pv_bool, pv_string, pv_tup2, pv_tup3, iv_plain, p2_int, p2_bool, p2_string]) ?_⟩
  simp (disch := first | omega | (simp only [List.length_set, List.length_append, List.length_cons, List.length_nil, iv_length, zl_length]; try omega; done)) [-getElem?_pos, -getElem?_neg]
  refine hK _ _ ?_; clear hK K
  refine aw_seq ?_
  refine aw_seq ?_
  cases M with
  | false =>
    rw [if_pos (.inl rfl)] at ho
    (refine aw_ops (by kernel_rfl) (fun K hK => ?_); simp (disch := first | omega | (simp only [List.length_set, List.length_append, List.length_cons, List.length_nil, iv_length, zl_length]; try omega; done)) [-getElem?_pos, -getElem?_neg]; refine hK _ _ ?_; clear hK K)
    refine aw_t (by (first | (simp [eval_tmp, put_at]; done) | (simp [eval_tmp, put_at]; omega))) (by kernel_rfl) ?_
    refine aw_seq ?_
    (refine aw_ops (by kernel_rfl) (fun K hK => ?_); simp (disch := first | omega | (simp only [List.length_set, List.length_append, List.length_cons, List.length_nil, iv_length, zl_length]; try omega; done)) [-getElem?_pos, -getElem?_neg]; refine hK _ _ ?_; clear hK K)
    (refine aw_ret ?_; simp (disch := first | omega | (simp only [List.length_set, List.length_append, List.length_cons, List.length_nil, iv_length, zl_length]; try omega; done)) [-getElem?_pos, -getElem?_neg, thenQ_ret, scopeQ_ret, inBlockQ_ret, RQ, resL, resV])
    subst ho
    exact ⟨Low.push (Nat.le_refl _) _, rfl⟩
  | true =>
    have hA := hm2 rfl
    have has := areaSize_ac (nro := nro) (γ := gm) hJ0
    have hJh : (JM.half ⟨D, [], 0, 0⟩) = (D.firm.length - 1) / 2 := rfl
    rw [hJh] at has
    have hhb : (D.firm.length - 1) / 2 ≤ 512 := by omega
    generalize hHf : (D.firm.length - 1) / 2 = Hf at *
    refine aw_ops (by kernel_rfl) (fun K hK => ?_)
    simp (disch := first | omega | (simp only [List.length_set, List.length_append, List.length_cons, List.length_nil, iv_length, zl_length]; try omega; done)) [-getElem?_pos, -getElem?_neg]
    refine ⟨by kernel_rfl, AC.mono has ?_⟩
    rintro _ G ⟨rfl, e⟩
    rw [e]
    clear e G
    by_cases hS : Hf * 256 < S
    · rw [if_pos (.inr hS)] at ho
      have hS2 : ((Hf * 256 : Nat) : Int) < (S : Nat) := by omega
      simp only [Int.natCast_mul] at hS2
      simp (disch := first | omega | (simp only [List.length_set, List.length_append, List.length_cons, List.length_nil, iv_length, zl_length]; try omega; done)) [-getElem?_pos, -getElem?_neg, hS, hS2]
      refine hK _ _ ?_; clear hK K
      refine aw_t (by (first | (simp [eval_tmp, put_at]; done) | (simp [eval_tmp, put_at]; omega))) (by kernel_rfl) ?_
      refine aw_seq ?_
      (refine aw_ops (by kernel_rfl) (fun K hK => ?_); simp (disch := first | omega | (simp only [List.length_set, List.length_append, List.length_cons, List.length_nil, iv_length, zl_length]; try omega; done)) [-getElem?_pos, -getElem?_neg]; refine hK _ _ ?_; clear hK K)
      (refine aw_ret ?_; simp (disch := first | omega | (simp only [List.length_set, List.length_append, List.length_cons, List.length_nil, iv_length, zl_length]; try omega; done)) [-getElem?_pos, -getElem?_neg, thenQ_ret, scopeQ_ret, inBlockQ_ret, RQ, resL, resV])
      subst ho
      exact ⟨Low.push (Nat.le_refl _) _, rfl⟩
    rw [if_neg (by simp; omega)] at ho
    have hS2 : ¬ ((Hf * 256 : Nat) : Int) < (S : Nat) := by omega
    simp only [Int.natCast_mul] at hS2
    simp (disch := first | omega | (simp only [List.length_set, List.length_append, List.length_cons, List.length_nil, iv_length, zl_length]; try omega; done)) [-getElem?_pos, -getElem?_neg, hS, hS2]
    refine hK _ _ ?_; clear hK K
    refine aw_f (by (first | (simp [eval_tmp, put_at]; done) | (simp [eval_tmp, put_at]; omega))) (by kernel_rfl) ?_
    refine aw_skip ?_
    refine aw_seq ?_
    (refine aw_ops (by kernel_rfl) (fun K hK => ?_); simp (disch := first | omega | (simp only [List.length_set, List.length_append, List.length_cons, List.length_nil, iv_length, zl_length]; try omega; done)) [-getElem?_pos, -getElem?_neg]; refine hK _ _ ?_; clear hK K)
    have hok : (JM.mk D [] A S).Ok := ⟨by show A ≤ 1; omega, by show S ≤ JM.half ⟨D, [], A, S⟩ * 256; unfold JM.half; show S ≤ (D.firm.length - 1) / 2 * 256; omega⟩
    have hJ1 : JrR (H ++ [some ⟨[.pointer (some ⟨d, 0, none⟩), .slice none 0 0, .int .i64 (A : Nat), .int .i64 (S : Nat)], 72, none⟩]) H.length d (.slice none 0 0) FD [] ⟨D, [], A, S⟩ :=
      ⟨by rw [hget_app0]; rfl, hd.low (fun j hj => hget_left (hdl j hj)), OwnF.g (e := 9) (.inl ⟨rfl, rfl, rfl⟩), fun hm => by have := hdl _ hm; omega, by simp, by simp⟩
    have hby := bytes_rc (γ := gm) hJ1 hok
    have hbl : (JM.bytes ⟨D, [], A, S⟩).length ≤ S := by
      unfold JM.bytes
      rw [List.length_take]
      exact Nat.min_le_left _ _
    have hbb := JM.bytes_by ⟨D, [], A, S⟩
    generalize JM.bytes ⟨D, [], A, S⟩ = B at *
    obtain ⟨H1, hH1⟩ : ∃ H1, H1 = H ++ [some ⟨[.pointer (some ⟨d, 0, none⟩), .slice none 0 0, .int .i64 (A : Nat), .int .i64 (S : Nat)], 72, none⟩] := ⟨_, rfl⟩
    have hH1l : H1.length = H.length + 1 := by rw [hH1]; simp
    have hlow1 : Low H.length H H1 := by rw [hH1]; exact Low.push (Nat.le_refl _) _
    rw [← hH1] at hJ1 hby
    refine aw_seq ?_
    refine aw_seq ?_
    refine aw_ops (by kernel_rfl) (fun K hK => ?_)
    simp (disch := first | omega | (simp only [List.length_set, List.length_append, List.length_cons, List.length_nil, iv_length, zl_length]; try omega; done)) [-getElem?_pos, -getElem?_neg]
    rw [← hH1]
    refine ⟨by kernel_rfl, ac_of_rc hby (by simp [pv_iv, pv_int, pv_bool, pv_string, pv_tup2, pv_tup3, iv_plain, p2_int, p2_bool, p2_string]) ?_⟩
    try simp (disch := first | omega | (simp only [List.length_set, List.length_append, List.length_cons, List.length_nil, iv_length, zl_length]; try omega; done)) [-getElem?_pos, -getElem?_neg]
    refine ⟨by kernel_rfl, AC.mono (readRecs_ac (nro := nro) (by omega) B hbb (by omega)) ?_⟩
    rintro v1 G ⟨hlow2, hres⟩
    have hgJ := (hlow2.1 H.length (by omega)).trans hJ1.hq
    have hgl := hlow2.2
    have hlow3 : Low H.length H G := ⟨fun j hj => (hlow2.1 j (by omega)).trans (hlow1.1 j hj), by omega⟩
    rcases hres with ⟨hnone, rfl⟩ | ⟨rs, rv, FR, hsome, rfl, hown, hfr⟩
    · rw [hnone] at ho
      simp (disch := first | omega | (simp only [List.length_set, List.length_append, List.length_cons, List.length_nil, iv_length, zl_length]; try omega; done)) [-getElem?_pos, -getElem?_neg, hgJ]
      refine hK _ _ ?_; clear hK K
      refine aw_seq ?_
      (refine aw_ops (by kernel_rfl) (fun K hK => ?_); simp (disch := first | omega | (simp only [List.length_set, List.length_append, List.length_cons, List.length_nil, iv_length, zl_length]; try omega; done)) [-getElem?_pos, -getElem?_neg]; refine hK _ _ ?_; clear hK K)
      refine aw_t (by (first | (simp [eval_tmp, put_at]; done) | (simp [eval_tmp, put_at]; omega))) (by kernel_rfl) ?_
      refine aw_seq ?_
      (refine aw_ops (by kernel_rfl) (fun K hK => ?_); simp (disch := first | omega | (simp only [List.length_set, List.length_append, List.length_cons, List.length_nil, iv_length, zl_length]; try omega; done)) [-getElem?_pos, -getElem?_neg]; refine hK _ _ ?_; clear hK K)
      (refine aw_ret ?_; simp (disch := first | omega | (simp only [List.length_set, List.length_append, List.length_cons, List.length_nil, iv_length, zl_length]; try omega; done)) [-getElem?_pos, -getElem?_neg, thenQ_ret, scopeQ_ret, inBlockQ_ret, RQ, resL, resV])
      subst ho
      exact ⟨⟨fun j hj => by rw [hget_set_ne (by omega)]; exact hlow3.1 j hj, by simp; omega⟩, rfl⟩
    · rw [hsome] at ho
      have hsh := ownF_shape hown
      simp (disch := first | omega | (simp only [List.length_set, List.length_append, List.length_cons, List.length_nil, iv_length, zl_length]; try omega; done)) [-getElem?_pos, -getElem?_neg, hgJ, -notTuple, nt_strJ, hsh.1, hsh.2]
      refine hK _ _ ?_; clear hK K
      refine aw_seq ?_
      (refine aw_ops (by kernel_rfl) (fun K hK => ?_); simp (disch := first | omega | (simp only [List.length_set, List.length_append, List.length_cons, List.length_nil, iv_length, zl_length]; try omega; done)) [-getElem?_pos, -getElem?_neg]; refine hK _ _ ?_; clear hK K)
      refine aw_f (by (first | (simp [eval_tmp, put_at]; done) | (simp [eval_tmp, put_at]; omega))) (by kernel_rfl) ?_
      refine aw_skip ?_
      refine aw_seq ?_
      (refine aw_ops (by kernel_rfl) (fun K hK => ?_); simp (disch := first | omega | (simp only [List.length_set, List.length_append, List.length_cons, List.length_nil, iv_length, zl_length]; try omega; done)) [-getElem?_pos, -getElem?_neg]; refine hK _ _ ?_; clear hK K)
      (refine aw_ret ?_; simp (disch := first | omega | (simp only [List.length_set, List.length_append, List.length_cons, List.length_nil, iv_length, zl_length]; try omega; done)) [-getElem?_pos, -getElem?_neg, thenQ_ret, scopeQ_ret, inBlockQ_ret, RQ, resL, resV])
      subst ho
      refine ⟨⟨fun j hj => by rw [hget_set_ne (by omega)]; exact hlow3.1 j hj, by simp; omega⟩, H.length, rv, FR, rfl, ⟨hget_set_eq (by omega), ?_, ?_, fun hm => by have := hdl _ hm; omega, fun hm => by have := hfr _ hm; omega, fun j hj hm => by have := hdl _ hj; have := hfr _ hm; omega⟩, ⟨hok.area, hok.size⟩, Nat.le_refl _, fun j hj => by have := hfr j hj; omega⟩
      · exact hd.low (fun j hj => by rw [hget_set_ne (by have := hdl j hj; omega)]; exact hlow3.1 j (hdl j hj))
      · exact (hown.low (fun j hj => hget_set_ne (by have := hfr j hj; omega))).g
end

section
open Go Go.RowKit
set_option linter.unusedSimpArgs false
set_option linter.unusedVariables false
set_option maxRecDepth 100000
set_option maxHeartbeats 4000000

def pgV (p : Nat × List Int) : List Value := [.int .i64 (p.1 : Nat), .string (strOfNums p.2)]
def pgC (ps : List (Nat × List Int)) : List Value := ps.flatMap pgV
theorem pgC_len (ps : List (Nat × List Int)) : (pgC ps).length = ps.length * 2 := by
  induction ps with
  | nil => rfl
  | cons p ps ih =>
    simp only [pgC, List.flatMap_cons, List.length_append, List.length_cons] at ih ⊢
    rw [ih]
    simp [pgV]
    omega
/-- So many pages of bytes, from block s on. -/
def pgL (s : Nat) (l : List Int) : Nat → List (Nat × List Int)
  | 0 => []
  | k + 1 => pgL s l k ++ [(s + k, fillB ((l.drop (256 * k)).take 256))]
theorem pgL_len (s : Nat) (l : List Int) : ∀ k, (pgL s l k).length = k
  | 0 => rfl
  | k + 1 => by simp [pgL, pgL_len s l k]
def JM.pageAt (J : JM) (a b : Nat) : Nat := J.start a + b / 256
def JM.pageB (J : JM) (a b : Nat) (xs : List Int) : List Int := if b % 256 = 0 then xs else (nums (J.D.late.getD (J.pageAt a b) ⟨#[]⟩)).take (b % 256) ++ xs
def JM.pages (J : JM) (a b : Nat) (xs : List Int) : List (Nat × List Int) := pgL (J.pageAt a b) (J.pageB a b xs) (((J.pageB a b xs).length + 255) / 256)
attribute [local irreducible] pgL
theorem nt_intJ (k : IntKind) (x : Int) : notTuple (.int k x) = true := rfl
theorem nt_aggJ (a : Array Value) : notTuple (.agg a) = true := rfl
attribute [local simp] wb_bool wb_undef XL_nil XL_cons XLc_val XLc_call step1_eq stepW_t stepW_f stepC_n stepC_s stepX_s stepX_n stepN_s calleeX oneV xop_eq xopR_s xopR_n wantedA_eq wantedG_n wantedG_s plain1_int plain1_bool plain1_string bits_i64 bits_u64 bits_u32 bits_u16 bits_u8 xeqA xagg xcmp xarr allK_iv num_iv calleeOf xread xeff xbin xint xnil xun xstr xload xconv xpart xfield xfieldAddr xindexAddr xindex bnd asInt? xslice xlen xmin xmax xbuild xfill xappend xapp2 xappstr xappmk xcap xcopy xcells eval_tmp eval_const put_at put_none fr0_at cells_agg cells_int cells_bool cells_string cells_ptr cells_slice notTuple tab iv_all hget_app hget_app0 hget_cons0 hget_cons set_app set_app0 setR setR_one QL_nil QL_cons QLc_val stepQ_t stepQ_f stepQC_n stepQC_s stepQX_s SL_nil SL_cons SLc_val stepS_t stepS_f ltT ltF leT leF eqT eqF ltTn ltFn leTn leFn eqTn eqFn beqT beqF bneT bneF wi64 wu64 wu32 wu16 wu8 tmodP tdivP hgetL hgetNe hgetEq setL nums_def nums_len Nat.succ_le_of_lt List.getElem?_cons_zero List.getElem?_cons_succ Option.getD_some Int.toNat_add Int.toNat_mul agB agI agS agP agL agA okB okI okS okP okSl okA
theorem pages_ac {nro : Nat} {γ : Nat → Option Nat} {H : AH} (hnl : nro ≤ H.length) {q d : Nat} {rv : Value} {FD FR : List Nat} {J : JM} (h : JrR H q d rv FD FR J) (a b : Nat) (ha : a ≤ 1) (xs : List Int) (hxb : By xs) (hxl : b + xs.length ≤ J.half * 256) :
    AC Tryd.prog nro γ 70 #[.pointer (some ⟨q, 0, none⟩), .int .i64 (a : Nat), .int .i64 (b : Nat), .string (strOfNums xs)] H
      (fun v' H' => Low H.length H H' ∧ ∃ F, OwnF H' v' 115 2 (pgC (J.pages a b xs)) F ∧ ∀ j ∈ F, H.length ≤ j) := by
  have h1 := h.hd.1.one
  have h2 := h.hd.1.most
  have hhf : 2 * J.half + 1 ≤ J.D.firm.length := by unfold JM.half; omega
  have hlate : ∀ r ∈ J.D.late, r.size = 256 := late_rows h.hd.1.rows (fun w hw => (h.hd.1.uns w hw).2)
  have hll : J.D.late.length = J.D.firm.length := late_len _ _
  have hst : J.start a + J.half ≤ J.D.firm.length := by
    unfold JM.start
    rcases Nat.le_one_iff_eq_zero_or_eq_one.1 ha with e | e <;> rw [e] <;> omega
  have hq := h.hq
  have hpa : J.pageAt a b = J.start a + b / 256 := rfl
  have hpb : J.pageB a b xs = if b % 256 = 0 then xs else (nums (J.D.late.getD (J.pageAt a b) ⟨#[]⟩)).take (b % 256) ++ xs := rfl
  have hpg : J.pages a b xs = pgL (J.pageAt a b) (J.pageB a b xs) (((J.pageB a b xs).length + 255) / 256) := rfl
  have hq2 : ((b : Nat) : Int).tdiv 256 = ((b / 256 : Nat) : Int) := by rw [Int.tdiv_eq_ediv_of_nonneg (by omega)]; omega
  have hm2 : ((b : Nat) : Int).tmod 256 = ((b % 256 : Nat) : Int) := by rw [Int.tmod_eq_emod_of_nonneg (by omega)]; omega
  refine ac_of_aw Tryd.func70 rfl Tryd.ntmps70 Tryd.results70 (by simp) ?_
  refine aw_seq ?_
  (refine aw_ops (by kernel_rfl) (fun K hK => ?_); simp (disch := first | omega | (simp only [List.length_set, List.length_append, List.length_cons, List.length_nil, iv_length, zl_length]; try omega; done)) [-getElem?_pos, -getElem?_neg]; refine hK _ _ ?_; clear hK K)
  refine aw_seq ?_
  refine aw_ops (by kernel_rfl) (fun K hK => ?_)
  simp (disch := first | omega | (simp only [List.length_set, List.length_append, List.length_cons, List.length_nil, iv_length, zl_length]; try omega; done)) [-getElem?_pos, -getElem?_neg]
  refine ⟨by kernel_rfl, AC.mono (start_ac (nro := nro) h a ha) ?_⟩
  rintro _ G ⟨rfl, e⟩
  rw [e]
  clear e G
  simp (disch := first | omega | (simp only [List.length_set, List.length_append, List.length_cons, List.length_nil, iv_length, zl_length]; try omega; done)) [-getElem?_pos, -getElem?_neg]
  refine hK _ _ ?_; clear hK K
  refine aw_seq ?_
  have hYb : By (J.pageB a b xs) := by
    rw [hpb]
    split
    · exact hxb
    · exact (By.take (fun x hx => nums_bd _ x hx) _).app hxb
  have hYl : (J.pageB a b xs).length ≤ 200000 := by
    have : J.half ≤ 512 := by unfold JM.half; omega
    rw [hpb]
    split
    · omega
    · rw [List.length_append, List.length_take]; omega
  rw [hpg]
  generalize hY : J.pageB a b xs = Y at *
  generalize hPa : J.pageAt a b = A at *
  refine aw_cut (fun α G => G = H ∧ α 0 = .pointer (some ⟨q, 0, none⟩) ∧ α 9 = .int .i64 (A : Nat) ∧ α 3 = .string (strOfNums Y)) ?_ ?_
  · refine aw_seq ?_
    by_cases hin : b % 256 = 0
    · rw [if_pos hin] at hpb
      have hin2 : ¬ 0 < b % 256 := by omega
      (refine aw_ops (by kernel_rfl) (fun K hK => ?_); simp (disch := first | omega | (simp only [List.length_set, List.length_append, List.length_cons, List.length_nil, iv_length, zl_length]; try omega; done)) [-getElem?_pos, -getElem?_neg, hm2, hq2, hin2]; refine hK _ _ ?_; clear hK K)
      refine aw_f (by (first | (simp [eval_tmp, put_at]; done) | (simp [eval_tmp, put_at]; omega))) (by kernel_rfl) ?_
      refine aw_skip ?_
      exact ⟨rfl, by (first | (simp [put_at, put_none, fr0_at]; done) | rfl), by (first | (simp [put_at, put_none, fr0_at, hpa]; done) | rfl), by (first | (simp [put_at, put_none, fr0_at, hpb]; done) | rfl)⟩
    · rw [if_neg hin] at hpb
      have hin2 : 0 < b % 256 := by omega
      have hAr : A < J.D.firm.length := by omega
      have hA : ((A : Nat) : Int) = (J.start a : Nat) + (b : Int) / 256 := by omega
      have hat : hasB J.D.firm.length ((A : Nat) : Int) = true := by simp [hasB]; omega
      have hrv : readV J.D.late ((A : Nat) : Int) = J.D.late.getD A ⟨#[]⟩ := by
        unfold readV
        rw [if_pos (by rw [hll]; exact hat)]
        simp
      have hrs : (J.D.late.getD A ⟨#[]⟩).size = 256 := by
        rw [List.getD_eq_getElem?_getD, List.getElem?_eq_getElem (by omega)]
        exact hlate _ (List.getElem_mem _)
      have hrd := read_ac (nro := nro) (γ := γ) h.hd ((A : Nat) : Int)
      rw [hrv, if_pos hat, hA] at hrd
      generalize J.D.late.getD A ⟨#[]⟩ = r at *
      have hm3 : ((b : Int) % 256).toNat = b % 256 := by omega
      have hx : r.extract 0 (b % 256) = strOfNums ((nums r).take (b % 256)) := by rw [← ex_take, of_nums']
      have hx1 : (strOfNums ((nums r).take (b % 256))).size = b % 256 := by rw [sn_size, List.length_take, nums_len, hrs]; omega
      have hx2 : (strOfNums xs).size = xs.length := sn_size xs
      have hhb : J.half ≤ 512 := by unfold JM.half; omega
      (refine aw_ops (by kernel_rfl) (fun K hK => ?_); simp (disch := first | omega | (simp only [List.length_set, List.length_append, List.length_cons, List.length_nil, iv_length, zl_length]; try omega; done)) [-getElem?_pos, -getElem?_neg, hm2, hq2, hin2]; refine hK _ _ ?_; clear hK K)
      refine aw_t (by (first | (simp [eval_tmp, put_at]; done) | (simp [eval_tmp, put_at]; omega))) (by kernel_rfl) ?_
      refine aw_seq ?_
      refine aw_ops (by kernel_rfl) (fun K hK => ?_)
      simp (disch := first | omega | (simp only [List.length_set, List.length_append, List.length_cons, List.length_nil, iv_length, zl_length]; try omega; done)) [-getElem?_pos, -getElem?_neg, hq]
      refine ⟨by kernel_rfl, AC.mono hrd ?_⟩
      rintro _ G ⟨rfl, e⟩
      rw [e]
      clear e G
      try simp (disch := first | omega | (simp only [List.length_set, List.length_append, List.length_cons, List.length_nil, iv_length, zl_length]; try omega; done)) [-getElem?_pos, -getElem?_neg]
      refine hK _ _ ?_; clear hK K
      (refine aw_ops (by kernel_rfl) (fun K hK => ?_); simp (disch := first | omega | (simp only [List.length_set, List.length_append, List.length_cons, List.length_nil, iv_length, zl_length]; try omega; done)) [-getElem?_pos, -getElem?_neg, hrs, hm3, hx, hx1, hx2, sn_app, hpb]; refine hK _ _ ?_; clear hK K)
      exact ⟨rfl, by (first | (simp [put_at, put_none, fr0_at]; done) | rfl), by (first | (simp [put_at, put_none, fr0_at, hpa]; done) | rfl), by (first | (simp [put_at, put_none, fr0_at, hpb]; done) | rfl)⟩
  rintro α G ⟨rfl, h0, h9, h3⟩
  refine aw_seq ?_
  (refine aw_ops (by kernel_rfl) (fun K hK => ?_); simp (disch := first | omega | (simp only [List.length_set, List.length_append, List.length_cons, List.length_nil, iv_length, zl_length]; try omega; done)) [-getElem?_pos, -getElem?_neg]; refine hK _ _ ?_; clear hK K)
  refine aw_seq ?_
  refine aw_block ?_
  refine aw_loop (fun c α G' => ∃ (k : Nat) (v : Value) (F : List Nat), k + c = (Y.length + 255) / 256 ∧ α 3 = .string (strOfNums (Y.drop (256 * k))) ∧ α 9 = .int .i64 ((A + k : Nat) : Int) ∧ α 13 = v ∧ OwnF G' v 115 2 (pgC (pgL A Y k)) F ∧ (∀ j ∈ F, G.length ≤ j) ∧ Low G.length G G') ((Y.length + 255) / 256) ?_ ?_
  · have : pgL A Y 0 = [] := by unfold pgL; rfl
    refine ⟨0, .slice none 0 0, [], by omega, by (first | (simp [put_at, put_none, fr0_at, h3]; done) | rfl), by (first | (simp [put_at, put_none, fr0_at, h9]; done) | rfl), by (first | (simp [put_at, put_none, fr0_at]; done) | rfl), ?_, by simp, Low.refl (Nat.le_refl _)⟩
    rw [this]
    exact .inl ⟨rfl, rfl, rfl⟩
  rintro c α G' ⟨k, v, F, hk, h3, h9, h13, hown, hF, hlow⟩
  refine aw_seq ?_
  refine aw_seq ?_
  have hdl : (Y.drop (256 * k)).length = Y.length - 256 * k := List.length_drop
  have hnx : pgL A Y (k + 1) = pgL A Y k ++ [(A + k, fillB ((Y.drop (256 * k)).take 256))] := by with_unfolding_all rfl
  have hnd : Y.drop (256 * (k + 1)) = (Y.drop (256 * k)).drop 256 := by rw [List.drop_drop]; congr 1
  generalize hW : Y.drop (256 * k) = W at *
  have hWs : (strOfNums W).size = W.length := sn_size W
  by_cases hw0 : W = []
  · subst hw0
    have hie : (strOfNums []).toList.isEmpty = true := by rw [sn_tl]; rfl
    (refine aw_ops (by kernel_rfl) (fun K hK => ?_); simp (disch := first | omega | (simp only [List.length_set, List.length_append, List.length_cons, List.length_nil, iv_length, zl_length]; try omega; done)) [-getElem?_pos, -getElem?_neg, h3, hie]; refine hK _ _ ?_; clear hK K)
    refine aw_f (by (first | (simp [eval_tmp, put_at]; done) | (simp [eval_tmp, put_at]; omega))) (by kernel_rfl) ?_
    refine aw_exit ?_
    refine aw_seq ?_
    have hsh := (show notTuple v = true by rcases hown with ⟨rfl, _, _⟩ | ⟨j, len, rfl, _, _, _⟩ <;> rfl)
    (refine aw_ops (by kernel_rfl) (fun K hK => ?_); simp (disch := first | omega | (simp only [List.length_set, List.length_append, List.length_cons, List.length_nil, iv_length, zl_length]; try omega; done)) [-getElem?_pos, -getElem?_neg, h13, -notTuple, hsh]; refine hK _ _ ?_; clear hK K)
    have hkN : k = (Y.length + 255) / 256 := by simp at hdl; omega
    rw [← hkN]
    (refine aw_ret ?_; simp (disch := first | omega | (simp only [List.length_set, List.length_append, List.length_cons, List.length_nil, iv_length, zl_length]; try omega; done)) [-getElem?_pos, -getElem?_neg, thenQ_ret, scopeQ_ret, inBlockQ_ret, RQ, resL, resV, -notTuple, hsh])
    exact ⟨hlow, F, hown, hF⟩
  · have hwl : 0 < W.length := List.length_pos_iff.2 hw0
    have hie : (strOfNums W).toList.isEmpty = false := by
      rw [sn_tl]
      cases W with
      | nil => exact absurd rfl hw0
      | cons x l => rfl
    (refine aw_ops (by kernel_rfl) (fun K hK => ?_); simp (disch := first | omega | (simp only [List.length_set, List.length_append, List.length_cons, List.length_nil, iv_length, zl_length]; try omega; done)) [-getElem?_pos, -getElem?_neg, h3, hie]; refine hK _ _ ?_; clear hK K)
    refine aw_t (by (first | (simp [eval_tmp, put_at]; done) | (simp [eval_tmp, put_at]; omega))) (by kernel_rfl) ?_
    refine aw_skip ?_
    refine aw_seq ?_
    refine aw_block ?_
    refine aw_seq ?_
    obtain ⟨n, hn⟩ : ∃ n : Nat, n = min W.length 256 := ⟨_, rfl⟩
    have hnI : (if (256 : Int) < (W.length : Nat) then (256 : Int) else (W.length : Nat)) = (n : Nat) := by split <;> omega
    have htk : W.take n = W.take 256 := by
      rw [hn, Nat.min_comm, ← List.take_take]
      simp
    have hdr : W.drop n = W.drop 256 := by
      by_cases h : W.length ≤ 256
      · rw [List.drop_of_length_le (by omega), List.drop_of_length_le h]
      · rw [hn, Nat.min_eq_right (by omega)]
    have hx1 : (strOfNums W).extract 0 n = strOfNums (W.take 256) := by rw [ex_take, htk]
    have hx2 : (strOfNums W).extract n W.length = strOfNums (W.drop 256) := by rw [ex_drop, hdr]
    have hfv := filled_vc (W.take 256) (by rw [List.length_take]; omega)
    (refine aw_ops (by kernel_rfl) (fun K hK => ?_); simp (disch := first | omega | (simp only [List.length_set, List.length_append, List.length_cons, List.length_nil, iv_length, zl_length]; try omega; done)) [-getElem?_pos, -getElem?_neg, h3, hWs, hnI]; refine hK _ _ ?_; clear hK K)
    refine aw_seq ?_
    refine aw_ops (by kernel_rfl) (fun K hK => ?_)
    have hsh := (show notTuple v = true by rcases hown with ⟨rfl, _, _⟩ | ⟨j, len, rfl, _, _, _⟩ <;> rfl)
    simp (disch := first | omega | (simp only [List.length_set, List.length_append, List.length_cons, List.length_nil, iv_length, zl_length]; try omega; done)) [-getElem?_pos, -getElem?_neg, h3, h9, h13, -notTuple, nt_strJ, nt_slJ, hsh, hWs, hx1]
    refine ⟨by kernel_rfl, ac_of_vc (by simp [pv_iv, pv_int, pv_bool, pv_string, pv_tup2, pv_tup3, iv_plain, p2_int, p2_bool, p2_string]) hfv ?_⟩
    obtain ⟨v', G3, hap, ho, hlen, hkk⟩ := ownF_append (P := Tryd.prog) (nro := nro) (t := 116) (e := 115) (H := G' ++ [some ⟨pgV (A + k, fillB (W.take 256)), 115, some 2⟩]) (v := v) (x := .slice (some ⟨G'.length, 0, none⟩) 1 1) (sz := 2) (cells := pgC (pgL A Y k)) (news := pgV (A + k, fillB (W.take 256))) (F := F)
      (by simp) (by simp) (by omega) (by simp) (hown.low (fun j hj => hget_left (hown.lt j hj))) (fun j hj => by have := hF j hj; omega) (fun s h => by cases h) (by simp [xcells, hget_app0, hget_cons0, pgV]) (by simp [pgV]) (by simp [pgV]) (by rw [pgC_len, pgL_len]; simp [pgV]; omega) (by rw [pgC_len, pgL_len]; simp [pgV, maxLen]; omega)
    have hs3 := own_shape ho
    have ho' : OwnF G3 v' 115 2 (pgC (pgL A Y (k + 1))) [G'.length + 1] := by
      rw [hnx, show pgC (pgL A Y k ++ [(A + k, fillB (W.take 256))]) = pgC (pgL A Y k) ++ pgV (A + k, fillB (W.take 256)) by simp [pgC]]
      simpa using ho
    simp only [pgV, Int.natCast_add] at hap
    have r2 : List.range 2 = [0, 1] := rfl
    simp (disch := first | omega | (simp only [List.length_set, List.length_append, List.length_cons, List.length_nil, iv_length, zl_length]; try omega; done)) [-getElem?_pos, -getElem?_neg, r2, -notTuple, nt_strJ, nt_slJ, nt_intJ, nt_aggJ, hsh, hs3.1, hs3.2, -xappend, hap]
    refine hK _ _ ?_; clear hK K
    have hk3 : ∀ j, j < G.length → hget G3 j = hget G' j := fun j hj => by
      have := hlow.2
      rw [hkk j (by simp; omega) (fun hm => by have := hF j hm; omega), hget_left (by omega)]
    (refine aw_ops (by kernel_rfl) (fun K hK => ?_); simp (disch := first | omega | (simp only [List.length_set, List.length_append, List.length_cons, List.length_nil, iv_length, zl_length]; try omega; done)) [-getElem?_pos, -getElem?_neg, h3, hWs, hx2]; refine hK _ _ ?_; clear hK K)
    (refine aw_ops (by kernel_rfl) (fun K hK => ?_); simp (disch := first | omega | (simp only [List.length_set, List.length_append, List.length_cons, List.length_nil, iv_length, zl_length]; try omega; done)) [-getElem?_pos, -getElem?_neg, h9]; refine hK _ _ ?_; clear hK K)
    refine ⟨c - 1, by omega, k + 1, v', [G'.length + 1], by omega, by (first | (simp [put_at, put_none, fr0_at, hnd]; done) | rfl), by (first | (simp [put_at, put_none, fr0_at]; done) | rfl), by (first | (simp [put_at, put_none, fr0_at]; done) | rfl), ho', by have := hlow.2; simp; omega, ⟨fun j hj => (hk3 j hj).trans (hlow.1 j hj), by have := hlow.2; simp at hlen; omega⟩⟩
end

section
open Go Go.RowKit
set_option linter.unusedVariables false
set_option linter.unusedSimpArgs false
theorem div_step (v k : Nat) : v / 128 ^ (k + 2) = v / 128 ^ (k + 1) / 128 := by
  rw [Nat.div_div_eq_div_mul, ← Nat.pow_succ]
theorem rdN_one : ∀ (g n : Nat) (l : List Int) (v : Nat) (l' : List Int), n ≠ 0 → By l → g ≤ 4 → rdN g n l = (v, l', 0) → ∃ k, k < g ∧ v / 128 ^ (k + 1) = n ∧ l = lowB v k ++ l'
  | 0, n, l, v, l', _, _, _, h => by simp [rdN] at h
  | g + 1, n, [], v, l', _, _, _, h => by simp [rdN] at h
  | g + 1, n, b :: l, v, l', hn, hb, hg, h => by
    have hb0 := hb b (by simp)
    have hbl : By l := fun x hx => hb x (by simp [hx])
    unfold rdN at h
    split at h
    · simp at h
    split at h
    · rename_i hlt
      simp only [Prod.mk.injEq] at h
      obtain ⟨rfl, rfl, _⟩ := h
      obtain ⟨m, rfl⟩ : ∃ m : Nat, b = (m : Nat) := ⟨b.toNat, by omega⟩
      simp only [Int.toNat_natCast]
      refine ⟨0, by omega, by omega, ?_⟩
      have : (n * 128 + m % 128) % 128 = m := by omega
      simp [lowB, hiG, this]
    · rename_i hge
      obtain ⟨m, rfl⟩ : ∃ m : Nat, b = (m : Nat) := ⟨b.toNat, by omega⟩
      simp only [Int.toNat_natCast] at h
      obtain ⟨k, hk, hv, rfl⟩ := rdN_one g _ l v l' (by omega) hbl (by omega) h
      refine ⟨k + 1, by omega, by rw [div_step, hv]; omega, ?_⟩
      rw [lowB_next (by rw [hv]; omega), hv, List.cons_append]
      congr 1
      omega
theorem numB_low (n : Nat) : numB n = lowB n 4 := rfl
theorem numB_cut {n k : Nat} (h : n / 128 ^ (k + 1) = 0) (hk : k ≤ 4) : numB n = lowB n k := by
  rw [numB_low, lowB, lowB, hiG_cut h hk]
theorem rdNum_one {l l' : List Int} {v : Nat} (hb : By l) (h : rdNum l = (v, l', 0)) : l = numB v ++ l' := by
  unfold rdNum at h
  split at h
  case isFalse => rename_i e; simp only [Prod.mk.injEq] at h; exact absurd h.2.2 e
  cases l with
  | nil => simp [rdN] at h
  | cons b l =>
    have hb0 := hb b (by simp)
    have hbl : By l := fun x hx => hb x (by simp [hx])
    unfold rdN at h
    split at h
    · simp at h
    rename_i hno
    have hb128 : b ≠ 128 := fun h => hno (.inl ⟨rfl, h⟩)
    split at h
    · rename_i hlt
      simp only [Prod.mk.injEq] at h
      obtain ⟨rfl, rfl, _⟩ := h
      obtain ⟨m, rfl⟩ : ∃ m : Nat, b = (m : Nat) := ⟨b.toNat, by omega⟩
      simp only [Int.toNat_natCast]
      have e : 0 * 128 + m % 128 = m := by omega
      rw [e, numB_cut (n := m) (k := 0) (by omega) (by omega)]
      have : m % 128 = m := by omega
      simp [lowB, hiG, this]
    · rename_i hge
      obtain ⟨m, rfl⟩ : ∃ m : Nat, b = (m : Nat) := ⟨b.toNat, by omega⟩
      simp only [Int.toNat_natCast] at h
      clear hno
      have e : 0 * 128 + m % 128 = m % 128 := by omega
      rw [e] at h
      have hne : m % 128 ≠ 0 := by omega
      obtain ⟨k, hk, hv, rfl⟩ := rdN_one 4 (m % 128) l v l' hne hbl (by omega) h
      rw [numB_cut (n := v) (k := k + 1) (by rw [div_step, hv]; omega) (by omega), lowB_next (n := v) (k := k) (by rw [hv]; omega), hv, List.cons_append]
      congr 1
      omega
/-- The groups below those that are read. -/
theorem rdN_low : ∀ (k g v : Nat) (r : List Int), v ≤ 4294967295 → k < g → g ≤ 4 → (k ≠ 0 → v / 128 ^ (k + 1) ≠ 0) → rdN g (v / 128 ^ (k + 1)) (lowB v k ++ r) = (v, r, 0)
  | 0, 0, v, r, _, h, _, _ => by omega
  | 0, g + 1, v, r, hv, _, hg, _ => by
    simp only [lowB, hiG, List.nil_append, List.cons_append]
    unfold rdN
    simp only [Int.toNat_natCast]
    have e : v / 128 ^ (0 + 1) * 128 + v % 128 % 128 = v := by omega
    rw [if_neg (by rw [e]; omega), if_pos (by omega), e]
  | k + 1, 0, v, r, _, h, _, _ => by omega
  | k + 1, g + 1, v, r, hv, hk, hg, hne => by
    have h1 := hne (by omega)
    have h2 : v / 128 ^ (k + 1) ≠ 0 := fun h => h1 (by rw [div_step, h])
    rw [lowB_next h2, List.cons_append, div_step]
    have hle : v / 128 ^ (k + 1) ≤ v := Nat.div_le_self _ _
    generalize hq : v / 128 ^ (k + 1) = q at *
    unfold rdN
    have e0 : ((((q % 128 : Nat) : Int) + 128).toNat) % 128 = q % 128 := by omega
    have e : q / 128 * 128 + ((((q % 128 : Nat) : Int) + 128).toNat) % 128 = q := by rw [e0]; omega
    rw [if_neg (by rw [e]; omega), if_neg (by omega), e, ← hq]
    exact rdN_low k g v r hv (by omega) (by omega) (fun _ => by rw [hq]; exact h2)
theorem top_group {v : Nat} (hv : v ≤ 4294967295) : v < 128 ∨ ∃ k, k < 4 ∧ v / 128 ^ (k + 1) ≠ 0 ∧ v / 128 ^ (k + 2) = 0 := by
  by_cases h0 : v < 128
  · exact .inl h0
  right
  by_cases h1 : v / 128 ^ 2 = 0
  · exact ⟨0, by omega, by omega, h1⟩
  by_cases h2 : v / 128 ^ 3 = 0
  · exact ⟨1, by omega, h1, h2⟩
  by_cases h3 : v / 128 ^ 4 = 0
  · exact ⟨2, by omega, h2, h3⟩
  · exact ⟨3, by omega, h3, by omega⟩
theorem rdNum_back {v : Nat} (hv : v ≤ 4294967295) (r : List Int) : rdNum (numB v ++ r) = (v, r, 0) := by
  have : rdN 5 0 (numB v ++ r) = (v, r, 0) := by
    rcases top_group hv with h0 | ⟨k, hk, h1, h2⟩
    · rw [numB_cut (n := v) (k := 0) (by omega) (by omega)]
      simp only [lowB, hiG, List.nil_append, List.cons_append]
      unfold rdN
      simp only [Int.toNat_natCast]
      have e : 0 * 128 + v % 128 % 128 = v := by omega
      rw [if_neg (by rw [e]; omega), if_pos (by omega), e]
    · rw [numB_cut (n := v) (k := k + 1) h2 (by omega), lowB_next h1, List.cons_append]
      rw [div_step] at h2
      have hlow := rdN_low k 4 v r hv (by omega) (by omega) (fun _ => h1)
      have hle : v / 128 ^ (k + 1) ≤ v := Nat.div_le_self _ _
      generalize v / 128 ^ (k + 1) = q at *
      unfold rdN
      have e : 0 * 128 + ((((q % 128 : Nat) : Int) + 128).toNat) % 128 = q := by omega
      rw [if_neg (by rw [e]; omega), if_neg (by omega), e]
      exact hlow
  unfold rdNum
  rw [this]
  rfl
/-- What is cut off lacks bytes. -/
theorem rdN_cutoff : ∀ (k g v j : Nat), v ≤ 4294967295 → k < g → g ≤ 4 → (k ≠ 0 → v / 128 ^ (k + 1) ≠ 0) → j < (lowB v k).length → rdN g (v / 128 ^ (k + 1)) ((lowB v k).take j) = (0, [], 3)
  | 0, 0, v, j, _, h, _, _, _ => by omega
  | 0, g + 1, v, j, hv, _, hg, _, hj => by
    simp only [lowB, hiG, List.nil_append, List.length_singleton] at hj
    obtain rfl : j = 0 := by omega
    rfl
  | k + 1, 0, v, j, _, h, _, _, _ => by omega
  | k + 1, g + 1, v, j, hv, hk, hg, hne, hj => by
    have h1 := hne (by omega)
    have h2 : v / 128 ^ (k + 1) ≠ 0 := fun h => h1 (by rw [div_step, h])
    rw [lowB_next h2, List.length_cons] at hj
    cases j with
    | zero => rfl
    | succ j =>
      rw [lowB_next h2, List.take_succ_cons, div_step]
      have hle : v / 128 ^ (k + 1) ≤ v := Nat.div_le_self _ _
      generalize hq : v / 128 ^ (k + 1) = q at *
      unfold rdN
      have e : q / 128 * 128 + ((((q % 128 : Nat) : Int) + 128).toNat) % 128 = q := by omega
      rw [if_neg (by rw [e]; omega), if_neg (by omega), e, ← hq]
      exact rdN_cutoff k g v j hv (by omega) (by omega) (fun _ => by rw [hq]; exact h2) (by omega)
theorem rdNum_cut {v j : Nat} (hv : v ≤ 4294967295) (hj : j < (numB v).length) : rdNum ((numB v).take j) = (0, (numB v).take j, 3) := by
  have : (rdN 5 0 ((numB v).take j)).2.2 = 3 := by
    cases j with
    | zero => rfl
    | succ j =>
      rcases top_group hv with h0 | ⟨k, hk, h1, h2⟩
      · rw [numB_cut (n := v) (k := 0) (by omega) (by omega)] at hj
        simp [lowB, hiG] at hj
      · rw [numB_cut (n := v) (k := k + 1) h2 (by omega), lowB_next h1, List.length_cons] at hj
        rw [numB_cut (n := v) (k := k + 1) h2 (by omega), lowB_next h1, List.take_succ_cons]
        rw [div_step] at h2
        have hlow := rdN_cutoff k 4 v j hv (by omega) (by omega) (fun _ => h1) (by omega)
        have hle : v / 128 ^ (k + 1) ≤ v := Nat.div_le_self _ _
        generalize v / 128 ^ (k + 1) = q at *
        unfold rdN
        have e : 0 * 128 + ((((q % 128 : Nat) : Int) + 128).toNat) % 128 = q := by omega
        rw [if_neg (by rw [e]; omega), if_neg (by omega), e, hlow]
  unfold rdNum
  rw [this]
  rfl
end

section
open Go Go.RowKit
set_option linter.unusedVariables false
set_option linter.unusedSimpArgs false
theorem rdCount_back {n : Nat} {most : Int} (h1 : (n : Int) ≤ max most 0) (h2 : n ≤ 4294967295) (r : List Int) : rdCount most (numB n ++ r) = (n, r, 0) := by
  unfold rdCount
  rw [rdNum_back h2]
  simp only [ne_eq, not_true_eq_false, if_false]
  rw [if_neg (by omega)]
theorem rdText_back {s : ByteArray} {most : Int} (h1 : (s.size : Int) ≤ most) (h2 : s.size ≤ 4294967295) (r : List Int) : rdText most (textB s ++ r) = (nums s, r, 0) := by
  unfold rdText textB
  rw [List.append_assoc, rdCount_back (by omega) h2]
  have := nums_size s
  simp only [ne_eq, not_true_eq_false, if_false]
  rw [if_neg (by rw [List.length_append]; omega), ← this, List.take_left, List.drop_left]
end

section
open Go Go.RowKit
set_option linter.unusedSimpArgs false
set_option linter.unusedVariables false
set_option maxRecDepth 100000
set_option maxHeartbeats 4000000

theorem textB_pos (s : ByteArray) : 0 < (textB s).length := by
  unfold textB numB
  simp
  omega
theorem recs_back : ∀ (ps acc : List ByteArray) (f : Nat), (∀ s ∈ ps, s.size ≤ 60000) → (textsB ps).length ≤ f → recsR f (textsB ps) acc = some (acc ++ ps)
  | [], acc, f, _, _ => by
    have : textsB [] = [] := rfl
    rw [this]
    cases f <;> simp [recsR]
  | s :: ps, acc, f, hs, hf => by
    have e : textsB (s :: ps) = textB s ++ textsB ps := by simp [textsB]
    have hp := textB_pos s
    rw [e, List.length_append] at hf
    obtain ⟨f', rfl⟩ : ∃ f', f = f' + 1 := ⟨f - 1, by omega⟩
    have hsz := hs s (by simp)
    have hr := rdText_back (s := s) (most := 60000) (by omega) (by omega) (textsB ps)
    rw [e, recsR, if_neg (fun h => by have := congrArg List.length h; rw [List.length_append, List.length_nil] at this; omega), hr]
    simp only [ne_eq, not_true_eq_false, if_false]
    rw [of_nums', recs_back ps _ f' (fun x hx => hs x (by simp [hx])) (by omega)]
    simp
theorem mark_get (a n k : Nat) (hk : k < 9) : (markL a n).getD k 0 = (headL a n).getD k 0 := by
  unfold markL
  rw [List.getD_eq_getElem?_getD, List.getElem?_append_left (by rw [headL_len]; exact hk), ← List.getD_eq_getElem?_getD]
theorem mArea_mark {a n : Nat} (ha : a < 256) : mArea (markL a n) = a := by
  unfold mArea
  rw [mark_get a n 4 (by omega)]
  show ((a : Int) % 256).toNat = a
  omega
theorem mSize_mark {a n : Nat} (hn : n < 4294967296) : mSize (markL a n) = n := by
  unfold mSize
  rw [mark_get a n 5 (by omega), mark_get a n 6 (by omega), mark_get a n 7 (by omega), mark_get a n 8 (by omega)]
  show (((n : Int) / 16777216 % 256) * 16777216 + ((n : Int) / 65536 % 256) * 65536 + ((n : Int) / 256 % 256) * 256 + (n : Int) % 256).toNat = n
  omega
theorem isMark_mark {a n : Nat} (ha : a < 2) (hn : n < 4294967296) : isMark (markL a n) = true := by
  unfold isMark
  rw [mArea_mark (by omega), mSize_mark hn]
  simp [ha]
theorem mark_ne {a n : Nat} : markL a n ≠ zl 64 := fun h => by
  have h1 := mark_get a n 0 (by omega)
  rw [h] at h1
  revert h1
  show ¬ (0 : Int) = 109
  decide
end

section
open Go Go.RowKit
set_option linter.unusedVariables false
set_option linter.unusedSimpArgs false
set_option maxRecDepth 100000
set_option maxHeartbeats 4000000

/-- A list's own slice: nil, or the whole of a block above lo. -/
def OwnL (lo : Nat) (H : AH) (v : Value) (cells : List Value) : Prop :=
  (v = .slice none 0 0 ∧ cells = []) ∨ ∃ j cs, lo ≤ j ∧ v = .slice (some ⟨j, 0, none⟩) cells.length cells.length ∧ hget H j = some ⟨cs, 9, some 1⟩ ∧ cells <+: cs
theorem OwnL.low {lo : Nat} {H H' : AH} {v : Value} {cells : List Value} (h : OwnL lo H v cells) (hl : ∀ j, lo ≤ j → j < H.length → hget H' j = hget H j) : OwnL lo H' v cells := by
  rcases h with h | ⟨j, cs, h1, h2, h3, h4⟩
  · exact .inl h
  · exact .inr ⟨j, cs, h1, h2, by rw [hl j h1 (hget_lt h3)]; exact h3, h4⟩
theorem OwnL.nt {lo : Nat} {H : AH} {v : Value} {cells : List Value} (h : OwnL lo H v cells) : notTuple v = true := by
  rcases h with ⟨rfl, _⟩ | ⟨j, cs, _, rfl, _⟩ <;> rfl
theorem ownL_append {P : Program} {nro lo : Nat} {t : TypeId} {H : AH} {v x : Value} {cells news : List Value} (hu : und P t = .slice 9) (hs : szt P 9 = 1) (hz : (zer P 9).map (·.cells.size) = some 1) (hby : byt P 9 = 16)
    (hv : OwnL lo H v cells) (hnro : nro ≤ lo) (hlo : lo ≤ H.length) (hstr : ∀ s, x ≠ .string s) (hx : xcells 1 x H = some news) (hb : cells.length + news.length ≤ 1000000) :
    ∃ v' H', xappend P nro t v x H = some (v', H') ∧ OwnL lo H' v' (cells ++ news) ∧ H.length ≤ H'.length ∧ (∀ j, j < lo → hget H' j = hget H j) ∧ ((v = .slice none 0 0 ∧ news = [] ∧ v' = .slice none 0 0) ∨ (¬ (v = .slice none 0 0 ∧ news = []) ∧ v' = .slice (some ⟨H.length, 0, none⟩) (cells.length + news.length) (cells.length + news.length) ∧ H'.length = H.length + 1)) := by
  rcases hv with ⟨rfl, rfl⟩ | ⟨j, cs, h1, rfl, h3, h4⟩
  · by_cases hn : news = []
    · subst hn
      refine ⟨.slice none 0 0, H, ?_, .inl ⟨rfl, rfl⟩, Nat.le_refl _, fun _ _ => rfl, .inl ⟨rfl, rfl, rfl⟩⟩
      unfold xappend
      cases x <;> first | (exact absurd rfl (hstr _)) | (simp only [hu, hs, hx]; rw [if_pos ⟨by omega, hz, by simp, by simp⟩]; first | rw [if_pos rfl] | rw [if_pos trivial])
    · refine ⟨.slice (some ⟨H.length, 0, none⟩) (news.length / 1) (news.length / 1), H ++ [some ⟨news, 9, some 1⟩], ?_, .inr ⟨H.length, _, hlo, by simp, by rw [hget_app0]; rfl, List.prefix_rfl⟩, by simp, fun i hi => hget_left (by omega), .inr ⟨fun h => hn h.2, by simp, by simp⟩⟩
      simp only [List.length_nil, Nat.zero_add] at hb
      unfold xappend
      cases x <;> first | (exact absurd rfl (hstr _)) | (simp only [hu, hs, hx]; rw [if_pos ⟨by omega, hz, by rw [hby]; omega, by simp only [maxLen]; omega⟩, if_neg hn])
  · have hj := hget_lt h3
    have hpl := h4.length_le
    have hpt : cs.take cells.length = cells := by obtain ⟨r, rfl⟩ := h4; simp
    refine ⟨.slice (some ⟨H.length, 0, none⟩) (cells.length + news.length / 1) (cells.length + news.length / 1), H.set j none ++ [some ⟨cells ++ news, 9, some 1⟩], ?_, .inr ⟨H.length, _, hlo, by simp, by rw [hga0]; rfl, List.prefix_rfl⟩, by simp, fun i hi => ?_, .inr ⟨fun h => (by cases h.1), by simp, by simp⟩⟩
    · have hc : True ∧ 0 < 1 ∧ (zer P 9).map (·.cells.size) = some 1 ∧ nro ≤ j ∧ True ∧ True ∧ cells.length * 1 ≤ cs.length ∧ (cells.length * 1 + news.length) * byt P 9 ≤ 140737488355328 ∧ cells.length * 1 + news.length ≤ maxLen :=
        ⟨trivial, by omega, hz, by omega, trivial, trivial, by omega, by rw [hby]; omega, by simp only [maxLen]; omega⟩
      unfold xappend
      cases x <;> first | (exact absurd rfl (hstr _)) | (simp only [hu, hs, hx, h3]; rw [if_pos hc, Nat.mul_one, hpt])
    · rw [hget_left (by simp; omega), hget_set_ne (by omega)]
/-- Parts that are shown, as long as nothing below lo is turned. -/
def Part (H : AH) (lo : Nat) (x : Value) (cells : List Value) : Prop := (∃ a c, x = .slice a cells.length c) ∧ ∀ G : AH, (∀ j, j < lo → hget G j = hget H j) → xcells 1 x G = some cells
theorem OwnL.part {lo : Nat} {H : AH} {v : Value} {cells : List Value} (h : OwnL lo H v cells) : Part H H.length v cells := by
  rcases h with ⟨rfl, rfl⟩ | ⟨j, cs, h1, rfl, h3, h4⟩
  · exact ⟨⟨none, 0, rfl⟩, fun G _ => rfl⟩
  · refine ⟨⟨_, _, rfl⟩, fun G hG => ?_⟩
    have hpl := h4.length_le
    have hpt : cs.take cells.length = cells := by obtain ⟨r, rfl⟩ := h4; simp
    have hg : hget G j = _ := (hG j (hget_lt h3)).trans h3
    simp [xcells, hg, hpl, hpt]
theorem Part.keep {H H' : AH} {lo lo' : Nat} {x : Value} {cells : List Value} (h : Part H lo x cells) (hl : lo ≤ lo') (hg : ∀ j, j < lo → hget H' j = hget H j) : Part H' lo' x cells :=
  ⟨h.1, fun G hG => h.2 G (fun j hj => (hG j (by omega)).trans (hg j hj))⟩
theorem Part.nt {H : AH} {lo : Nat} {x : Value} {cells : List Value} (h : Part H lo x cells) : notTuple x = true := by
  obtain ⟨⟨a, c, rfl⟩, _⟩ := h; rfl
theorem Part.ns {H : AH} {lo : Nat} {x : Value} {cells : List Value} (h : Part H lo x cells) : ∀ s, x ≠ .string s := by
  obtain ⟨⟨a, c, rfl⟩, _⟩ := h
  intro s e; cases e
theorem Part.len {P : Program} {H : AH} {lo : Nat} {x : Value} {cells : List Value} {t e : TypeId} (h : Part H lo x cells) (ht : und P t = .slice e) : xlen P t x = some (.int .i64 cells.length) := by
  obtain ⟨⟨a, c, rfl⟩, _⟩ := h
  simp [xlen, ht]
/-- What Concat answers. -/
def sumL (L : List (List Value)) (i : Nat) : Nat := ((L.take i).map List.length).sum
theorem sumL_next {L : List (List Value)} {i : Nat} {c : List Value} (h : L[i]? = some c) : sumL L (i + 1) = sumL L i + c.length := by
  unfold sumL
  rw [List.take_add_one, h]
  simp
theorem flat_len (L : List (List Value)) (i : Nat) : ((L.take i).flatten).length = sumL L i := by
  unfold sumL
  rw [List.length_flatten]
theorem sumL_mono (L : List (List Value)) {i j : Nat} (h : i ≤ j) : sumL L i ≤ sumL L j := by
  induction j with
  | zero => have : i = 0 := by omega
            subst this; exact Nat.le_refl _
  | succ j ih =>
    rcases Nat.eq_or_lt_of_le h with rfl | h
    · exact Nat.le_refl _
    · have := ih (by omega)
      cases hc : L[j]? with
      | none => unfold sumL at this ⊢; rw [List.take_add_one, hc]; simpa using this
      | some c => rw [sumL_next hc]; omega
theorem zero_strs (n : Nat) : ((List.range n).map fun j => [Value.string ByteArray.empty][j % 1]?.getD undef) = List.replicate n (.string ByteArray.empty) := by
  have e : (fun j : Nat => [Value.string ByteArray.empty][j % 1]?.getD undef) = fun _ => Value.string ByteArray.empty := by
    funext j
    rw [Nat.mod_one]; rfl
  rw [e, List.map_const', List.length_range]
def cV (n : Nat) (L : List (List Value)) : Value := if sumL L L.length = 0 then .slice none 0 0 else .slice (some ⟨n + L.length, 0, none⟩) (sumL L L.length) (sumL L L.length)
attribute [local simp] wb_bool wb_undef XL_nil XL_cons XLc_val XLc_call step1_eq stepW_t stepW_f stepC_n stepC_s stepX_s stepX_n stepN_s calleeX oneV xop_eq xopR_s xopR_n wantedA_eq wantedG_n wantedG_s plain1_int plain1_bool plain1_string bits_i64 bits_u64 bits_u32 bits_u16 bits_u8 xeqA xagg xcmp xarr allK_iv num_iv calleeOf xread xeff xbin xint xnil xun xstr xload xconv xpart xfield xfieldAddr xindexAddr xindex bnd asInt? xslice xlen xmin xmax xbuild xfill xappend xapp2 xappstr xappmk xcap xcopy xcells eval_tmp eval_const put_at put_none fr0_at cells_agg cells_int cells_bool cells_string cells_ptr cells_slice notTuple tab iv_all hget_app hget_app0 hget_cons0 hget_cons set_app set_app0 setR setR_one QL_nil QL_cons QLc_val stepQ_t stepQ_f stepQC_n stepQC_s stepQX_s SL_nil SL_cons SLc_val stepS_t stepS_f ltT ltF leT leF eqT eqF ltTn ltFn leTn leFn eqTn eqFn beqT beqF bneT bneF wi64 wu64 wu32 wu16 wu8 tmodP tdivP hgetL hgetNe hgetEq setL nums_def nums_len Nat.succ_le_of_lt List.getElem?_cons_zero List.getElem?_cons_succ Option.getD_some Int.toNat_add Int.toNat_mul agB agI agS agP agL agA okB okI okS okP okSl okA
section
variable {H : AH} {γ : Nat → Option Nat} {nro : Nat}
theorem grow_ac (n : Nat) (hn : n ≤ 1000000) (hnro : nro ≤ H.length) : AC Tryd.prog nro γ 71 #[.slice none 0 0, .int .i64 (n : Nat)] H (fun v' H' => OwnL H.length H' v' [] ∧ H.length ≤ H'.length ∧ (∀ j, j < H.length → hget H' j = hget H j) ∧ ((n = 0 ∧ v' = .slice none 0 0) ∨ (0 < n ∧ v' = .slice (some ⟨H.length, 0, none⟩) 0 0 ∧ H'.length = H.length + 1))) := by
  refine ac_of_aw Tryd.func71 rfl Tryd.ntmps71 Tryd.results71 (by simp) ?_
  refine aw_seq ?_
  (refine aw_ops (by kernel_rfl) (fun K hK => ?_); simp (disch := first | omega | (simp only [List.length_set, List.length_append, List.length_cons, List.length_nil, iv_length, zl_length]; try omega; done)) [-getElem?_pos, -getElem?_neg]; refine hK _ _ ?_; clear hK K)
  refine aw_seq ?_
  refine aw_seq ?_
  (refine aw_ops (by kernel_rfl) (fun K hK => ?_); simp (disch := first | omega | (simp only [List.length_set, List.length_append, List.length_cons, List.length_nil, iv_length, zl_length]; try omega; done)) [-getElem?_pos, -getElem?_neg]; refine hK _ _ ?_; clear hK K)
  refine aw_f (by (first | (simp [eval_tmp, put_at]; done) | (simp [eval_tmp, put_at]; omega))) (by kernel_rfl) ?_
  refine aw_skip ?_
  refine aw_seq ?_
  refine aw_seq ?_
  (refine aw_ops (by kernel_rfl) (fun K hK => ?_); simp (disch := first | omega | (simp only [List.length_set, List.length_append, List.length_cons, List.length_nil, iv_length, zl_length]; try omega; done)) [-getElem?_pos, -getElem?_neg]; refine hK _ _ ?_; clear hK K)
  refine aw_seq ?_
  by_cases h0 : 0 < n
  · (refine aw_ops (by kernel_rfl) (fun K hK => ?_); simp (disch := first | omega | (simp only [List.length_set, List.length_append, List.length_cons, List.length_nil, iv_length, zl_length]; try omega; done)) [-getElem?_pos, -getElem?_neg, h0]; refine hK _ _ ?_; clear hK K)
    refine aw_t (by (first | (simp [eval_tmp, put_at, h0]; done) | (simp [eval_tmp, put_at, h0]; omega))) (by kernel_rfl) ?_
    have hm1 : (n : Int) ≤ maxLen := by simp only [maxLen]; omega
    (refine aw_ops (by kernel_rfl) (fun K hK => ?_); simp (disch := first | omega | (simp only [List.length_set, List.length_append, List.length_cons, List.length_nil, iv_length, zl_length]; try omega; done)) [-getElem?_pos, -getElem?_neg, h0, zero_strs, hm1]; refine hK _ _ ?_; clear hK K)
    refine aw_seq ?_
    (refine aw_ops (by kernel_rfl) (fun K hK => ?_); simp (disch := first | omega | (simp only [List.length_set, List.length_append, List.length_cons, List.length_nil, iv_length, zl_length]; try omega; done)) [-getElem?_pos, -getElem?_neg]; refine hK _ _ ?_; clear hK K)
    (refine aw_ret ?_; simp (disch := first | omega | (simp only [List.length_set, List.length_append, List.length_cons, List.length_nil, iv_length, zl_length]; try omega; done)) [-getElem?_pos, -getElem?_neg, thenQ_ret, scopeQ_ret, inBlockQ_ret, RQ, resL, resV])
    refine ⟨.inr ⟨H.length, _, Nat.le_refl _, by simp, by rw [hget_app0]; rfl, List.nil_prefix⟩, fun j hj => hget_left hj⟩
  · obtain rfl : n = 0 := by omega
    (refine aw_ops (by kernel_rfl) (fun K hK => ?_); simp (disch := first | omega | (simp only [List.length_set, List.length_append, List.length_cons, List.length_nil, iv_length, zl_length]; try omega; done)) [-getElem?_pos, -getElem?_neg]; refine hK _ _ ?_; clear hK K)
    refine aw_f (by (first | (simp [eval_tmp, put_at]; done) | (simp [eval_tmp, put_at]; omega))) (by kernel_rfl) ?_
    refine aw_skip ?_
    refine aw_seq ?_
    (refine aw_ops (by kernel_rfl) (fun K hK => ?_); simp (disch := first | omega | (simp only [List.length_set, List.length_append, List.length_cons, List.length_nil, iv_length, zl_length]; try omega; done)) [-getElem?_pos, -getElem?_neg]; refine hK _ _ ?_; clear hK K)
    (refine aw_ret ?_; simp (disch := first | omega | (simp only [List.length_set, List.length_append, List.length_cons, List.length_nil, iv_length, zl_length]; try omega; done)) [-getElem?_pos, -getElem?_neg, thenQ_ret, scopeQ_ret, inBlockQ_ret, RQ, resL, resV])
    exact .inl ⟨rfl, rfl⟩
/-- What Concat makes of its parts. -/
theorem concat_ac {v : Value} {j : Nat} {xs : List Value} {L : List (List Value)} (hj : hget H j = some ⟨xs, 22, some 1⟩) (hxl : xs.length = L.length) (hp : ∀ (i : Nat) (x : Value) (c : List Value), xs[i]? = some x → L[i]? = some c → Part H H.length x c) (hs : sumL L L.length ≤ 1000000) (hl : L.length ≤ 1000) (hnro : nro ≤ H.length) :
    AC Tryd.prog nro γ 43 #[.slice (some ⟨j, 0, none⟩) L.length L.length] H (fun v' H' => v' = cV H.length L ∧ OwnL H.length H' v' L.flatten ∧ H.length ≤ H'.length ∧ ∀ j, j < H.length → hget H' j = hget H j) := by
  have hjl := hget_lt hj
  refine ac_of_aw Tryd.func43 rfl Tryd.ntmps43 Tryd.results43 (by simp) ?_
  refine aw_seq ?_
  (refine aw_ops (by kernel_rfl) (fun K hK => ?_); simp (disch := first | omega | (simp only [List.length_set, List.length_append, List.length_cons, List.length_nil, iv_length, zl_length]; try omega; done)) [-getElem?_pos, -getElem?_neg]; refine hK _ _ ?_; clear hK K)
  refine aw_seq ?_
  (refine aw_ops (by kernel_rfl) (fun K hK => ?_); simp (disch := first | omega | (simp only [List.length_set, List.length_append, List.length_cons, List.length_nil, iv_length, zl_length]; try omega; done)) [-getElem?_pos, -getElem?_neg]; refine hK _ _ ?_; clear hK K)
  refine aw_seq ?_
  refine aw_seq ?_
  (refine aw_ops (by kernel_rfl) (fun K hK => ?_); simp (disch := first | omega | (simp only [List.length_set, List.length_append, List.length_cons, List.length_nil, iv_length, zl_length]; try omega; done)) [-getElem?_pos, -getElem?_neg]; refine hK _ _ ?_; clear hK K)
  refine aw_block ?_
  refine aw_loop (fun c α G => ∃ i : Nat, i + c = L.length ∧ α 11 = .int .i64 (i : Nat) ∧ α 10 = .int .i64 (L.length : Nat) ∧ α 9 = .slice (some ⟨j, 0, none⟩) L.length L.length ∧ α 0 = .slice (some ⟨j, 0, none⟩) L.length L.length ∧ α 3 = .int .i64 (sumL L i : Nat) ∧ G = H) L.length ?_ ?_
  · exact ⟨0, by omega, by (first | (simp [put_at, put_none, fr0_at]; done) | rfl), by (first | (simp [put_at, put_none, fr0_at]; done) | rfl), by (first | (simp [put_at, put_none, fr0_at]; done) | rfl), by (first | (simp [put_at, put_none, fr0_at]; done) | rfl), by (first | (simp [put_at, put_none, fr0_at]; done) | rfl), rfl⟩
  rintro c α G ⟨i, hic, h11, h10, h9, h0, h3, rfl⟩
  refine aw_seq ?_
  (refine aw_ops (by kernel_rfl) (fun K hK => ?_); simp (disch := first | omega | (simp only [List.length_set, List.length_append, List.length_cons, List.length_nil, iv_length, zl_length]; try omega; done)) [-getElem?_pos, -getElem?_neg, h11, h10]; refine hK _ _ ?_; clear hK K)
  refine aw_seq ?_
  by_cases hi : i < L.length
  · refine aw_t (by (first | (simp [eval_tmp, put_at, hi]; done) | (simp [eval_tmp, put_at, hi]; omega))) (by kernel_rfl) ?_
    obtain ⟨x, hx⟩ : ∃ x, xs[i]? = some x := ⟨_, List.getElem?_eq_getElem (by omega)⟩
    obtain ⟨cc, hcc⟩ : ∃ cc, L[i]? = some cc := ⟨_, List.getElem?_eq_getElem hi⟩
    have hpt := hp i x cc hx hcc
    have hnt := hpt.nt
    have hln := hpt.len (P := Tryd.prog) (t := 22) (e := 9) (by simp)
    have hsn := sumL_next hcc
    have hsm := sumL_mono L (i := i + 1) (j := L.length) (by omega)
    refine aw_skip ?_
    refine aw_seq ?_
    refine aw_block ?_
    refine aw_seq ?_
    (refine aw_ops (by kernel_rfl) (fun K hK => ?_); simp (disch := first | omega | (simp only [List.length_set, List.length_append, List.length_cons, List.length_nil, iv_length, zl_length]; try omega; done)) [-getElem?_pos, -getElem?_neg, h9, h11, hj, hx]; refine hK _ _ ?_; clear hK K)
    refine aw_seq ?_
    (refine aw_ops (by kernel_rfl) (fun K hK => ?_); simp (disch := first | omega | (simp only [List.length_set, List.length_append, List.length_cons, List.length_nil, iv_length, zl_length]; try omega; done)) [-getElem?_pos, -getElem?_neg, h3, -xlen, hln]; refine hK _ _ ?_; clear hK K)
    refine aw_seq ?_
    (refine aw_ops (by kernel_rfl) (fun K hK => ?_); simp (disch := first | omega | (simp only [List.length_set, List.length_append, List.length_cons, List.length_nil, iv_length, zl_length]; try omega; done)) [-getElem?_pos, -getElem?_neg]; refine hK _ _ ?_; clear hK K)
    refine aw_f (by (first | (simp [eval_tmp, put_at]; done) | (simp [eval_tmp, put_at]; omega))) (by kernel_rfl) ?_
    refine aw_skip ?_
    (refine aw_ops (by kernel_rfl) (fun K hK => ?_); simp (disch := first | omega | (simp only [List.length_set, List.length_append, List.length_cons, List.length_nil, iv_length, zl_length]; try omega; done)) [-getElem?_pos, -getElem?_neg, h11]; refine hK _ _ ?_; clear hK K)
    exact ⟨c - 1, by omega, i + 1, by omega, by (first | (simp [put_at, put_none, fr0_at]; done) | rfl), by (first | (simp [put_at, put_none, fr0_at, h10]; done) | rfl), by (first | (simp [put_at, put_none, fr0_at, h9]; done) | rfl), by (first | (simp [put_at, put_none, fr0_at, h0]; done) | rfl), by simp [put_at, hsn], rfl⟩
  · obtain rfl : i = L.length := by omega
    refine aw_f (by (first | (simp [eval_tmp, put_at]; done) | (simp [eval_tmp, put_at]; omega))) (by kernel_rfl) ?_
    refine aw_exit ?_
    have hgr := grow_ac (H := G) (γ := γ) (nro := nro) (sumL L L.length) hs hnro
    refine aw_seq ?_
    refine aw_ops (by kernel_rfl) (fun K hK => ?_)
    simp (disch := first | omega | (simp only [List.length_set, List.length_append, List.length_cons, List.length_nil, iv_length, zl_length]; try omega; done)) [-getElem?_pos, -getElem?_neg, h3]
    refine ⟨by kernel_rfl, hgr.mono ?_⟩
    rintro v1 G1 ⟨ho1, hl1, hk1, hd1⟩
    have hnt1 := ho1.nt
    try simp (disch := first | omega | (simp only [List.length_set, List.length_append, List.length_cons, List.length_nil, iv_length, zl_length]; try omega; done)) [-getElem?_pos, -getElem?_neg]
    refine hK _ _ ?_; clear hK K
    refine aw_seq ?_
    refine aw_seq ?_
    (refine aw_ops (by kernel_rfl) (fun K hK => ?_); simp (disch := first | omega | (simp only [List.length_set, List.length_append, List.length_cons, List.length_nil, iv_length, zl_length]; try omega; done)) [-getElem?_pos, -getElem?_neg, h0]; refine hK _ _ ?_; clear hK K)
    refine aw_block ?_
    have hj1 : hget G1 j = _ := (hk1 j hjl).trans hj
    refine aw_loop (fun c α G2 => ∃ i : Nat, i + c = L.length ∧ α 27 = .int .i64 (i : Nat) ∧ α 26 = .int .i64 (L.length : Nat) ∧ α 25 = .slice (some ⟨j, 0, none⟩) L.length L.length ∧ OwnL G.length G2 (α 6) (L.take i).flatten ∧ G.length ≤ G2.length ∧ (∀ j, j < G.length → hget G2 j = hget G j) ∧ ((sumL L L.length = 0 ∧ α 6 = .slice none 0 0) ∨ (0 < sumL L L.length ∧ α 6 = .slice (some ⟨G.length + i, 0, none⟩) (sumL L i) (sumL L i) ∧ G2.length = G.length + 1 + i))) L.length ?_ ?_
    · exact ⟨0, by omega, by (first | (simp [put_at, put_none, fr0_at]; done) | rfl), by (first | (simp [put_at, put_none, fr0_at]; done) | rfl), by (first | (simp [put_at, put_none, fr0_at, h0]; done) | rfl), by simp only [put_at]; simpa using ho1, hl1, hk1, by simp only [put_at]; simpa [sumL] using hd1⟩
    clear h11 h10 h9 h0 h3 ho1 hl1 hk1 hj1 hnt1 hgr hd1
    rintro c2 α G2 ⟨i, hic, h27, h26, h25, ho, hl2, hk2, hd2⟩
    have hj2 : hget G2 j = _ := (hk2 j hjl).trans hj
    obtain ⟨v6, h6⟩ : ∃ v6, α 6 = v6 := ⟨_, rfl⟩
    rw [h6] at ho hd2
    have hnt6 := ho.nt
    refine aw_seq ?_
    (refine aw_ops (by kernel_rfl) (fun K hK => ?_); simp (disch := first | omega | (simp only [List.length_set, List.length_append, List.length_cons, List.length_nil, iv_length, zl_length]; try omega; done)) [-getElem?_pos, -getElem?_neg, h27, h26]; refine hK _ _ ?_; clear hK K)
    refine aw_seq ?_
    by_cases hi : i < L.length
    · refine aw_t (by (first | (simp [eval_tmp, put_at, hi]; done) | (simp [eval_tmp, put_at, hi]; omega))) (by kernel_rfl) ?_
      obtain ⟨x, hx⟩ : ∃ x, xs[i]? = some x := ⟨_, List.getElem?_eq_getElem (by omega)⟩
      obtain ⟨cc, hcc⟩ : ∃ cc, L[i]? = some cc := ⟨_, List.getElem?_eq_getElem hi⟩
      have hpt := hp i x cc hx hcc
      have hnt := hpt.nt
      have hfl := flat_len L i
      have hsn := sumL_next hcc
      have hsm := sumL_mono L (i := i + 1) (j := L.length) (by omega)
      obtain ⟨v7, G3, hap, ho3, hl3, hk3, hd3⟩ := ownL_append (P := Tryd.prog) (nro := nro) (t := 22) (by simp) (by simp) (by simp) (by simp) ho hnro hl2 hpt.ns (hpt.2 G2 hk2) (by omega)
      have hnt7 := ho3.nt
      refine aw_skip ?_
      refine aw_seq ?_
      refine aw_block ?_
      refine aw_seq ?_
      (refine aw_ops (by kernel_rfl) (fun K hK => ?_); simp (disch := first | omega | (simp only [List.length_set, List.length_append, List.length_cons, List.length_nil, iv_length, zl_length]; try omega; done)) [-getElem?_pos, -getElem?_neg, h25, h27, hj2, hx]; refine hK _ _ ?_; clear hK K)
      (refine aw_ops (by kernel_rfl) (fun K hK => ?_); simp (disch := first | omega | (simp only [List.length_set, List.length_append, List.length_cons, List.length_nil, iv_length, zl_length]; try omega; done)) [-getElem?_pos, -getElem?_neg, h6, -xappend, hap]; refine hK _ _ ?_; clear hK K)
      (refine aw_ops (by kernel_rfl) (fun K hK => ?_); simp (disch := first | omega | (simp only [List.length_set, List.length_append, List.length_cons, List.length_nil, iv_length, zl_length]; try omega; done)) [-getElem?_pos, -getElem?_neg, h27]; refine hK _ _ ?_; clear hK K)
      refine ⟨c2 - 1, by omega, i + 1, by omega, by (first | (simp [put_at, put_none, fr0_at]; done) | rfl), by (first | (simp [put_at, put_none, fr0_at, h26]; done) | rfl), by (first | (simp [put_at, put_none, fr0_at, h25]; done) | rfl), ?_, by omega, fun j hj => (hk3 j hj).trans (hk2 j hj), ?_⟩
      · simp only [put_at]
        rw [List.take_add_one, hcc]
        simpa using ho3
      · rw [hfl] at hd3
        rcases hd2 with ⟨hz, hv⟩ | ⟨hz, hv, hg⟩
        · left
          have hc0 : cc = [] := List.eq_nil_of_length_eq_zero (by omega)
          rcases hd3 with ⟨_, _, h⟩ | ⟨h, _⟩
          · exact ⟨hz, by simp [put_at, h]⟩
          · exact absurd ⟨hv, hc0⟩ h
        · right
          rcases hd3 with ⟨h, _, _⟩ | ⟨_, h, h2⟩
          · rw [hv] at h; cases h
          · exact ⟨hz, by simp [put_at, h, hsn, hg, Nat.add_assoc, Nat.add_comm 1], by omega⟩
    · obtain rfl : i = L.length := by omega
      refine aw_f (by (first | (simp [eval_tmp, put_at]; done) | (simp [eval_tmp, put_at]; omega))) (by kernel_rfl) ?_
      refine aw_exit ?_
      refine aw_seq ?_
      (refine aw_ops (by kernel_rfl) (fun K hK => ?_); simp (disch := first | omega | (simp only [List.length_set, List.length_append, List.length_cons, List.length_nil, iv_length, zl_length]; try omega; done)) [-getElem?_pos, -getElem?_neg, h6]; refine hK _ _ ?_; clear hK K)
      (refine aw_ret ?_; simp (disch := first | omega | (simp only [List.length_set, List.length_append, List.length_cons, List.length_nil, iv_length, zl_length]; try omega; done)) [-getElem?_pos, -getElem?_neg, thenQ_ret, scopeQ_ret, inBlockQ_ret, RQ, resL, resV])
      rw [List.take_length] at ho
      refine ⟨?_, ho, hk2⟩
      unfold cV
      rcases hd2 with ⟨hz, hv⟩ | ⟨hz, hv, hg⟩
      · rw [if_pos hz]; exact hv
      · rw [if_neg (by omega)]; exact hv
/-- A copy. -/
theorem clone_fix {v : Value} {cells : List Value} (hv : Part H H.length v cells) (hc : cells.length ≤ 1000000) (hnro : nro ≤ H.length) :
    ∃ v0, AC Tryd.prog nro γ 39 #[v] H (fun v' H' => v' = v0 ∧ Part H' H'.length v' cells ∧ H.length ≤ H'.length ∧ ∀ j, j < H.length → hget H' j = hget H j) := by
  obtain ⟨⟨a, c, rfl⟩, hx⟩ := hv
  cases a with
  | none =>
    have h0 : cells = [] := by
      have := hx H (fun _ _ => rfl)
      unfold xcells at this
      split at this
      · exact (Option.some.inj this).symm
      · cases this; rfl
      · rename_i e; cases e
      · rename_i e; cases e
      · cases this
    subst h0
    refine ⟨.slice none 0 0, ?_⟩
    refine ac_of_aw Tryd.func39 rfl Tryd.ntmps39 Tryd.results39 (by simp) ?_
    refine aw_seq ?_
    (refine aw_ops (by kernel_rfl) (fun K hK => ?_); simp (disch := first | omega | (simp only [List.length_set, List.length_append, List.length_cons, List.length_nil, iv_length, zl_length]; try omega; done)) [-getElem?_pos, -getElem?_neg]; refine hK _ _ ?_; clear hK K)
    refine aw_seq ?_
    refine aw_seq ?_
    (refine aw_ops (by kernel_rfl) (fun K hK => ?_); simp (disch := first | omega | (simp only [List.length_set, List.length_append, List.length_cons, List.length_nil, iv_length, zl_length]; try omega; done)) [-getElem?_pos, -getElem?_neg]; refine hK _ _ ?_; clear hK K)
    refine aw_t (by (first | (simp [eval_tmp, put_at]; done) | (simp [eval_tmp, put_at]; omega))) (by kernel_rfl) ?_
    refine aw_seq ?_
    (refine aw_ops (by kernel_rfl) (fun K hK => ?_); simp (disch := first | omega | (simp only [List.length_set, List.length_append, List.length_cons, List.length_nil, iv_length, zl_length]; try omega; done)) [-getElem?_pos, -getElem?_neg]; refine hK _ _ ?_; clear hK K)
    (refine aw_ret ?_; simp (disch := first | omega | (simp only [List.length_set, List.length_append, List.length_cons, List.length_nil, iv_length, zl_length]; try omega; done)) [-getElem?_pos, -getElem?_neg, thenQ_ret, scopeQ_ret, inBlockQ_ret, RQ, resL, resV])
    exact ⟨⟨none, 0, rfl⟩, fun G _ => rfl⟩
  | some a =>
    have ho0 : OwnL H.length (H ++ [some ⟨[], 9, some 1⟩]) (.slice (some ⟨H.length, 0, none⟩) 0 0) [] := .inr ⟨H.length, [], Nat.le_refl _, rfl, by rw [hget_app0]; rfl, List.prefix_rfl⟩
    obtain ⟨v7, G3, hap, ho3, hl3, hk3, _⟩ := ownL_append (P := Tryd.prog) (nro := nro) (t := 22) (x := .slice (some a) cells.length c) (by simp) (by simp) (by simp) (by simp) ho0 hnro (by simp) (fun s e => by cases e) (hx _ (fun j hj => hget_left hj)) (by simpa using hc)
    have hnt7 := ho3.nt
    refine ⟨v7, ?_⟩
    refine ac_of_aw Tryd.func39 rfl Tryd.ntmps39 Tryd.results39 (by simp) ?_
    refine aw_seq ?_
    (refine aw_ops (by kernel_rfl) (fun K hK => ?_); simp (disch := first | omega | (simp only [List.length_set, List.length_append, List.length_cons, List.length_nil, iv_length, zl_length]; try omega; done)) [-getElem?_pos, -getElem?_neg]; refine hK _ _ ?_; clear hK K)
    refine aw_seq ?_
    refine aw_seq ?_
    (refine aw_ops (by kernel_rfl) (fun K hK => ?_); simp (disch := first | omega | (simp only [List.length_set, List.length_append, List.length_cons, List.length_nil, iv_length, zl_length]; try omega; done)) [-getElem?_pos, -getElem?_neg]; refine hK _ _ ?_; clear hK K)
    refine aw_f (by (first | (simp [eval_tmp, put_at]; done) | (simp [eval_tmp, put_at]; omega))) (by kernel_rfl) ?_
    refine aw_skip ?_
    refine aw_seq ?_
    (refine aw_ops (by kernel_rfl) (fun K hK => ?_); simp (disch := first | omega | (simp only [List.length_set, List.length_append, List.length_cons, List.length_nil, iv_length, zl_length]; try omega; done)) [-getElem?_pos, -getElem?_neg, -xappend, hap]; refine hK _ _ ?_; clear hK K)
    (refine aw_ret ?_; simp (disch := first | omega | (simp only [List.length_set, List.length_append, List.length_cons, List.length_nil, iv_length, zl_length]; try omega; done)) [-getElem?_pos, -getElem?_neg, thenQ_ret, scopeQ_ret, inBlockQ_ret, RQ, resL, resV])
    simp only [List.length_append, List.length_cons, List.length_nil] at hl3
    rw [List.nil_append] at ho3
    exact ⟨ho3.part, by omega, fun j hj => (hk3 j hj).trans (hget_left hj)⟩
theorem clone_ac {v : Value} {cells : List Value} (hv : Part H H.length v cells) (hc : cells.length ≤ 1000000) (hnro : nro ≤ H.length) :
    AC Tryd.prog nro γ 39 #[v] H (fun v' H' => Part H' H'.length v' cells ∧ H.length ≤ H'.length ∧ ∀ j, j < H.length → hget H' j = hget H j) := by
  obtain ⟨v0, h⟩ := clone_fix (γ := γ) hv hc hnro
  exact h.mono fun _ _ h => h.2
end
end

section
open Go Go.RowKit
set_option linter.unusedSimpArgs false
set_option linter.unusedVariables false
set_option maxRecDepth 100000
set_option maxHeartbeats 4000000

def totS (ps : List ByteArray) : Nat := (ps.map ByteArray.size).sum
def grJ (ps : List ByteArray) : Bool := ps.any (fun s => decide (2000 < s.size)) || decide (21 < ps.length) || decide (4000 < totS ps)
theorem grJ_f {ps : List ByteArray} (h : grJ ps = false) : (∀ s ∈ ps, s.size ≤ 2000) ∧ ps.length ≤ 21 ∧ totS ps ≤ 4000 := by
  unfold grJ at h
  simp only [Bool.or_eq_false_iff, List.any_eq_false, decide_eq_false_iff_not, decide_eq_true_eq] at h
  exact ⟨fun s hs => by have := h.1.1 s hs; omega, by omega, by omega⟩
attribute [local simp] wb_bool wb_undef XL_nil XL_cons XLc_val XLc_call step1_eq stepW_t stepW_f stepC_n stepC_s stepX_s stepX_n stepN_s calleeX oneV xop_eq xopR_s xopR_n wantedA_eq wantedG_n wantedG_s plain1_int plain1_bool plain1_string bits_i64 bits_u64 bits_u32 bits_u16 bits_u8 xeqA xagg xcmp xarr allK_iv num_iv calleeOf xread xeff xbin xint xnil xun xstr xload xconv xpart xfield xfieldAddr xindexAddr xindex bnd asInt? xslice xlen xmin xmax xbuild xfill xappend xapp2 xappstr xappmk xcap xcopy xcells eval_tmp eval_const put_at put_none fr0_at cells_agg cells_int cells_bool cells_string cells_ptr cells_slice notTuple tab iv_all hget_app hget_app0 hget_cons0 hget_cons set_app set_app0 setR setR_one QL_nil QL_cons QLc_val stepQ_t stepQ_f stepQC_n stepQC_s stepQX_s SL_nil SL_cons SLc_val stepS_t stepS_f ltT ltF leT leF eqT eqF ltTn ltFn leTn leFn eqTn eqFn beqT beqF bneT bneF wi64 wu64 wu32 wu16 wu8 tmodP tdivP hgetL hgetNe hgetEq setL nums_def nums_len Nat.succ_le_of_lt List.getElem?_cons_zero List.getElem?_cons_succ Option.getD_some Int.toNat_add Int.toNat_mul agB agI agS agP agL agA okB okI okS okP okSl okA
/-- A slice that shows these texts. -/
structure StrV (H : AH) (v : Value) (ps : List ByteArray) : Prop where
  nt : notTuple v = true
  len : xlen Tryd.prog 22 v = some (.int .i64 ps.length)
  at_ : ∀ (i : Nat) (s : ByteArray), ps[i]? = some s → ∃ p, xindexAddr Tryd.prog 22 v (.int .i64 (i : Nat)) = some p ∧ xload Tryd.prog 9 p H = some (.string s)
theorem SlV.str {H : AH} {v : Value} {ps : List ByteArray} (hv : SlV H v (ps.map .string)) : StrV H v ps :=
  ⟨by rcases hv with ⟨a, rfl, _⟩ | ⟨j, off, k, rfl, _⟩ <;> rfl, by
    have hxl := hv.len (P := Tryd.prog) (t := 22) (e := 9) (by simp)
    rw [List.length_map] at hxl
    exact hxl, fun i s hs => hv.atS (P := Tryd.prog) (t := 22) (e := 9) (by simp) (by simp) (by simp) (by simp) hs⟩
theorem Part.str {H : AH} {v : Value} {ps : List ByteArray} (h : Part H H.length v (ps.map .string)) : StrV H v ps := by
  have hx := h.2 H (fun _ _ => rfl)
  obtain ⟨a, c, rfl⟩ := h.1
  rw [List.length_map] at hx ⊢
  have h0 : ps.length = 0 → StrV H (.slice a ps.length c) ps := fun h0 => ⟨rfl, by simp [xlen], fun i s hs => by
    have := (List.getElem?_eq_some_iff.1 hs).1
    omega⟩
  by_cases hp : ps.length = 0
  · exact h0 hp
  match a, hx with
  | none, hx =>
    obtain ⟨n, hn⟩ : ∃ n, ps.length = n + 1 := ⟨ps.length - 1, by omega⟩
    rw [hn] at hx
    simp [xcells] at hx
  | some ⟨i, off, some q⟩, hx =>
    obtain ⟨n, hn⟩ : ∃ n, ps.length = n + 1 := ⟨ps.length - 1, by omega⟩
    rw [hn] at hx
    simp [xcells] at hx
  | some ⟨i, off, none⟩, hx =>
    simp only [xcells] at hx
    cases hg : hget H i with
    | none => rw [hg] at hx; simp at hx
    | some k =>
      rw [hg] at hx
      simp only [Nat.mul_one] at hx
      split at hx
      · rename_i hle
        have hx := Option.some.inj hx
        refine ⟨rfl, by simp [xlen], fun j s hs => ⟨.pointer (some ⟨i, off + j, none⟩), ?_, ?_⟩⟩
        · have := (List.getElem?_eq_some_iff.1 hs).1
          simp [xindexAddr, this]
        · have hj := (List.getElem?_eq_some_iff.1 hs).1
          have : (ps.map Value.string)[j]? = some (.string s) := by rw [List.getElem?_map, hs]; rfl
          rw [← hx, List.getElem?_take_of_lt hj, List.getElem?_drop] at this
          simp [xload, hg, this]
      · simp at hx
theorem great_rc {γ : Nat → Option Nat} {H : AH} {v : Value} {ps : List ByteArray} (hv : StrV H v ps) (hs63 : ∀ s ∈ ps, s.size ≤ 9223372036854775807) (hlen : ps.length ≤ 9223372036854775807) :
    AC Tryd.prog H.length γ 6 #[v] H (fun v' _ => v' = .bool (grJ ps)) := by
  have hno := hv.nt
  have hxl := hv.len
  refine ac_of_aw Tryd.func6 rfl Tryd.ntmps6 Tryd.results6 (by simp) ?_
  refine aw_seq ?_
  (refine aw_ops (by kernel_rfl) (fun K hK => ?_); simp (disch := first | omega | (simp only [List.length_set, List.length_append, List.length_cons, List.length_nil, iv_length, zl_length]; try omega; done)) [-getElem?_pos, -getElem?_neg]; refine hK _ _ ?_; clear hK K)
  refine aw_seq ?_
  (refine aw_ops (by kernel_rfl) (fun K hK => ?_); simp (disch := first | omega | (simp only [List.length_set, List.length_append, List.length_cons, List.length_nil, iv_length, zl_length]; try omega; done)) [-getElem?_pos, -getElem?_neg]; refine hK _ _ ?_; clear hK K)
  refine aw_seq ?_
  refine aw_seq ?_
  (refine aw_ops (by kernel_rfl) (fun K hK => ?_); simp (disch := first | omega | (simp only [List.length_set, List.length_append, List.length_cons, List.length_nil, iv_length, zl_length]; try omega; done)) [-getElem?_pos, -getElem?_neg]; refine hK _ _ ?_; clear hK K)
  refine aw_block ?_
  refine aw_loop (fun q α H' => ∃ i : Nat, i + q = ps.length ∧ i ≤ 21 ∧ (∀ s ∈ ps.take i, s.size ≤ 2000) ∧ α 0 = v ∧ α 4 = .int .i64 (i : Nat) ∧ α 3 = .int .i64 (totS (ps.take i) : Nat) ∧ H' = H) ps.length ?_ ?_
  · exact ⟨0, by omega, by omega, by simp, by (first | (simp [put_at, put_none, fr0_at]; done) | rfl), by (first | (simp [put_at, put_none, fr0_at]; done) | rfl), by (first | (simp [put_at, put_none, fr0_at]; done) | rfl), rfl⟩
  rintro q α H' ⟨i, hi, hi21, hsm, h0, h4, h3, rfl⟩
  have hts : totS (ps.take i) ≤ 2000 * i := by
    have : ∀ l : List ByteArray, (∀ s ∈ l, s.size ≤ 2000) → totS l ≤ 2000 * l.length := by
      intro l
      induction l with
      | nil => intro _; simp [totS]
      | cons x l ih =>
        intro h
        have h1 := h x (by simp)
        have h2 := ih (fun s hs => h s (by simp [hs]))
        simp only [totS, List.map_cons, List.sum_cons, List.length_cons] at h2 ⊢
        omega
    have h1 := this _ hsm
    rw [List.length_take] at h1
    omega
  refine aw_seq ?_
  refine aw_seq ?_
  by_cases hlt : i < ps.length
  · (refine aw_ops (by kernel_rfl) (fun K hK => ?_); simp (disch := first | omega | (simp only [List.length_set, List.length_append, List.length_cons, List.length_nil, iv_length, zl_length]; try omega; done)) [-getElem?_pos, -getElem?_neg, h0, h4, -notTuple, hno, -xlen, hxl, hlt]; refine hK _ _ ?_; clear hK K)
    refine aw_t (by (first | (simp [eval_tmp, put_at]; done) | (simp [eval_tmp, put_at]; omega))) (by kernel_rfl) ?_
    refine aw_skip ?_
    refine aw_seq ?_
    refine aw_block ?_
    obtain ⟨s, hs⟩ : ∃ s, ps[i]? = some s := ⟨_, List.getElem?_eq_getElem hlt⟩
    have hmem := List.mem_of_getElem? hs
    have hs6 := hs63 s hmem
    have htk : ps.take (i + 1) = ps.take i ++ [s] := by rw [List.take_add_one, hs]; rfl
    have htt : totS (ps.take (i + 1)) = totS (ps.take i) + s.size := by rw [htk]; simp [totS]
    obtain ⟨p, hp1, hp2⟩ := hv.at_ i s hs
    have hgr : 2000 < s.size ∨ 20 < i → grJ ps = true := fun h => by
      unfold grJ
      rcases h with h | h
      · have : ps.any (fun s => decide (2000 < s.size)) = true := List.any_eq_true.2 ⟨s, hmem, by simpa using h⟩
        simp [this]
      · have : 21 < ps.length := by omega
        simp [this]
    refine aw_seq ?_
    refine aw_seq ?_
    by_cases h2 : 2000 < s.size
    · (refine aw_ops (by kernel_rfl) (fun K hK => ?_); simp (disch := first | omega | (simp only [List.length_set, List.length_append, List.length_cons, List.length_nil, iv_length, zl_length]; try omega; done)) [-getElem?_pos, -getElem?_neg, h0, h4, -notTuple, hno, -xindexAddr, hp1, -xload, hp2, h2]; refine hK _ _ ?_; clear hK K)
      refine aw_t (by (first | (simp [eval_tmp, put_at]; done) | (simp [eval_tmp, put_at]; omega))) (by kernel_rfl) ?_
      refine aw_seq ?_
      (refine aw_ops (by kernel_rfl) (fun K hK => ?_); simp (disch := first | omega | (simp only [List.length_set, List.length_append, List.length_cons, List.length_nil, iv_length, zl_length]; try omega; done)) [-getElem?_pos, -getElem?_neg]; refine hK _ _ ?_; clear hK K)
      (refine aw_ret ?_; simp (disch := first | omega | (simp only [List.length_set, List.length_append, List.length_cons, List.length_nil, iv_length, zl_length]; try omega; done)) [-getElem?_pos, -getElem?_neg, thenQ_ret, scopeQ_ret, inBlockQ_ret, RQ, resL, resV])
      exact hgr (.inl h2)
    by_cases h20 : 20 < i
    · (refine aw_ops (by kernel_rfl) (fun K hK => ?_); simp (disch := first | omega | (simp only [List.length_set, List.length_append, List.length_cons, List.length_nil, iv_length, zl_length]; try omega; done)) [-getElem?_pos, -getElem?_neg, h0, h4, -notTuple, hno, -xindexAddr, hp1, -xload, hp2, h2, h20]; refine hK _ _ ?_; clear hK K)
      refine aw_t (by (first | (simp [eval_tmp, put_at]; done) | (simp [eval_tmp, put_at]; omega))) (by kernel_rfl) ?_
      refine aw_seq ?_
      (refine aw_ops (by kernel_rfl) (fun K hK => ?_); simp (disch := first | omega | (simp only [List.length_set, List.length_append, List.length_cons, List.length_nil, iv_length, zl_length]; try omega; done)) [-getElem?_pos, -getElem?_neg]; refine hK _ _ ?_; clear hK K)
      (refine aw_ret ?_; simp (disch := first | omega | (simp only [List.length_set, List.length_append, List.length_cons, List.length_nil, iv_length, zl_length]; try omega; done)) [-getElem?_pos, -getElem?_neg, thenQ_ret, scopeQ_ret, inBlockQ_ret, RQ, resL, resV])
      exact hgr (.inr h20)
    (refine aw_ops (by kernel_rfl) (fun K hK => ?_); simp (disch := first | omega | (simp only [List.length_set, List.length_append, List.length_cons, List.length_nil, iv_length, zl_length]; try omega; done)) [-getElem?_pos, -getElem?_neg, h0, h4, -notTuple, hno, -xindexAddr, hp1, -xload, hp2, h2, h20]; refine hK _ _ ?_; clear hK K)
    refine aw_f (by (first | (simp [eval_tmp, put_at]; done) | (simp [eval_tmp, put_at]; omega))) (by kernel_rfl) ?_
    refine aw_skip ?_
    (refine aw_ops (by kernel_rfl) (fun K hK => ?_); simp (disch := first | omega | (simp only [List.length_set, List.length_append, List.length_cons, List.length_nil, iv_length, zl_length]; try omega; done)) [-getElem?_pos, -getElem?_neg, h0, h3, h4, -notTuple, hno, -xindexAddr, hp1, -xload, hp2]; refine hK _ _ ?_; clear hK K)
    (refine aw_ops (by kernel_rfl) (fun K hK => ?_); simp (disch := first | omega | (simp only [List.length_set, List.length_append, List.length_cons, List.length_nil, iv_length, zl_length]; try omega; done)) [-getElem?_pos, -getElem?_neg, h4]; refine hK _ _ ?_; clear hK K)
    refine ⟨q - 1, by omega, i + 1, by omega, by omega, fun x hx => ?_, by (first | (simp [put_at, put_none, fr0_at, h0]; done) | rfl), by (first | (simp [put_at, put_none, fr0_at]; done) | rfl), by (first | (simp [put_at, put_none, fr0_at, htt]; done) | rfl), rfl⟩
    rw [htk] at hx
    rcases List.mem_append.1 hx with hx | hx
    · exact hsm x hx
    · simp at hx
      subst hx
      omega
  · (refine aw_ops (by kernel_rfl) (fun K hK => ?_); simp (disch := first | omega | (simp only [List.length_set, List.length_append, List.length_cons, List.length_nil, iv_length, zl_length]; try omega; done)) [-getElem?_pos, -getElem?_neg, h0, h4, -notTuple, hno, -xlen, hxl, hlt]; refine hK _ _ ?_; clear hK K)
    refine aw_f (by (first | (simp [eval_tmp, put_at]; done) | (simp [eval_tmp, put_at]; omega))) (by kernel_rfl) ?_
    refine aw_exit ?_
    refine aw_seq ?_
    have hil : i = ps.length := by omega
    have hall : ps.take i = ps := List.take_of_length_le (by omega)
    rw [hall] at hsm h3
    have hg : grJ ps = decide (4000 < totS ps) := by
      unfold grJ
      have h1 : ps.any (fun s => decide (2000 < s.size)) = false := by
        rw [List.any_eq_false]
        intro x hx
        have := hsm x hx
        simpa using this
      have h2 : ¬ 21 < ps.length := by omega
      simp [h1, h2]
    rw [hg]
    (refine aw_ops (by kernel_rfl) (fun K hK => ?_); simp (disch := first | omega | (simp only [List.length_set, List.length_append, List.length_cons, List.length_nil, iv_length, zl_length]; try omega; done)) [-getElem?_pos, -getElem?_neg, h3]; refine hK _ _ ?_; clear hK K)
    (refine aw_ret ?_; simp (disch := first | omega | (simp only [List.length_set, List.length_append, List.length_cons, List.length_nil, iv_length, zl_length]; try omega; done)) [-getElem?_pos, -getElem?_neg, thenQ_ret, scopeQ_ret, inBlockQ_ret, RQ, resL, resV])
    omega
theorem same_rc {γ : Nat → Option Nat} {H : AH} {v w : Value} {ps qs : List ByteArray} (hv : StrV H v ps) (hw : StrV H w qs) (ha : ps.length ≤ 1000000) (hb : qs.length ≤ 1000000) :
    AC Tryd.prog H.length γ 19 #[v, w] H (fun v' _ => v' = .bool (decide (ps = qs))) := by
  have hno := hv.nt
  have hnw := hw.nt
  have hxl := hv.len
  have hxw := hw.len
  refine ac_of_aw Tryd.func19 rfl Tryd.ntmps19 Tryd.results19 (by simp) ?_
  refine aw_seq ?_
  (refine aw_ops (by kernel_rfl) (fun K hK => ?_); simp (disch := first | omega | (simp only [List.length_set, List.length_append, List.length_cons, List.length_nil, iv_length, zl_length]; try omega; done)) [-getElem?_pos, -getElem?_neg]; refine hK _ _ ?_; clear hK K)
  refine aw_seq ?_
  refine aw_seq ?_
  by_cases hl : ps.length = qs.length
  case neg =>
    (refine aw_ops (by kernel_rfl) (fun K hK => ?_); simp (disch := first | omega | (simp only [List.length_set, List.length_append, List.length_cons, List.length_nil, iv_length, zl_length]; try omega; done)) [-getElem?_pos, -getElem?_neg, -notTuple, hno, hnw, -xlen, hxl, hxw, hl]; refine hK _ _ ?_; clear hK K)
    refine aw_t (by (first | (simp [eval_tmp, put_at]; done) | (simp [eval_tmp, put_at]; omega))) (by kernel_rfl) ?_
    refine aw_seq ?_
    (refine aw_ops (by kernel_rfl) (fun K hK => ?_); simp (disch := first | omega | (simp only [List.length_set, List.length_append, List.length_cons, List.length_nil, iv_length, zl_length]; try omega; done)) [-getElem?_pos, -getElem?_neg]; refine hK _ _ ?_; clear hK K)
    have : ps ≠ qs := fun h => hl (by rw [h])
    (refine aw_ret ?_; simp (disch := first | omega | (simp only [List.length_set, List.length_append, List.length_cons, List.length_nil, iv_length, zl_length]; try omega; done)) [-getElem?_pos, -getElem?_neg, thenQ_ret, scopeQ_ret, inBlockQ_ret, RQ, resL, resV])
    exact this
  (refine aw_ops (by kernel_rfl) (fun K hK => ?_); simp (disch := first | omega | (simp only [List.length_set, List.length_append, List.length_cons, List.length_nil, iv_length, zl_length]; try omega; done)) [-getElem?_pos, -getElem?_neg, -notTuple, hno, hnw, -xlen, hxl, hxw, hl]; refine hK _ _ ?_; clear hK K)
  refine aw_f (by (first | (simp [eval_tmp, put_at]; done) | (simp [eval_tmp, put_at]; omega))) (by kernel_rfl) ?_
  refine aw_skip ?_
  refine aw_seq ?_
  refine aw_seq ?_
  (refine aw_ops (by kernel_rfl) (fun K hK => ?_); simp (disch := first | omega | (simp only [List.length_set, List.length_append, List.length_cons, List.length_nil, iv_length, zl_length]; try omega; done)) [-getElem?_pos, -getElem?_neg]; refine hK _ _ ?_; clear hK K)
  refine aw_block ?_
  refine aw_loop (fun q α H' => ∃ i : Nat, i + q = ps.length ∧ ps.take i = qs.take i ∧ α 0 = v ∧ α 1 = w ∧ α 5 = .int .i64 (i : Nat) ∧ H' = H) ps.length ?_ ?_
  · exact ⟨0, by omega, rfl, by (first | (simp [put_at, put_none, fr0_at]; done) | rfl), by (first | (simp [put_at, put_none, fr0_at]; done) | rfl), by (first | (simp [put_at, put_none, fr0_at]; done) | rfl), rfl⟩
  rintro q α H' ⟨i, hi, htk, h0, h1, h5, rfl⟩
  refine aw_seq ?_
  refine aw_seq ?_
  by_cases hlt : i < ps.length
  · (refine aw_ops (by kernel_rfl) (fun K hK => ?_); simp (disch := first | omega | (simp only [List.length_set, List.length_append, List.length_cons, List.length_nil, iv_length, zl_length]; try omega; done)) [-getElem?_pos, -getElem?_neg, h0, h5, -notTuple, hno, -xlen, hxl, hlt]; refine hK _ _ ?_; clear hK K)
    refine aw_t (by (first | (simp [eval_tmp, put_at]; done) | (simp [eval_tmp, put_at]; omega))) (by kernel_rfl) ?_
    refine aw_skip ?_
    refine aw_seq ?_
    refine aw_block ?_
    obtain ⟨s, hs⟩ : ∃ s, ps[i]? = some s := ⟨_, List.getElem?_eq_getElem hlt⟩
    obtain ⟨t, ht⟩ : ∃ t, qs[i]? = some t := ⟨_, List.getElem?_eq_getElem (by omega)⟩
    obtain ⟨p, hp1, hp2⟩ := hv.at_ i s hs
    obtain ⟨p', hp3, hp4⟩ := hw.at_ i t ht
    have hst : s.toList = t.toList ↔ s = t := ⟨fun h => by
      rw [ByteArray.toList_eq, ByteArray.toList_eq] at h
      exact ByteArray.ext (Array.toList_inj.1 h), fun h => by rw [h]⟩
    refine aw_seq ?_
    by_cases he : s = t
    · subst he
      (refine aw_quiet (by kernel_rfl) (by kernel_rfl) (by kernel_rfl) (fun K hK => ?_); simp (disch := first | omega | (simp only [List.length_set, List.length_append, List.length_cons, List.length_nil, iv_length, zl_length]; try omega; done)) [-getElem?_pos, -getElem?_neg, h0, h1, h5, -notTuple, hno, hnw, nt_strJ, nt_intJ, -xindexAddr, hp1, hp3, -xload, hp2, hp4]; refine hK _ ?_; clear hK K)
      refine aw_f (by (first | (simp [eval_tmp, put_at]; done) | (simp [eval_tmp, put_at]; omega))) (by kernel_rfl) ?_
      refine aw_skip ?_
      (refine aw_ops (by kernel_rfl) (fun K hK => ?_); simp (disch := first | omega | (simp only [List.length_set, List.length_append, List.length_cons, List.length_nil, iv_length, zl_length]; try omega; done)) [-getElem?_pos, -getElem?_neg, h5]; refine hK _ _ ?_; clear hK K)
      refine ⟨q - 1, by omega, i + 1, by omega, ?_, by (first | (simp [put_at, put_none, fr0_at, h0]; done) | rfl), by (first | (simp [put_at, put_none, fr0_at, h1]; done) | rfl), by (first | (simp [put_at, put_none, fr0_at]; done) | rfl), rfl⟩
      rw [List.take_add_one, List.take_add_one, htk, hs, ht]
    · have hne : (s.toList == t.toList) = false := by
        rw [beq_eq_false_iff_ne]
        exact fun h => he (hst.1 h)
      have hne2 : ¬ s.toList = t.toList := fun h => he (hst.1 h)
      (refine aw_quiet (by kernel_rfl) (by kernel_rfl) (by kernel_rfl) (fun K hK => ?_); simp (disch := first | omega | (simp only [List.length_set, List.length_append, List.length_cons, List.length_nil, iv_length, zl_length]; try omega; done)) [-getElem?_pos, -getElem?_neg, h0, h1, h5, -notTuple, hno, hnw, nt_strJ, nt_intJ, -xindexAddr, hp1, hp3, -xload, hp2, hp4, hne, hne2]; refine hK _ ?_; clear hK K)
      refine aw_t (by (first | (simp [eval_tmp, put_at]; done) | (simp [eval_tmp, put_at]; omega))) (by kernel_rfl) ?_
      refine aw_seq ?_
      (refine aw_ops (by kernel_rfl) (fun K hK => ?_); simp (disch := first | omega | (simp only [List.length_set, List.length_append, List.length_cons, List.length_nil, iv_length, zl_length]; try omega; done)) [-getElem?_pos, -getElem?_neg]; refine hK _ _ ?_; clear hK K)
      have : ps ≠ qs := fun h => by
        rw [h, ht] at hs
        exact he (Option.some.inj hs).symm
      (refine aw_ret ?_; simp (disch := first | omega | (simp only [List.length_set, List.length_append, List.length_cons, List.length_nil, iv_length, zl_length]; try omega; done)) [-getElem?_pos, -getElem?_neg, thenQ_ret, scopeQ_ret, inBlockQ_ret, RQ, resL, resV])
      exact this
  · (refine aw_ops (by kernel_rfl) (fun K hK => ?_); simp (disch := first | omega | (simp only [List.length_set, List.length_append, List.length_cons, List.length_nil, iv_length, zl_length]; try omega; done)) [-getElem?_pos, -getElem?_neg, h0, h5, -notTuple, hno, -xlen, hxl, hlt]; refine hK _ _ ?_; clear hK K)
    refine aw_f (by (first | (simp [eval_tmp, put_at]; done) | (simp [eval_tmp, put_at]; omega))) (by kernel_rfl) ?_
    refine aw_exit ?_
    refine aw_seq ?_
    (refine aw_ops (by kernel_rfl) (fun K hK => ?_); simp (disch := first | omega | (simp only [List.length_set, List.length_append, List.length_cons, List.length_nil, iv_length, zl_length]; try omega; done)) [-getElem?_pos, -getElem?_neg]; refine hK _ _ ?_; clear hK K)
    have : ps = qs := by
      rw [List.take_of_length_le (by omega), List.take_of_length_le (by omega)] at htk
      exact htk
    (refine aw_ret ?_; simp (disch := first | omega | (simp only [List.length_set, List.length_append, List.length_cons, List.length_nil, iv_length, zl_length]; try omega; done)) [-getElem?_pos, -getElem?_neg, thenQ_ret, scopeQ_ret, inBlockQ_ret, RQ, resL, resV])
    exact this
end

section
open Go Go.RowKit
set_option linter.unusedSimpArgs false
set_option linter.unusedVariables false
set_option maxRecDepth 100000
set_option maxHeartbeats 4000000

theorem OwnG.part {H : AH} {v : Value} {cells : List Value} {F : List Nat} (h : OwnG H v cells F) : Part H H.length v cells :=
  ⟨h.shape, fun G hg => h.cells G (fun j hj => hg j (h.lt j hj))⟩
attribute [local simp] wb_bool wb_undef XL_nil XL_cons XLc_val XLc_call step1_eq stepW_t stepW_f stepC_n stepC_s stepX_s stepX_n stepN_s calleeX oneV xop_eq xopR_s xopR_n wantedA_eq wantedG_n wantedG_s plain1_int plain1_bool plain1_string bits_i64 bits_u64 bits_u32 bits_u16 bits_u8 xeqA xagg xcmp xarr allK_iv num_iv calleeOf xread xeff xbin xint xnil xun xstr xload xconv xpart xfield xfieldAddr xindexAddr xindex bnd asInt? xslice xlen xmin xmax xbuild xfill xappend xapp2 xappstr xappmk xcap xcopy xcells eval_tmp eval_const put_at put_none fr0_at cells_agg cells_int cells_bool cells_string cells_ptr cells_slice notTuple tab iv_all hget_app hget_app0 hget_cons0 hget_cons set_app set_app0 setR setR_one QL_nil QL_cons QLc_val stepQ_t stepQ_f stepQC_n stepQC_s stepQX_s SL_nil SL_cons SLc_val stepS_t stepS_f ltT ltF leT leF eqT eqF ltTn ltFn leTn leFn eqTn eqFn beqT beqF bneT bneF wi64 wu64 wu32 wu16 wu8 tmodP tdivP hgetL hgetNe hgetEq setL nums_def nums_len Nat.succ_le_of_lt List.getElem?_cons_zero List.getElem?_cons_succ Option.getD_some Int.toNat_add Int.toNat_mul agB agI agS agP agL agA okB okI okS okP okSl okA
theorem records_ac {nro : Nat} {γ : Nat → Option Nat} {H : AH} (hnl : nro ≤ H.length) {q d : Nat} {rv : Value} {FD FR : List Nat} {J : JM} (h : JrR H q d rv FD FR J) (hl : J.recs.length ≤ 1000000) :
    AC Tryd.prog nro γ 15 #[.pointer (some ⟨q, 0, none⟩)] H (fun v' H' => Part H' H'.length v' (J.recs.map .string) ∧ H.length ≤ H'.length ∧ ∀ j, j < H.length → hget H' j = hget H j) := by
  have hq := h.hq
  have hp := h.hr.part
  have hsh := h.hr.nt
  refine ac_of_aw Tryd.func15 rfl Tryd.ntmps15 Tryd.results15 (by simp) ?_
  refine aw_seq ?_
  (refine aw_ops (by kernel_rfl) (fun K hK => ?_); simp (disch := first | omega | (simp only [List.length_set, List.length_append, List.length_cons, List.length_nil, iv_length, zl_length]; try omega; done)) [-getElem?_pos, -getElem?_neg]; refine hK _ _ ?_; clear hK K)
  refine aw_seq ?_
  refine aw_seq ?_
  (refine aw_ops (by kernel_rfl) (fun K hK => ?_); simp (disch := first | omega | (simp only [List.length_set, List.length_append, List.length_cons, List.length_nil, iv_length, zl_length]; try omega; done)) [-getElem?_pos, -getElem?_neg]; refine hK _ _ ?_; clear hK K)
  refine aw_f (by (first | (simp [eval_tmp, put_at]; done) | (simp [eval_tmp, put_at]; omega))) (by kernel_rfl) ?_
  refine aw_skip ?_
  refine aw_seq ?_
  refine aw_ops (by kernel_rfl) (fun K hK => ?_)
  simp (disch := first | omega | (simp only [List.length_set, List.length_append, List.length_cons, List.length_nil, iv_length, zl_length]; try omega; done)) [-getElem?_pos, -getElem?_neg, hq, -notTuple, hsh.1]
  refine ⟨by kernel_rfl, AC.mono (clone_ac (nro := nro) hp (by simpa using hl) hnl) ?_⟩
  rintro v1 G ⟨h1, h2, h3⟩
  have hn := h1.nt
  try simp (disch := first | omega | (simp only [List.length_set, List.length_append, List.length_cons, List.length_nil, iv_length, zl_length]; try omega; done)) [-getElem?_pos, -getElem?_neg, -notTuple, hn]
  refine hK _ _ ?_; clear hK K
  (refine aw_ret ?_; simp (disch := first | omega | (simp only [List.length_set, List.length_append, List.length_cons, List.length_nil, iv_length, zl_length]; try omega; done)) [-getElem?_pos, -getElem?_neg, thenQ_ret, scopeQ_ret, inBlockQ_ret, RQ, resL, resV, -notTuple, hn])
  exact ⟨h1, h3⟩
theorem records_nil {nro : Nat} {γ : Nat → Option Nat} {H : AH} : AC Tryd.prog nro γ 15 #[.pointer none] H (fun v' H' => v' = .slice none 0 0 ∧ H' = H) := by
  refine ac_of_aw Tryd.func15 rfl Tryd.ntmps15 Tryd.results15 (by simp) ?_
  refine aw_seq ?_
  (refine aw_ops (by kernel_rfl) (fun K hK => ?_); simp (disch := first | omega | (simp only [List.length_set, List.length_append, List.length_cons, List.length_nil, iv_length, zl_length]; try omega; done)) [-getElem?_pos, -getElem?_neg]; refine hK _ _ ?_; clear hK K)
  refine aw_seq ?_
  refine aw_seq ?_
  (refine aw_ops (by kernel_rfl) (fun K hK => ?_); simp (disch := first | omega | (simp only [List.length_set, List.length_append, List.length_cons, List.length_nil, iv_length, zl_length]; try omega; done)) [-getElem?_pos, -getElem?_neg]; refine hK _ _ ?_; clear hK K)
  refine aw_t (by (first | (simp [eval_tmp, put_at]; done) | (simp [eval_tmp, put_at]; omega))) (by kernel_rfl) ?_
  refine aw_seq ?_
  (refine aw_ops (by kernel_rfl) (fun K hK => ?_); simp (disch := first | omega | (simp only [List.length_set, List.length_append, List.length_cons, List.length_nil, iv_length, zl_length]; try omega; done)) [-getElem?_pos, -getElem?_neg]; refine hK _ _ ?_; clear hK K)
  (refine aw_ret ?_; simp (disch := first | omega | (simp only [List.length_set, List.length_append, List.length_cons, List.length_nil, iv_length, zl_length]; try omega; done)) [-getElem?_pos, -getElem?_neg, thenQ_ret, scopeQ_ret, inBlockQ_ret, RQ, resL, resV])
end

section
open Go Go.RowKit
set_option linter.unusedSimpArgs false
set_option linter.unusedVariables false
set_option maxRecDepth 100000
set_option maxHeartbeats 4000000

/-- These records are on the disk, in an area, under a mark. -/
structure Holds (D : DM) (a : Nat) (recs : List ByteArray) : Prop where
  three : 3 ≤ D.firm.length
  most : D.firm.length ≤ 1024
  area : a ≤ 1
  mark : firstL D = markL a (textsB recs).length
  room : (textsB recs).length ≤ (D.firm.length - 1) / 2 * 256
  data : (catK D.late (1 + a * ((D.firm.length - 1) / 2)) ((D.firm.length - 1) / 2)).take (textsB recs).length = textsB recs
  small : ∀ s ∈ recs, s.size ≤ 60000
theorem open_holds {D : DM} {a : Nat} {recs : List ByteArray} (h : Holds D a recs) : openJ D = (some ⟨D, recs, a, (textsB recs).length⟩, 0) := by
  have h1 := h.three
  have h2 := h.most
  have h3 := h.area
  have h4 := h.room
  have hn : (textsB recs).length < 4294967296 := by omega
  unfold openJ
  rw [if_neg (by omega), h.mark, if_neg mark_ne, isMark_mark (by omega) hn, mArea_mark (by omega), mSize_mark hn, if_neg (by simp; omega)]
  have hb : JM.bytes ⟨D, [], a, (textsB recs).length⟩ = textsB recs := h.data
  rw [hb, recs_back recs [] _ h.small (Nat.le_refl _)]
  rfl
/-- A disk whose first sector is blank: no records. -/
theorem open_blank {D : DM} (h1 : 3 ≤ D.firm.length) (h : firstL D = zl 64) : openJ D = (some ⟨D, [], 0, 0⟩, 0) := by
  unfold openJ
  rw [if_neg (by omega), if_pos h]
end

section
open Go Go.RowKit
set_option linter.unusedSimpArgs false
set_option linter.unusedVariables false

structure DM.Well (D : DM) : Prop where
  fuse : D.fuse = -1
  dead : D.dead = false
theorem write_well {D : DM} (h : D.Well) {at_ : Int} {t : ByteArray} (hok : okW D at_ t = true) : D.write at_ t = D.put at_ t ∧ D.writeV at_ t = 0 ∧ (D.put at_ t).Well := by
  have h1 := h.fuse
  have h2 := h.dead
  unfold DM.write DM.writeV DM.burn DM.burnV DM.put
  refine ⟨?_, ?_, ⟨h1, h2⟩⟩
  · simp [hok, h1, h2]
  · simp [hok, h1, h2]
theorem sync_well {D : DM} (h : D.Well) : D.sync = { D with firm := D.late, uns := [] } ∧ D.syncV = 0 ∧ (DM.Well { D with firm := D.late, uns := [] }) := by
  have h1 := h.fuse
  have h2 := h.dead
  unfold DM.sync DM.syncV DM.burnV DM.burn
  refine ⟨?_, ?_, ⟨h1, h2⟩⟩
  · simp [h1, h2]
  · simp [h1, h2]
theorem put_late (D : DM) (at_ : Int) (t : ByteArray) : (D.put at_ t).late = D.late.set at_.toNat t := late_app _ _ _
theorem crash_well {D : DM} (h : D.Well) (hu : D.uns = []) (ks : List Int) : D.crash ks = D := by
  have h1 := h.fuse
  have h2 := h.dead
  cases D with
  | mk firm uns fuse dead =>
    simp only at h1 h2 hu
    subst h1 h2 hu
    simp [DM.crash, crF]
theorem settled_late {D : DM} (hu : D.uns = []) : D.late = D.firm := by
  unfold DM.late
  rw [hu]
  rfl
end

section
open Go Go.RowKit
set_option linter.unusedSimpArgs false
set_option linter.unusedVariables false

def DM.puts (D : DM) (ps : List (Nat × List Int)) : DM := ps.foldl (fun D p => D.put (p.1 : Nat) (strOfNums p.2)) D
theorem puts_app (D : DM) (ps : List (Nat × List Int)) (p : Nat × List Int) : D.puts (ps ++ [p]) = (D.puts ps).put (p.1 : Nat) (strOfNums p.2) := by
  unfold DM.puts
  rw [List.foldl_append]
  rfl
theorem puts_firm (D : DM) (ps : List (Nat × List Int)) : (D.puts ps).firm = D.firm := by
  unfold DM.puts
  induction ps generalizing D with
  | nil => rfl
  | cons p ps ih => rw [List.foldl_cons, ih]; rfl
theorem puts_late (D : DM) (A : Nat) (Y : List Int) : ∀ k, A + k ≤ D.firm.length → ∀ j, (D.puts (pgL A Y k)).late.getD j ⟨#[]⟩ = if A ≤ j ∧ j < A + k then strOfNums (fillB ((Y.drop (256 * (j - A))).take 256)) else D.late.getD j ⟨#[]⟩
  | 0, _, j => by
    rw [if_neg (by omega)]
    rfl
  | k + 1, h, j => by
    have ih := puts_late D A Y k (by omega) j
    have hl : (D.puts (pgL A Y k)).late.length = D.firm.length := by
      unfold DM.late
      rw [late_len, puts_firm]
    rw [show pgL A Y (k + 1) = pgL A Y k ++ [(A + k, fillB ((Y.drop (256 * k)).take 256))] from rfl, puts_app, put_late]
    simp only [Int.toNat_natCast]
    by_cases hj : j = A + k
    · subst hj
      rw [if_pos (by omega), List.getD_eq_getElem?_getD, List.getElem?_set_self (by omega)]
      simp
    · rw [List.getD_eq_getElem?_getD, List.getElem?_set_ne (Ne.symm hj), ← List.getD_eq_getElem?_getD, ih]
      by_cases h1 : A ≤ j ∧ j < A + k
      · rw [if_pos h1, if_pos (by omega)]
      · rw [if_neg h1, if_neg (by omega)]
end

section
open Go Go.RowKit
set_option linter.unusedSimpArgs false
set_option linter.unusedVariables false
set_option maxRecDepth 100000
set_option maxHeartbeats 4000000

abbrev Pgs := List (Nat × List Int)
def wrAll (D : DM) : Pgs → DM × Int
  | [] => (D, 0)
  | p :: ps => if D.writeV (p.1 : Nat) (strOfNums p.2) = 0 then wrAll (D.write (p.1 : Nat) (strOfNums p.2)) ps else (D.write (p.1 : Nat) (strOfNums p.2), D.writeV (p.1 : Nat) (strOfNums p.2))
theorem wrAll_snoc (p : Nat × List Int) : ∀ (l : Pgs) (D : DM), wrAll D (l ++ [p]) = if (wrAll D l).2 = 0 then ((wrAll D l).1.write (p.1 : Nat) (strOfNums p.2), (wrAll D l).1.writeV (p.1 : Nat) (strOfNums p.2)) else wrAll D l
  | [], D => by
    simp only [List.nil_append, wrAll, if_true]
    split
    · rename_i h; rw [h]
    · rfl
  | q :: l, D => by
    simp only [List.cons_append, wrAll]
    split
    · exact wrAll_snoc p l _
    · rename_i h
      simp [h]
theorem wrAll_stop : ∀ (l : Pgs) (D : DM) (i : Nat), (wrAll D (l.take i)).2 ≠ 0 → wrAll D l = wrAll D (l.take i)
  | [], D, i, h => by simp
  | q :: l, D, 0, h => by simp [wrAll] at h
  | q :: l, D, i + 1, h => by
    simp only [List.take_succ_cons, wrAll] at h ⊢
    split
    · rename_i h0
      rw [if_pos h0] at h
      exact wrAll_stop l _ i h
    · rfl
def wrSync (D : DM) (ps : Pgs) : DM × Int := if (wrAll D ps).2 = 0 then ((wrAll D ps).1.sync, (wrAll D ps).1.syncV) else wrAll D ps
def commitR (D : DM) (ps ms : Pgs) : DM × Int := if (wrSync D ps).2 = 0 then wrSync (wrSync D ps).1 ms else wrSync D ps
theorem write_few (D : DM) (a : Int) (t : ByteArray) : (D.write a t).uns.length ≤ D.uns.length + 1 := by
  unfold DM.write
  split
  · rw [burn_uns]; simp [DM.put]
  · omega
theorem sync_few (D : DM) : D.sync.uns.length ≤ D.uns.length := by
  unfold DM.sync
  split
  · exact Nat.le_refl _
  · split
    · simp
    · rw [burn_uns]; exact Nat.le_refl _
theorem wrAll_few : ∀ (l : Pgs) (D : DM), (wrAll D l).1.uns.length ≤ D.uns.length + l.length
  | [], D => by simp [wrAll]
  | q :: l, D => by
    have h1 := write_few D (q.1 : Nat) (strOfNums q.2)
    simp only [wrAll, List.length_cons]
    split
    · have := wrAll_few l (D.write (q.1 : Nat) (strOfNums q.2))
      omega
    · show (D.write (q.1 : Nat) (strOfNums q.2)).uns.length ≤ _
      omega
theorem wrSync_few (D : DM) (l : Pgs) : (wrSync D l).1.uns.length ≤ D.uns.length + l.length := by
  have := wrAll_few l D
  unfold wrSync
  split
  · have := sync_few (wrAll D l).1
    show (wrAll D l).1.sync.uns.length ≤ _
    omega
  · exact this

/-- How far a commit is: nothing yet, the pages settled, all settled. -/
def StC (D : DM) (ps ms : Pgs) (k : Nat) (Dk : DM) : Prop := if k = 0 then Dk = D else if k = 1 then wrSync D ps = (Dk, 0) else commitR D ps ms = (Dk, 0)
def pgK (ps ms : Pgs) (k : Nat) : Pgs := if k = 0 then ps else ms
theorem st_next {D Dk : DM} {ps ms : Pgs} {k : Nat} (hk : k < 2) (h : StC D ps ms k Dk) : ((wrSync Dk (pgK ps ms k)).2 ≠ 0 → commitR D ps ms = wrSync Dk (pgK ps ms k)) ∧ ((wrSync Dk (pgK ps ms k)).2 = 0 → StC D ps ms (k + 1) (wrSync Dk (pgK ps ms k)).1) := by
  have : k = 0 ∨ k = 1 := by omega
  rcases this with rfl | rfl
  · have h : Dk = D := h
    subst h
    simp only [pgK, if_true]
    refine ⟨fun h => by unfold commitR; rw [if_neg h], fun h => ?_⟩
    show wrSync Dk ps = _
    rw [← h]
  · have h : wrSync D ps = (Dk, 0) := h
    have e : commitR D ps ms = wrSync Dk ms := by unfold commitR; rw [h]; rfl
    have e2 : pgK ps ms 1 = ms := rfl
    rw [e2]
    refine ⟨fun _ => e, fun h => ?_⟩
    show commitR D ps ms = _
    rw [e, ← h]
theorem st_few {D Dk : DM} {ps ms : Pgs} {k : Nat} (hk : k < 2) (h : StC D ps ms k Dk) : Dk.uns.length + (pgK ps ms k).length ≤ D.uns.length + ps.length + ms.length := by
  have : k = 0 ∨ k = 1 := by omega
  rcases this with rfl | rfl
  · have h : Dk = D := h
    subst h
    simp only [pgK, if_true]
    omega
  · have h : wrSync D ps = (Dk, 0) := h
    have := wrSync_few D ps
    rw [h] at this
    have e2 : pgK ps ms 1 = ms := rfl
    rw [e2]
    show Dk.uns.length + ms.length ≤ _
    simp only at this
    omega
theorem wrAll_fail {D Di : DM} {l : Pgs} {i : Nat} {p : Nat × List Int} (hp : l[i]? = some p) (h : wrAll D (l.take i) = (Di, 0)) (he : Di.writeV (p.1 : Nat) (strOfNums p.2) ≠ 0) : wrSync D l = (Di.write (p.1 : Nat) (strOfNums p.2), Di.writeV (p.1 : Nat) (strOfNums p.2)) := by
  have e : wrAll D (l.take (i + 1)) = (Di.write (p.1 : Nat) (strOfNums p.2), Di.writeV (p.1 : Nat) (strOfNums p.2)) := by
    rw [List.take_add_one, hp, Option.toList_some, wrAll_snoc, h]
    rfl
  have e2 := wrAll_stop l D (i + 1) (by rw [e]; exact he)
  rw [e] at e2
  unfold wrSync
  rw [e2, if_neg he]
theorem wrAll_on {D Di : DM} {l : Pgs} {i : Nat} {p : Nat × List Int} (hp : l[i]? = some p) (h : wrAll D (l.take i) = (Di, 0)) (he : Di.writeV (p.1 : Nat) (strOfNums p.2) = 0) : wrAll D (l.take (i + 1)) = (Di.write (p.1 : Nat) (strOfNums p.2), 0) := by
  rw [List.take_add_one, hp, Option.toList_some, wrAll_snoc, h]
  simp [he]
attribute [local simp] wb_bool wb_undef XL_nil XL_cons XLc_val XLc_call step1_eq stepW_t stepW_f stepC_n stepC_s stepX_s stepX_n stepN_s calleeX oneV xop_eq xopR_s xopR_n wantedA_eq wantedG_n wantedG_s plain1_int plain1_bool plain1_string bits_i64 bits_u64 bits_u32 bits_u16 bits_u8 xeqA xagg xcmp xarr allK_iv num_iv calleeOf xread xeff xbin xint xnil xun xstr xload xconv xpart xfield xfieldAddr xindexAddr xindex bnd asInt? xslice xlen xmin xmax xbuild xfill xappend xapp2 xappstr xappmk xcap xcopy xcells eval_tmp eval_const put_at put_none fr0_at cells_agg cells_int cells_bool cells_string cells_ptr cells_slice notTuple tab iv_all hget_app hget_app0 hget_cons0 hget_cons set_app set_app0 setR setR_one QL_nil QL_cons QLc_val stepQ_t stepQ_f stepQC_n stepQC_s stepQX_s SL_nil SL_cons SLc_val stepS_t stepS_f ltT ltF leT leF eqT eqF ltTn ltFn leTn leFn eqTn eqFn beqT beqF bneT bneF wi64 wu64 wu32 wu16 wu8 tmodP tdivP hgetL hgetNe hgetEq setL nums_def nums_len Nat.succ_le_of_lt List.getElem?_cons_zero List.getElem?_cons_succ Option.getD_some Int.toNat_add Int.toNat_mul agB agI agS agP agL agA okB okI okS okP okSl okA
/-- A slice that shows pages, as long as X stays. -/
structure PgV (G : AH) (v : Value) (ps : Pgs) (X : List Nat) : Prop where
  nt : notTuple v = true
  len : xlen Tryd.prog 116 v = some (.int .i64 ps.length)
  at_ : ∀ (i : Nat) (p : Nat × List Int), ps[i]? = some p → ∃ pa, xindexAddr Tryd.prog 116 v (.int .i64 (i : Nat)) = some pa ∧
    ∀ G' : AH, (∀ j ∈ X, hget G' j = hget G j) → xload Tryd.prog 115 pa G' = some (.agg #[.int .i64 (p.1 : Nat), .string (strOfNums p.2)])
theorem PgV.low {G G' : AH} {v : Value} {ps : Pgs} {X : List Nat} (h : PgV G v ps X) (hl : ∀ j ∈ X, hget G' j = hget G j) : PgV G' v ps X :=
  ⟨h.nt, h.len, fun i p hp => let ⟨pa, h1, h2⟩ := h.at_ i p hp; ⟨pa, h1, fun G'' hg => h2 G'' (fun j hj => (hg j hj).trans (hl j hj))⟩⟩
theorem pgC_at {ps : Pgs} : ∀ {i : Nat} {p : Nat × List Int}, ps[i]? = some p → ((pgC ps).drop (i * 2)).take 2 = pgV p := by
  induction ps with
  | nil => intro i p h; simp at h
  | cons q ps ih =>
    intro i p h
    have e : pgC (q :: ps) = pgV q ++ pgC ps := by simp [pgC]
    rw [e]
    cases i with
    | zero =>
      simp at h
      subst h
      simp [pgV]
    | succ i =>
      have hl : (pgV q).length = 2 := rfl
      rw [show (i + 1) * 2 = (pgV q).length + i * 2 by rw [hl]; omega, List.drop_append, List.drop_of_length_le (by omega), List.nil_append, show (pgV q).length + i * 2 - (pgV q).length = i * 2 by omega]
      exact ih (by simpa using h)
theorem OwnF.pgs {G : AH} {v : Value} {ps : Pgs} {F : List Nat} (h : OwnF G v 115 2 (pgC ps) F) : PgV G v ps F := by
  rcases h with ⟨rfl, hc, rfl⟩ | ⟨j, len, rfl, h2, h3, rfl⟩
  · have : ps = [] := by
      have := pgC_len ps
      rw [hc] at this
      simp at this
      exact List.length_eq_zero_iff.1 (by omega)
    subst this
    exact ⟨rfl, by simp [xlen], fun i p hp => by simp at hp⟩
  · rw [pgC_len] at h3
    have hlen : len = ps.length := by omega
    subst hlen
    refine ⟨rfl, by simp [xlen], fun i p hp => ⟨.pointer (some ⟨j, 0 + i * 2, none⟩), ?_, fun G' hg => ?_⟩⟩
    · have := (List.getElem?_eq_some_iff.1 hp).1
      simp [xindexAddr, this]
    · have hi := (List.getElem?_eq_some_iff.1 hp).1
      have hle : 0 + i * 2 + 2 ≤ (pgC ps).length := by rw [pgC_len]; omega
      have := pgC_at hp
      simp only [xload, hg j (by simp), h2]
      simp [this, pgV, pgC_len]
      omega
end

section
open Go Go.RowKit
set_option linter.unusedSimpArgs false
set_option linter.unusedVariables false
set_option maxRecDepth 100000
set_option maxHeartbeats 4000000

/-- What stands while a commit goes on: the journal over the disk Dk, the two rows of pages. -/
structure CmS (H G : AH) (q d : Nat) (rv : Value) (FD FR : List Nat) (J : JM) (Dk : DM) (jb : Nat) (v1 v2 : Value) (X : List Nat) (ps ms : Pgs) : Prop where
  jr : ∃ FDk, JrR G q d rv FDk FR { J with D := Dk } ∧ Fr H G (q :: (FD ++ FR)) (q :: (FDk ++ FR)) ∧ ∀ j ∈ FDk, j ∉ jb :: X
  two : hget G jb = some ⟨[v1, v2], 116, some 1⟩
  p1 : PgV G v1 ps X
  p2 : PgV G v2 ms X
  new : ∀ j ∈ jb :: X, H.length ≤ j ∧ j < G.length
theorem CmS.low {H G G' : AH} {q d : Nat} {rv : Value} {FD FR : List Nat} {J : JM} {Dk : DM} {jb : Nat} {v1 v2 : Value} {X : List Nat} {ps ms : Pgs} (h : CmS H G q d rv FD FR J Dk jb v1 v2 X ps ms) (hl : Low G.length G G') : CmS H G' q d rv FD FR J Dk jb v1 v2 X ps ms := by
  obtain ⟨FDk, h1, h2, h3⟩ := h.jr
  have hlt : ∀ j ∈ q :: (FDk ++ FR), j < G.length := fun j hj => by
    simp only [List.mem_cons, List.mem_append] at hj
    rcases hj with rfl | hj | hj
    · exact hget_lt h1.hq
    · exact h1.hd.lt j hj
    · exact h1.hr.lt j hj
  refine ⟨⟨FDk, h1.low (fun j hj => hl.1 j (hlt j hj)) hl.2, h2.trans ⟨hl.2, fun j hj _ => hl.1 j hj, fun j hj => .inl hj⟩, h3⟩, (hl.1 jb (h.new jb (by simp)).2).trans h.two, h.p1.low (fun j hj => hl.1 j (h.new j (by simp [hj])).2), h.p2.low (fun j hj => hl.1 j (h.new j (by simp [hj])).2), fun j hj => ⟨(h.new j hj).1, Nat.lt_of_lt_of_le (h.new j hj).2 hl.2⟩⟩
/-- Behind what turned the disk. -/
theorem JrR.turn {G G' : AH} {q d : Nat} {rv : Value} {FD FR FD' : List Nat} {J : JM} {D' : DM} (h : JrR G q d rv FD FR J) (hd : Dk G' d FD' D') (hf : Fr G G' FD FD') : JrR G' q d rv FD' FR { J with D := D' } := by
  have hql := hget_lt h.hq
  refine ⟨(hf.out q hql h.qd).trans h.hq, hd, h.hr.low (fun j hj => hf.out j (h.hr.lt j hj) (fun hm => h.dr j hm hj)) hf.len, fun hm => ?_, h.qr, fun j hj hm => ?_⟩
  · rcases hf.new q hm with h1 | h1
    · exact h.qd h1
    · omega
  · rcases hf.new j hj with h1 | h1
    · exact h.dr j h1 hm
    · have := h.hr.lt j hm
      omega
theorem fr_wide {G G' : AH} {q : Nat} {FD FD' FR : List Nat} (hf : Fr G G' FD FD') : Fr G G' (q :: (FD ++ FR)) (q :: (FD' ++ FR)) := by
  refine ⟨hf.len, fun j hj hn => hf.out j hj (fun hm => hn (by simp [hm])), fun j hj => ?_⟩
  simp only [List.mem_cons, List.mem_append] at hj ⊢
  rcases hj with h | h | h
  · exact .inl (.inl h)
  · rcases hf.new j h with h | h
    · exact .inl (.inr (.inl h))
    · exact .inr h
  · exact .inl (.inr (.inr h))
theorem CmS.turn {H G G' : AH} {q d : Nat} {rv : Value} {FD FR : List Nat} {J : JM} {Dk D' : DM} {jb : Nat} {v1 v2 : Value} {X FDk FD' : List Nat} {ps ms : Pgs} (h : CmS H G q d rv FD FR J Dk jb v1 v2 X ps ms)
    (h1 : JrR G q d rv FDk FR { J with D := Dk }) (h2 : Fr H G (q :: (FD ++ FR)) (q :: (FDk ++ FR))) (h3 : ∀ j ∈ FDk, j ∉ jb :: X) (hd : _root_.Go.Proofs.YtgamobjfeaeddaaDoor.Dk G' d FD' D') (hf : Fr G G' FDk FD') : CmS H G' q d rv FD FR J D' jb v1 v2 X ps ms := by
  have keep : ∀ j ∈ jb :: X, hget G' j = hget G j := fun j hj => hf.out j (h.new j hj).2 (fun hm => h3 j hm hj)
  refine ⟨⟨FD', h1.turn hd hf, h2.trans (fr_wide hf), fun j hj hm => ?_⟩, (keep jb (by simp)).trans h.two, h.p1.low (fun j hj => keep j (by simp [hj])), h.p2.low (fun j hj => keep j (by simp [hj])), fun j hj => ⟨(h.new j hj).1, Nat.lt_of_lt_of_le (h.new j hj).2 hf.len⟩⟩
  rcases hf.new j hj with h4 | h4
  · exact h3 j h4 hm
  · have := (h.new j hm).2
    omega
attribute [local irreducible] markL pgL fillB commitR JM.pages
attribute [local simp] wb_bool wb_undef XL_nil XL_cons XLc_val XLc_call step1_eq stepW_t stepW_f stepC_n stepC_s stepX_s stepX_n stepN_s calleeX oneV xop_eq xopR_s xopR_n wantedA_eq wantedG_n wantedG_s plain1_int plain1_bool plain1_string bits_i64 bits_u64 bits_u32 bits_u16 bits_u8 xeqA xagg xcmp xarr allK_iv num_iv calleeOf xread xeff xbin xint xnil xun xstr xload xconv xpart xfield xfieldAddr xindexAddr xindex bnd asInt? xslice xlen xmin xmax xbuild xfill xappend xapp2 xappstr xappmk xcap xcopy xcells eval_tmp eval_const put_at put_none fr0_at cells_agg cells_int cells_bool cells_string cells_ptr cells_slice notTuple tab iv_all hget_app hget_app0 hget_cons0 hget_cons set_app set_app0 setR setR_one QL_nil QL_cons QLc_val stepQ_t stepQ_f stepQC_n stepQC_s stepQX_s SL_nil SL_cons SLc_val stepS_t stepS_f ltT ltF leT leF eqT eqF ltTn ltFn leTn leFn eqTn eqFn beqT beqF bneT bneF wi64 wu64 wu32 wu16 wu8 tmodP tdivP hgetL hgetNe hgetEq setL nums_def nums_len Nat.succ_le_of_lt List.getElem?_cons_zero List.getElem?_cons_succ Option.getD_some Int.toNat_add Int.toNat_mul agB agI agS agP agL agA okB okI okS okP okSl okA
theorem nt_ptrJ (a : Option Addr) : notTuple (.pointer a) = true := rfl
theorem one_pg {G : AH} {j : Nat} {p : Nat × List Int} (h : hget G j = some ⟨pgV p, 115, some 2⟩) : PgV G (.slice (some ⟨j, 0, none⟩) 1 1) [p] [j] :=
  OwnF.pgs (.inr ⟨j, 1, rfl, by rw [h]; simp [pgC], by simp [pgC, pgV], rfl⟩)
theorem PgV.wide {G : AH} {v : Value} {ps : Pgs} {X Y : List Nat} (h : PgV G v ps X) (hs : ∀ j ∈ X, j ∈ Y) : PgV G v ps Y :=
  ⟨h.nt, h.len, fun i p hp => let ⟨pa, h1, h2⟩ := h.at_ i p hp; ⟨pa, h1, fun G' hg => h2 G' (fun j hj => hg j (hs j hj))⟩⟩
theorem cms_start {H G : AH} {q d : Nat} {rv : Value} {FD FR : List Nat} {J : JM} {jb : Nat} {v1 v2 : Value} {X1 X2 : List Nat} {ps ms : Pgs} (h : JrR H q d rv FD FR J) (hl : Low H.length H G) (h2 : hget G jb = some ⟨[v1, v2], 116, some 1⟩)
    (p1 : PgV G v1 ps X1) (p2 : PgV G v2 ms X2) (hX : ∀ j ∈ jb :: (X1 ++ X2), H.length ≤ j ∧ j < G.length) : CmS H G q d rv FD FR J J.D jb v1 v2 (X1 ++ X2) ps ms := by
  have hlt : ∀ j ∈ q :: (FD ++ FR), j < H.length := fun j hj => by
    simp only [List.mem_cons, List.mem_append] at hj
    rcases hj with rfl | hj | hj
    · exact hget_lt h.hq
    · exact h.hd.lt j hj
    · exact h.hr.lt j hj
  refine ⟨⟨FD, h.low (fun j hj => hl.1 j (hlt j hj)) hl.2, ⟨hl.2, fun j hj _ => hl.1 j hj, fun j hj => .inl hj⟩, fun j hj hm => ?_⟩, h2, p1.wide (fun j hj => by simp [hj]), p2.wide (fun j hj => by simp [hj]), hX⟩
  have := (hX j hm).1
  have := h.hd.lt j hj
  omega
/-- What a commit leaves. -/
def CommitQ (H : AH) (q d : Nat) (rv : Value) (FD FR : List Nat) (J : JM) (a S : Nat) (r : DM × Int) (v' : Value) (H' : AH) : Prop :=
  v' = .int .i64 (if r.2 = 0 then 0 else 7) ∧ ∃ FD', JrR H' q d rv FD' FR (if r.2 = 0 then ⟨r.1, J.recs, a, S⟩ else ⟨r.1, J.recs, J.area, J.size⟩) ∧ Fr H H' (q :: (FD ++ FR)) (q :: (FD' ++ FR))
theorem commit_go {nro : Nat} {H : AH} (hnl : nro ≤ H.length) {q d : Nat} {rv : Value} {FD FR : List Nat} {J : JM} (h : JrR H q d rv FD FR J) (hn : ∀ j ∈ q :: (FD ++ FR), nro ≤ j) (a b S : Nat) (ha : a ≤ 1) (xs M mb : List Int) (ps : Pgs) (hS : b + xs.length = S) (hSb : S ≤ 200000) (hfew : J.D.uns.length + ps.length + 1 < 1000)
    (hmk : AC Tryd.prog H.length gm 54 #[.int .i64 (a : Nat), .int .i64 (S : Nat)] H (fun v' _ => v' = .string (strOfNums M)))
    (hfl : VC Tryd.prog 69 #[.string (strOfNums M)] (.string (strOfNums mb)))
    (hpg : ∀ G : AH, Low H.length H G → AC Tryd.prog nro gm 70 #[.pointer (some ⟨q, 0, none⟩), .int .i64 (a : Nat), .int .i64 (b : Nat), .string (strOfNums xs)] G
      (fun v' H' => Low G.length G H' ∧ ∃ F, OwnF H' v' 115 2 (pgC ps) F ∧ ∀ j ∈ F, G.length ≤ j)) :
    AC Tryd.prog nro gm 42 #[.pointer (some ⟨q, 0, none⟩), .int .i64 (a : Nat), .int .i64 (b : Nat), .string (strOfNums xs)] H
      (fun v' H' => CommitQ H q d rv FD FR J a S (commitR J.D ps [(0, mb)]) v' H') := by
  have hq := h.hq
  have hql := hget_lt hq
  have hxs := sn_size xs
  have hlt : ∀ j ∈ q :: (FD ++ FR), j < H.length := fun j hj => by
    simp only [List.mem_cons, List.mem_append] at hj
    rcases hj with rfl | hj | hj
    · exact hget_lt h.hq
    · exact h.hd.lt j hj
    · exact h.hr.lt j hj
  refine ac_of_aw Tryd.func42 rfl Tryd.ntmps42 Tryd.results42 (by simp) ?_
  refine aw_seq ?_
  (refine aw_ops (by kernel_rfl) (fun K hK => ?_); simp (disch := first | omega | (simp only [List.length_set, List.length_append, List.length_cons, List.length_nil, iv_length, zl_length]; try omega; done)) [-getElem?_pos, -getElem?_neg]; refine hK _ _ ?_; clear hK K)
  refine aw_scope ?_
  refine aw_seq ?_
  have hSi : (b : Int) + (xs.length : Int) = (S : Nat) := by omega
  (refine aw_ops (by kernel_rfl) (fun K hK => ?_); simp (disch := first | omega | (simp only [List.length_set, List.length_append, List.length_cons, List.length_nil, iv_length, zl_length]; try omega; done)) [-getElem?_pos, -getElem?_neg, hxs, hSi]; refine hK _ _ ?_; clear hK K)
  refine aw_seq ?_
  refine aw_ops (by kernel_rfl) (fun K hK => ?_)
  simp (disch := first | omega | (simp only [List.length_set, List.length_append, List.length_cons, List.length_nil, iv_length, zl_length]; try omega; done)) [-getElem?_pos, -getElem?_neg]
  refine ⟨by kernel_rfl, ac_of_rc hmk (by simp [pv_iv, pv_int, pv_bool, pv_string, pv_tup2, pv_tup3, iv_plain, p2_int, p2_bool, p2_string]) ?_⟩
  try simp (disch := first | omega | (simp only [List.length_set, List.length_append, List.length_cons, List.length_nil, iv_length, zl_length]; try omega; done)) [-getElem?_pos, -getElem?_neg]
  refine ⟨by kernel_rfl, ac_of_vc (by simp [pv_iv, pv_int, pv_bool, pv_string, pv_tup2, pv_tup3, iv_plain, p2_int, p2_bool, p2_string]) hfl ?_⟩
  simp (disch := first | omega | (simp only [List.length_set, List.length_append, List.length_cons, List.length_nil, iv_length, zl_length]; try omega; done)) [-getElem?_pos, -getElem?_neg]
  refine hK _ _ ?_; clear hK K
  refine aw_seq ?_
  (refine aw_ops (by kernel_rfl) (fun K hK => ?_); simp (disch := first | omega | (simp only [List.length_set, List.length_append, List.length_cons, List.length_nil, iv_length, zl_length]; try omega; done)) [-getElem?_pos, -getElem?_neg]; refine hK _ _ ?_; clear hK K)
  refine aw_seq ?_
  refine aw_label ?_
  refine aw_seq ?_
  refine aw_cut (fun α G => ∃ FD' r, r = commitR J.D ps [(0, mb)] ∧ α 11 = .int .i64 r.2 ∧ JrR G q d rv FD' FR { J with D := r.1 } ∧ Fr H G (q :: (FD ++ FR)) (q :: (FD' ++ FR)) ∧ α 0 = .pointer (some ⟨q, 0, none⟩) ∧ α 1 = .int .i64 (a : Nat) ∧ α 9 = .int .i64 (S : Nat)) ?_ ?_
  · refine aw_seq ?_
    refine aw_cut (fun α G => ∃ jb v1 v2 X, CmS H G q d rv FD FR J J.D jb v1 v2 X ps [(0, mb)] ∧ α 0 = .pointer (some ⟨q, 0, none⟩) ∧ α 1 = .int .i64 (a : Nat) ∧ α 9 = .int .i64 (S : Nat) ∧ α 11 = .int .i64 0 ∧ α 32 = .slice (some ⟨jb, 0, none⟩) 2 2 ∧ α 33 = .int .i64 2 ∧ α 34 = .int .i64 0) ?_ ?_
    · have r2 : List.range 2 = [0, 1] := rfl
      (refine aw_ptree [0, 1, 2, 3, 9] 5 [[4, 5, 6, 7, 8], [5, 4, 6, 7, 8], [5, 6, 4, 7, 8]] (by kernel_rfl) (by kernel_rfl) (by kernel_rfl) (fun K hK => ?_)); simp only [sel, List.getElem?_cons_succ, List.getElem?_cons_zero]; simp (disch := first | omega | (simp only [List.length_set, List.length_append, List.length_cons, List.length_nil, iv_length, zl_length]; try omega; done)) [-getElem?_pos, -getElem?_neg, -notTuple, nt_strJ, nt_slJ, nt_intJ, nt_aggJ, nt_ptrJ, r2, plain_nil, XO_s, XO_z, XLk_val, XLk_call, headsO, behind, List.length_cons, List.length_nil, List.mem_cons, List.not_mem_nil, or_false, forall_eq_or_imp, forall_eq, List.contains_cons, List.contains_nil]
      refine ⟨⟨by kernel_rfl, ?_⟩, ⟨by kernel_rfl, ?_⟩, ⟨by kernel_rfl, ?_⟩⟩
      · refine AC.mono (hpg _ (Low.push (Nat.le_refl _) _)) ?_
        rintro v1 G1 ⟨hl1, F1, ho1, hf1⟩
        have hsh := own_shape ho1
        have hgm : hget G1 H.length = some ⟨[.int .i64 0, .string (strOfNums mb)], 115, none⟩ := (hl1.1 H.length (by simp)).trans (by simp)
        have hg1 := hl1.2
        simp only [List.length_append, List.length_cons, List.length_nil] at hg1
        simp (disch := first | omega | (simp only [List.length_set, List.length_append, List.length_cons, List.length_nil, iv_length, zl_length]; try omega; done)) [-getElem?_pos, -getElem?_neg, hgm, -notTuple, nt_strJ, nt_slJ, nt_intJ, nt_aggJ, hsh.1, hsh.2, r2, plain_nil, XO_s, XO_z, XLk_val, XLk_call, headsO, behind, List.length_cons, List.length_nil, List.mem_cons, List.not_mem_nil, or_false, forall_eq_or_imp, forall_eq, List.contains_cons, List.contains_nil]
        refine hK _ _ ?_; clear hK K
        refine ⟨G1.length + 1, v1, _, F1 ++ [G1.length], cms_start h ⟨fun j hj => by rw [hget_left (by omega), hl1.1 j (by simp; omega), hget_left hj], by simp; omega⟩ (by rw [hget_app]; rfl) (ho1.low (fun j hj => hget_left (ho1.lt j hj))).pgs (one_pg (j := G1.length) (by rw [hget_app0]; rfl)) (fun j hj => ?_), by (first | (simp [put_at, put_none, fr0_at]; done) | rfl), by (first | (simp [put_at, put_none, fr0_at]; done) | rfl), by (first | (simp [put_at, put_none, fr0_at]; done) | rfl), by (first | (simp [put_at, put_none, fr0_at]; done) | rfl), by (first | (simp [put_at, put_none, fr0_at]; done) | rfl), by (first | (simp [put_at, put_none, fr0_at]; done) | rfl), by (first | (simp [put_at, put_none, fr0_at]; done) | rfl)⟩
        simp only [List.mem_cons, List.mem_append, List.not_mem_nil, or_false] at hj
        rcases hj with rfl | hj | rfl
        · exact ⟨by omega, by simp⟩
        · have q1 := hf1 j hj
          have q2 := ho1.lt j hj
          simp only [List.length_append, List.length_cons, List.length_nil] at q1 ⊢
          omega
        · exact ⟨by omega, by simp; try omega⟩
      · refine AC.mono (hpg _ (Low.push (Nat.le_refl _) _)) ?_
        rintro v1 G1 ⟨hl1, F1, ho1, hf1⟩
        have hsh := own_shape ho1
        have hg1 := hl1.2
        simp only [List.length_append, List.length_cons, List.length_nil] at hg1
        simp (disch := first | omega | (simp only [List.length_set, List.length_append, List.length_cons, List.length_nil, iv_length, zl_length]; try omega; done)) [-getElem?_pos, -getElem?_neg, -notTuple, nt_strJ, nt_slJ, nt_intJ, nt_aggJ, hsh.1, hsh.2, r2, plain_nil, XO_s, XO_z, XLk_val, XLk_call, headsO, behind, List.length_cons, List.length_nil, List.mem_cons, List.not_mem_nil, or_false, forall_eq_or_imp, forall_eq, List.contains_cons, List.contains_nil]
        refine hK _ _ ?_; clear hK K
        refine ⟨G1.length + 1, v1, _, F1 ++ [G1.length], cms_start h ⟨fun j hj => by rw [hget_left (by omega), hl1.1 j (by simp; omega), hget_left hj], by simp; omega⟩ (by rw [hget_app]; rfl) (ho1.low (fun j hj => hget_left (ho1.lt j hj))).pgs (one_pg (j := G1.length) (by rw [hget_app0]; rfl)) (fun j hj => ?_), by (first | (simp [put_at, put_none, fr0_at]; done) | rfl), by (first | (simp [put_at, put_none, fr0_at]; done) | rfl), by (first | (simp [put_at, put_none, fr0_at]; done) | rfl), by (first | (simp [put_at, put_none, fr0_at]; done) | rfl), by (first | (simp [put_at, put_none, fr0_at]; done) | rfl), by (first | (simp [put_at, put_none, fr0_at]; done) | rfl), by (first | (simp [put_at, put_none, fr0_at]; done) | rfl)⟩
        simp only [List.mem_cons, List.mem_append, List.not_mem_nil, or_false] at hj
        rcases hj with rfl | hj | rfl
        · exact ⟨by omega, by simp⟩
        · have q1 := hf1 j hj
          have q2 := ho1.lt j hj
          simp only [List.length_append, List.length_cons, List.length_nil] at q1 ⊢
          omega
        · exact ⟨by omega, by simp; try omega⟩
      · refine AC.mono (hpg _ (Low.push (Nat.le_refl _) _)) ?_
        rintro v1 G1 ⟨hl1, F1, ho1, hf1⟩
        have hsh := own_shape ho1
        have hg1 := hl1.2
        simp only [List.length_append, List.length_cons, List.length_nil] at hg1
        simp (disch := first | omega | (simp only [List.length_set, List.length_append, List.length_cons, List.length_nil, iv_length, zl_length]; try omega; done)) [-getElem?_pos, -getElem?_neg, -notTuple, nt_strJ, nt_slJ, nt_intJ, nt_aggJ, hsh.1, hsh.2, r2, plain_nil, XO_s, XO_z, XLk_val, XLk_call, headsO, behind, List.length_cons, List.length_nil, List.mem_cons, List.not_mem_nil, or_false, forall_eq_or_imp, forall_eq, List.contains_cons, List.contains_nil]
        refine hK _ _ ?_; clear hK K
        refine ⟨G1.length, v1, _, F1 ++ [H.length + 1], cms_start h ⟨fun j hj => by rw [hget_left (by omega), hl1.1 j (by simp; omega), hget_left hj], by simp; omega⟩ (by rw [hget_app0]; rfl) (ho1.low (fun j hj => hget_left (ho1.lt j hj))).pgs (one_pg (j := H.length + 1) (by rw [hget_left (by omega), hl1.1 _ (by simp), hget_app]; rfl)) (fun j hj => ?_), by (first | (simp [put_at, put_none, fr0_at]; done) | rfl), by (first | (simp [put_at, put_none, fr0_at]; done) | rfl), by (first | (simp [put_at, put_none, fr0_at]; done) | rfl), by (first | (simp [put_at, put_none, fr0_at]; done) | rfl), by (first | (simp [put_at, put_none, fr0_at]; done) | rfl), by (first | (simp [put_at, put_none, fr0_at]; done) | rfl), by (first | (simp [put_at, put_none, fr0_at]; done) | rfl)⟩
        simp only [List.mem_cons, List.mem_append, List.not_mem_nil, or_false] at hj
        rcases hj with rfl | hj | rfl
        · exact ⟨by omega, by simp⟩
        · have q1 := hf1 j hj
          have q2 := ho1.lt j hj
          simp only [List.length_append, List.length_cons, List.length_nil] at q1 ⊢
          omega
        · exact ⟨by omega, by simp; try omega⟩
    rintro α G ⟨jb, v1, v2, X, hC, h0, h1, h9, h11, h32, h33, h34⟩
    refine aw_block ?_
    refine aw_loop (fun c α G => ∃ (k : Nat) (Dk : DM), k + c = 2 ∧ StC J.D ps [(0, mb)] k Dk ∧ CmS H G q d rv FD FR J Dk jb v1 v2 X ps [(0, mb)] ∧ α 0 = .pointer (some ⟨q, 0, none⟩) ∧ α 1 = .int .i64 (a : Nat) ∧ α 9 = .int .i64 (S : Nat) ∧ α 11 = .int .i64 0 ∧ α 32 = .slice (some ⟨jb, 0, none⟩) 2 2 ∧ α 33 = .int .i64 2 ∧ α 34 = .int .i64 (k : Nat)) 2 ?_ ?_
    · exact ⟨0, J.D, rfl, rfl, hC, h0, h1, h9, h11, h32, h33, h34⟩
    clear h0 h1 h9 h11 h32 h33 h34 hC α G
    rintro c α G ⟨k, Dk, hkc, hst, hC, h0, h1, h9, h11, h32, h33, h34⟩
    have hnF : ∀ (G : AH) (FDk : List Nat), Fr H G (q :: (FD ++ FR)) (q :: (FDk ++ FR)) → ∀ j ∈ FDk, nro ≤ j := fun G FDk hf j hj => by
      rcases hf.new j (by simp [hj]) with h1 | h1
      · exact hn j h1
      · omega
    refine aw_seq ?_
    (refine aw_ops (by kernel_rfl) (fun K hK => ?_); simp (disch := first | omega | (simp only [List.length_set, List.length_append, List.length_cons, List.length_nil, iv_length, zl_length]; try omega; done)) [-getElem?_pos, -getElem?_neg, h34, h33]; refine hK _ _ ?_; clear hK K)
    refine aw_seq ?_
    by_cases hk : k < 2
    case neg =>
      refine aw_f (by (first | (simp [eval_tmp, put_at, hk]; done) | (simp [eval_tmp, put_at, hk]; omega))) (by kernel_rfl) ?_
      refine aw_exit ?_
      have hk2 : k = 2 := by omega
      subst hk2
      have hst : commitR J.D ps [(0, mb)] = (Dk, 0) := hst
      obtain ⟨FDk, j1, j2, _⟩ := hC.jr
      exact ⟨FDk, _, rfl, by rw [hst]; (first | (simp [put_at, put_none, fr0_at, h11]; done) | rfl), by rw [hst]; exact j1, j2, by (first | (simp [put_at, put_none, fr0_at, h0]; done) | rfl), by (first | (simp [put_at, put_none, fr0_at, h1]; done) | rfl), by (first | (simp [put_at, put_none, fr0_at, h9]; done) | rfl)⟩
    refine aw_t (by (first | (simp [eval_tmp, put_at, hk]; done) | (simp [eval_tmp, put_at, hk]; omega))) (by kernel_rfl) ?_
    refine aw_skip ?_
    refine aw_seq ?_
    refine aw_block ?_
    obtain ⟨vk, hpk, hck⟩ : ∃ vk, PgV G vk (pgK ps [(0, mb)] k) X ∧ [v1, v2][k]? = some vk := by
      have : k = 0 ∨ k = 1 := by omega
      rcases this with rfl | rfl
      · exact ⟨v1, hC.p1, rfl⟩
      · exact ⟨v2, hC.p2, rfl⟩
    have hfw := st_few hk hst
    have hnx := st_next hk hst
    simp only [List.length_cons, List.length_nil] at hfw
    generalize hpq : pgK ps [(0, mb)] k = pk at *
    have hnt := hpk.nt
    have hln := hpk.len
    have htw := hC.two
    refine aw_seq ?_
    (refine aw_ops (by kernel_rfl) (fun K hK => ?_); simp (disch := first | omega | (simp only [List.length_set, List.length_append, List.length_cons, List.length_nil, iv_length, zl_length]; try omega; done)) [-getElem?_pos, -getElem?_neg, h32, h34, htw, hck, -notTuple, hnt]; refine hK _ _ ?_; clear hK K)
    refine aw_seq ?_
    refine aw_seq ?_
    (refine aw_ops (by kernel_rfl) (fun K hK => ?_); simp (disch := first | omega | (simp only [List.length_set, List.length_append, List.length_cons, List.length_nil, iv_length, zl_length]; try omega; done)) [-getElem?_pos, -getElem?_neg, -notTuple, hnt, -xlen, hln]; refine hK _ _ ?_; clear hK K)
    refine aw_block ?_
    refine aw_loop (fun c' α G => ∃ (i : Nat) (Di : DM), i + c' = pk.length ∧ wrAll Dk (pk.take i) = (Di, 0) ∧ CmS H G q d rv FD FR J Di jb v1 v2 X ps [(0, mb)] ∧ α 0 = .pointer (some ⟨q, 0, none⟩) ∧ α 1 = .int .i64 (a : Nat) ∧ α 9 = .int .i64 (S : Nat) ∧ α 11 = .int .i64 0 ∧ α 32 = .slice (some ⟨jb, 0, none⟩) 2 2 ∧ α 33 = .int .i64 2 ∧ α 34 = .int .i64 (k : Nat) ∧ α 38 = vk ∧ α 39 = .int .i64 (pk.length : Nat) ∧ α 40 = .int .i64 (i : Nat)) pk.length ?_ ?_
    · exact ⟨0, Dk, by omega, rfl, hC, by (first | (simp [put_at, put_none, fr0_at, h0]; done) | rfl), by (first | (simp [put_at, put_none, fr0_at, h1]; done) | rfl), by (first | (simp [put_at, put_none, fr0_at, h9]; done) | rfl), by (first | (simp [put_at, put_none, fr0_at, h11]; done) | rfl), by (first | (simp [put_at, put_none, fr0_at, h32]; done) | rfl), by (first | (simp [put_at, put_none, fr0_at, h33]; done) | rfl), by (first | (simp [put_at, put_none, fr0_at, h34]; done) | rfl), by (first | (simp [put_at, put_none, fr0_at]; done) | rfl), by (first | (simp [put_at, put_none, fr0_at]; done) | rfl), by (first | (simp [put_at, put_none, fr0_at]; done) | rfl)⟩
    clear h0 h1 h9 h11 h32 h33 h34 hC htw hpk hnt hln α G
    rintro c' α G ⟨i, Di, hic, hwr, hC, h0, h1, h9, h11, h32, h33, h34, h38, h39, h40⟩
    have hpk : PgV G vk pk X := by
      have : k = 0 ∨ k = 1 := by omega
      rcases this with rfl | rfl
      · simp at hck; subst hck; rw [← hpq]; exact hC.p1
      · simp at hck; subst hck; rw [← hpq]; exact hC.p2
    have hnt := hpk.nt
    have hln := hpk.len
    obtain ⟨FDi, j1, j2, j3⟩ := hC.jr
    refine aw_seq ?_
    (refine aw_ops (by kernel_rfl) (fun K hK => ?_); simp (disch := first | omega | (simp only [List.length_set, List.length_append, List.length_cons, List.length_nil, iv_length, zl_length]; try omega; done)) [-getElem?_pos, -getElem?_neg, h39, h40]; refine hK _ _ ?_; clear hK K)
    refine aw_seq ?_
    by_cases hi : i < pk.length
    case neg =>
      refine aw_f (by (first | (simp [eval_tmp, put_at, hi]; done) | (simp [eval_tmp, put_at, hi]; omega))) (by kernel_rfl) ?_
      refine aw_exit ?_
      refine aw_seq ?_
      have hall : pk.take i = pk := List.take_of_length_le (by omega)
      rw [hall] at hwr
      have hws : wrSync Dk pk = (Di.sync, Di.syncV) := by unfold wrSync; rw [hwr]; rfl
      rw [hws] at hnx
      refine aw_ops (by kernel_rfl) (fun K hK => ?_)
      simp (disch := first | omega | (simp only [List.length_set, List.length_append, List.length_cons, List.length_nil, iv_length, zl_length]; try omega; done)) [-getElem?_pos, -getElem?_neg, h0, j1.hq]
      refine ⟨by kernel_rfl, AC.mono (sync_ac (nro := nro) (γ := gm) j1.hd (hnF _ _ j2) (by have := j2.len; omega)) ?_⟩
      rintro _ G2 ⟨rfl, FD2, d2, f2⟩
      have hC2 := hC.turn j1 j2 j3 d2 f2
      generalize hV : Di.syncV = sv at *
      generalize hDs : Di.sync = Ds at *
      try simp (disch := first | omega | (simp only [List.length_set, List.length_append, List.length_cons, List.length_nil, iv_length, zl_length]; try omega; done)) [-getElem?_pos, -getElem?_neg]
      refine hK _ _ ?_; clear hK K
      refine aw_seq ?_
      by_cases he : sv = 0
      · subst he
        (refine aw_ops (by kernel_rfl) (fun K hK => ?_); simp (disch := first | omega | (simp only [List.length_set, List.length_append, List.length_cons, List.length_nil, iv_length, zl_length]; try omega; done)) [-getElem?_pos, -getElem?_neg]; refine hK _ _ ?_; clear hK K)
        refine aw_f (by (first | (simp [eval_tmp, put_at]; done) | (simp [eval_tmp, put_at]; omega))) (by kernel_rfl) ?_
        refine aw_skip ?_
        (refine aw_ops (by kernel_rfl) (fun K hK => ?_); simp (disch := first | omega | (simp only [List.length_set, List.length_append, List.length_cons, List.length_nil, iv_length, zl_length]; try omega; done)) [-getElem?_pos, -getElem?_neg, h34]; refine hK _ _ ?_; clear hK K)
        exact ⟨c - 1, by omega, k + 1, Ds, by omega, hnx.2 rfl, hC2, by (first | (simp [put_at, put_none, fr0_at, h0]; done) | rfl), by (first | (simp [put_at, put_none, fr0_at, h1]; done) | rfl), by (first | (simp [put_at, put_none, fr0_at, h9]; done) | rfl), by (first | (simp [put_at, put_none, fr0_at]; done) | rfl), by (first | (simp [put_at, put_none, fr0_at, h32]; done) | rfl), by (first | (simp [put_at, put_none, fr0_at, h33]; done) | rfl), by (first | (simp [put_at, put_none, fr0_at]; done) | rfl)⟩
      · (refine aw_ops (by kernel_rfl) (fun K hK => ?_); simp (disch := first | omega | (simp only [List.length_set, List.length_append, List.length_cons, List.length_nil, iv_length, zl_length]; try omega; done)) [-getElem?_pos, -getElem?_neg, he]; refine hK _ _ ?_; clear hK K)
        refine aw_t (by (first | (simp [eval_tmp, put_at, he]; done) | (simp [eval_tmp, put_at, he]; omega))) (by kernel_rfl) ?_
        refine aw_exit ?_
        obtain ⟨FD3, k1, k2, _⟩ := hC2.jr
        exact ⟨FD3, _, rfl, by rw [hnx.1 he]; (first | (simp [put_at, put_none, fr0_at]; done) | rfl), by rw [hnx.1 he]; exact k1, k2, by (first | (simp [put_at, put_none, fr0_at, h0]; done) | rfl), by (first | (simp [put_at, put_none, fr0_at, h1]; done) | rfl), by (first | (simp [put_at, put_none, fr0_at, h9]; done) | rfl)⟩
    refine aw_t (by (first | (simp [eval_tmp, put_at, hi]; done) | (simp [eval_tmp, put_at, hi]; omega))) (by kernel_rfl) ?_
    refine aw_skip ?_
    refine aw_seq ?_
    refine aw_block ?_
    obtain ⟨p, hp⟩ : ∃ p, pk[i]? = some p := ⟨_, List.getElem?_eq_getElem hi⟩
    obtain ⟨pa, hpa1, hpa2⟩ := hpk.at_ i p hp
    have hpa3 := hpa2 G (fun _ _ => rfl)
    have hnG : nro ≤ G.length := by have := j2.len; omega
    refine aw_seq ?_
    (refine aw_ops (by kernel_rfl) (fun K hK => ?_); simp (disch := first | omega | (simp only [List.length_set, List.length_append, List.length_cons, List.length_nil, iv_length, zl_length]; try omega; done)) [-getElem?_pos, -getElem?_neg, h38, h40, -notTuple, hnt, nt_intJ, nt_aggJ, nt_ptrJ, -xindexAddr, hpa1, -xload, hpa3]; refine hK _ _ ?_; clear hK K)
    have hC1 := hC.low (G' := G ++ [some ⟨[.int .i64 (p.1 : Nat), .string (strOfNums p.2)], 115, none⟩]) (Low.push (Nat.le_refl _) _)
    have hb1 : hget (G ++ [some ⟨[.int .i64 (p.1 : Nat), .string (strOfNums p.2)], 115, none⟩]) G.length = some ⟨[.int .i64 (p.1 : Nat), .string (strOfNums p.2)], 115, none⟩ := by rw [hget_app0]; rfl
    clear j1 j2 j3 FDi hpa2 hpa3
    generalize hG1 : G ++ [some ⟨[.int .i64 (p.1 : Nat), .string (strOfNums p.2)], 115, none⟩] = G1 at *
    obtain ⟨FDi, j1, j2, j3⟩ := hC1.jr
    have hq1 := j1.hq
    have hfi := wrAll_few (pk.take i) Dk
    rw [hwr, List.length_take] at hfi
    simp only at hfi
    refine aw_seq ?_
    (refine aw_plan [] [] [0, 1, 2, 3, 4, 5, 6, 7] 8 2 (by kernel_rfl) (by kernel_rfl) (by kernel_rfl) (fun K hK => ?_)); simp only [sel, List.getElem?_cons_succ, List.getElem?_cons_zero, List.drop_succ_cons, List.drop_zero]; simp (disch := first | omega | (simp only [List.length_set, List.length_append, List.length_cons, List.length_nil, iv_length, zl_length]; try omega; done)) [-getElem?_pos, -getElem?_neg, h0, hq1, hb1, PL_nil, PL_cons, PLc_val, PLc_new, stepP_t, stepP_f, stepPC_n, stepPC_s, stepPX_s, stepPX_n, stepPA_t, stepPA_c, stepPA_l, stepPN_s, allocOp, reloc_sl, reloc_ptr, List.map_cons, List.map_nil, List.nil_append, List.append_assoc, List.cons_append, Nat.add_assoc]
    refine ⟨by kernel_rfl, AC.mono (dwrite_ac (nro := nro) (γ := gm) j1.hd (hnF _ _ j2) (by show Di.uns.length < 1000; omega) (p.1 : Nat) (strOfNums p.2)) ?_⟩
    rintro _ G2 ⟨rfl, FD2, d2, f2⟩
    have hC2 := hC1.turn j1 j2 j3 d2 f2
    have hfail := wrAll_fail hp hwr
    have hon := wrAll_on hp hwr
    generalize hV : Di.writeV (p.1 : Nat) (strOfNums p.2) = sv at *
    generalize hDs : Di.write (p.1 : Nat) (strOfNums p.2) = Ds at *
    try simp (disch := first | omega | (simp only [List.length_set, List.length_append, List.length_cons, List.length_nil, iv_length, zl_length]; try omega; done)) [-getElem?_pos, -getElem?_neg, PL_nil, PL_cons, PLc_val, PLc_new, stepP_t, stepP_f, stepPC_n, stepPC_s, stepPX_s, stepPX_n, stepPA_t, stepPA_c, stepPA_l, stepPN_s, allocOp, reloc_sl, reloc_ptr, List.map_cons, List.map_nil, List.nil_append, List.append_assoc, List.cons_append, Nat.add_assoc]
    refine hK _ _ ?_; clear hK K
    refine aw_seq ?_
    by_cases he : sv = 0
    · subst he
      (refine aw_ops (by kernel_rfl) (fun K hK => ?_); simp (disch := first | omega | (simp only [List.length_set, List.length_append, List.length_cons, List.length_nil, iv_length, zl_length]; try omega; done)) [-getElem?_pos, -getElem?_neg]; refine hK _ _ ?_; clear hK K)
      refine aw_f (by (first | (simp [eval_tmp, put_at]; done) | (simp [eval_tmp, put_at]; omega))) (by kernel_rfl) ?_
      refine aw_skip ?_
      (refine aw_ops (by kernel_rfl) (fun K hK => ?_); simp (disch := first | omega | (simp only [List.length_set, List.length_append, List.length_cons, List.length_nil, iv_length, zl_length]; try omega; done)) [-getElem?_pos, -getElem?_neg, h40]; refine hK _ _ ?_; clear hK K)
      exact ⟨c' - 1, by omega, i + 1, Ds, by omega, hon rfl, hC2, by (first | (simp [put_at, put_none, fr0_at, h0]; done) | rfl), by (first | (simp [put_at, put_none, fr0_at, h1]; done) | rfl), by (first | (simp [put_at, put_none, fr0_at, h9]; done) | rfl), by (first | (simp [put_at, put_none, fr0_at]; done) | rfl), by (first | (simp [put_at, put_none, fr0_at, h32]; done) | rfl), by (first | (simp [put_at, put_none, fr0_at, h33]; done) | rfl), by (first | (simp [put_at, put_none, fr0_at, h34]; done) | rfl), by (first | (simp [put_at, put_none, fr0_at, h38]; done) | rfl), by (first | (simp [put_at, put_none, fr0_at, h39]; done) | rfl), by (first | (simp [put_at, put_none, fr0_at]; done) | rfl)⟩
    · (refine aw_ops (by kernel_rfl) (fun K hK => ?_); simp (disch := first | omega | (simp only [List.length_set, List.length_append, List.length_cons, List.length_nil, iv_length, zl_length]; try omega; done)) [-getElem?_pos, -getElem?_neg, he]; refine hK _ _ ?_; clear hK K)
      refine aw_t (by (first | (simp [eval_tmp, put_at, he]; done) | (simp [eval_tmp, put_at, he]; omega))) (by kernel_rfl) ?_
      refine aw_exit ?_
      obtain ⟨FD3, k1, k2, _⟩ := hC2.jr
      have hr := hfail he
      rw [hr] at hnx
      exact ⟨FD3, _, rfl, by rw [hnx.1 he]; (first | (simp [put_at, put_none, fr0_at]; done) | rfl), by rw [hnx.1 he]; exact k1, k2, by (first | (simp [put_at, put_none, fr0_at, h0]; done) | rfl), by (first | (simp [put_at, put_none, fr0_at, h1]; done) | rfl), by (first | (simp [put_at, put_none, fr0_at, h9]; done) | rfl)⟩
  rintro α G ⟨FD', r, hr, h11, hj, hf, h0, h1, h9⟩
  have hqj := hj.hq
  have hqlj := hget_lt hqj
  refine aw_seq ?_
  refine aw_seq ?_
  by_cases he : r.2 = 0
  · (refine aw_ops (by kernel_rfl) (fun K hK => ?_); simp (disch := first | omega | (simp only [List.length_set, List.length_append, List.length_cons, List.length_nil, iv_length, zl_length]; try omega; done)) [-getElem?_pos, -getElem?_neg, h11, he]; refine hK _ _ ?_; clear hK K)
    refine aw_f (by (first | (simp [eval_tmp, put_at]; done) | (simp [eval_tmp, put_at]; omega))) (by kernel_rfl) ?_
    refine aw_skip ?_
    refine aw_seq ?_
    have hnq : nro ≤ q := hn q (by simp)
    (refine aw_ops (by kernel_rfl) (fun K hK => ?_); simp (disch := first | omega | (simp only [List.length_set, List.length_append, List.length_cons, List.length_nil, iv_length, zl_length]; try omega; done)) [-getElem?_pos, -getElem?_neg, h0, h1, h9, hqj]; refine hK _ _ ?_; clear hK K)
    refine aw_seq ?_
    (refine aw_ops (by kernel_rfl) (fun K hK => ?_); simp (disch := first | omega | (simp only [List.length_set, List.length_append, List.length_cons, List.length_nil, iv_length, zl_length]; try omega; done)) [-getElem?_pos, -getElem?_neg]; refine hK _ _ ?_; clear hK K)
    (refine aw_ret ?_; simp (disch := first | omega | (simp only [List.length_set, List.length_append, List.length_cons, List.length_nil, iv_length, zl_length]; try omega; done)) [-getElem?_pos, -getElem?_neg, thenQ_ret, scopeQ_ret, inBlockQ_ret, RQ, resL, resV])
    rw [← hr]
    refine ⟨by rw [if_pos he], FD', ?_, hf.trans ⟨by simp, fun j hj hn => hget_set_ne (fun e => hn (by simp [e])), fun j hj => .inl hj⟩⟩
    rw [if_pos he]
    refine ⟨by rw [hget_set_eq hqlj], hj.hd.low (fun j hm => hget_set_ne (fun e => hj.qd (e ▸ hm))), hj.hr.low (fun j hm => hget_set_ne (fun e => hj.qr (e ▸ hm))) (by simp), hj.qd, hj.qr, hj.dr⟩
  · (refine aw_ops (by kernel_rfl) (fun K hK => ?_); simp (disch := first | omega | (simp only [List.length_set, List.length_append, List.length_cons, List.length_nil, iv_length, zl_length]; try omega; done)) [-getElem?_pos, -getElem?_neg, h11, he]; refine hK _ _ ?_; clear hK K)
    refine aw_t (by (first | (simp [eval_tmp, put_at, he]; done) | (simp [eval_tmp, put_at, he]; omega))) (by kernel_rfl) ?_
    refine aw_seq ?_
    (refine aw_ops (by kernel_rfl) (fun K hK => ?_); simp (disch := first | omega | (simp only [List.length_set, List.length_append, List.length_cons, List.length_nil, iv_length, zl_length]; try omega; done)) [-getElem?_pos, -getElem?_neg]; refine hK _ _ ?_; clear hK K)
    (refine aw_ret ?_; simp (disch := first | omega | (simp only [List.length_set, List.length_append, List.length_cons, List.length_nil, iv_length, zl_length]; try omega; done)) [-getElem?_pos, -getElem?_neg, thenQ_ret, scopeQ_ret, inBlockQ_ret, RQ, resL, resV])
    rw [← hr]
    refine ⟨by rw [if_neg he], FD', ?_, hf⟩
    rw [if_neg he]
    exact hj
end
end Go.Proofs.YtgamobjfeaeddaaDoor
