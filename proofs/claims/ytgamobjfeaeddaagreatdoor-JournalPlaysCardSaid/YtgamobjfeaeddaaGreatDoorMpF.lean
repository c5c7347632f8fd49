/-
  A journal's records, told.
  A disk that holds records: what opening it finds.
  A disk that is not lit and not dead: what writes, syncs and crashes make of it.
  Pages written: what is on the disk behind them.
  Pages written one behind the other, and settled; a commit, told.
  A commit: bytes into an area behind those that are there, then the mark that lets them count.
  Append.
  A commit on a disk that is well: the records are there then.
  A journal over a disk that is well; acts.
  alive; JournalKept.
  JournalKept.
  The reference's disk, walked.
  The reference's disk, walked: writing, sync, crash, a new one.
  The reference's new disk; what every right program answers.
  Words' bits: or, xor and and of words, sums of bytes in their places.
  The document's digest: a word turned, the round words, one block.
-/
import Derived.Test.YtgamobjfeaeddaaGreatDoorMpE
import Derived.Test.YtgamobjfeaeddaaGreatDoorMpC
import Derived.Test.YtgamobjfeaeddaaGreatDoorMpB
import Derived.Test.YtgamobjfeaeddaaGreatDoorMpD
namespace Go.Proofs.YtgamobjfeaeddaaGreatDoor
open Go Go.RowKit
set_option linter.unusedSimpArgs false
set_option linter.unusedVariables false
set_option maxRecDepth 100000
set_option maxHeartbeats 4000000
section
theorem OwnG.part {H : AH} {v : Value} {cells : List Value} {F : List Nat} (h : OwnG H v cells F) : Part H H.length v cells :=
  ⟨h.shape, fun G hg => h.cells G (fun j hj => hg j (h.lt j hj))⟩
attribute [local simp] wb_bool wb_undef XL_nil XL_cons XLc_val XLc_call step1_eq stepW_t stepW_f stepC_n stepC_s stepX_s stepX_n stepN_s calleeX oneV xop_eq xopR_s xopR_n wantedA_eq wantedG_n wantedG_s plain1_int plain1_bool plain1_string bits_i64 bits_u64 bits_u32 bits_u16 bits_u8 xeqA xagg xcmp xarr allK_iv num_iv calleeOf xread xeff xbin xint xnil xun xstr xload xconv xpart xfield xfieldAddr xindexAddr xindex bnd asInt? xslice xlen xmin xmax xbuild xfill xappend xapp2 xappstr xappmk xcap xcopy xcells eval_tmp eval_const put_at put_none fr0_at cells_agg cells_int cells_bool cells_string cells_ptr cells_slice notTuple tab iv_all hget_app hget_app0 hget_cons0 hget_cons set_app set_app0 setR setR_one QL_nil QL_cons QLc_val stepQ_t stepQ_f stepQC_n stepQC_s stepQX_s SL_nil SL_cons SLc_val stepS_t stepS_f ltT ltF leT leF eqT eqF ltTn ltFn leTn leFn eqTn eqFn beqT beqF bneT bneF wi64 wu64 wu32 wu16 wu8 tmodP tdivP hgetL hgetNe hgetEq setL nums_def nums_len Nat.succ_le_of_lt List.getElem?_cons_zero List.getElem?_cons_succ Option.getD_some Int.toNat_add Int.toNat_mul agB agI agS agP agL agA okB okI okS okP okSl okA
theorem records_ac {nro : Nat} {γ : Nat → Option Nat} {H : AH} (hnl : nro ≤ H.length) {q d : Nat} {rv : Value} {FD FR : List Nat} {J : JM} (h : JrR H q d rv FD FR J) (hl : J.recs.length ≤ 1000000) :
    AC Tryz.prog nro γ 20 #[.pointer (some ⟨q, 0, none⟩)] H (fun v' H' => Part H' H'.length v' (J.recs.map .string) ∧ H.length ≤ H'.length ∧ ∀ j, j < H.length → hget H' j = hget H j) := by
  have hq := h.hq
  have hp := h.hr.part
  have hsh := h.hr.nt
  refine ac_of_aw Tryz.func20 rfl Tryz.ntmps20 Tryz.results20 (by simp) ?_
  refine aw_seq ?_
  (refine aw_ops (by kernel_rfl) (fun K hK => ?_); simp (disch := first | omega | (simp only [lnS]; try omega; done)) [-getElem?_pos, -getElem?_neg]; refine hK _ _ ?_; clear hK K)
  refine aw_seq ?_
  refine aw_seq ?_
  (refine aw_ops (by kernel_rfl) (fun K hK => ?_); simp (disch := first | omega | (simp only [lnS]; try omega; done)) [-getElem?_pos, -getElem?_neg]; refine hK _ _ ?_; clear hK K)
  refine aw_f (by (first | (simp [eval_tmp, put_at]; done) | (simp [eval_tmp, put_at]; omega))) (by kernel_rfl) ?_
  refine aw_skip ?_
  refine aw_seq ?_
  refine aw_ops (by kernel_rfl) (fun K hK => ?_)
  simp (disch := first | omega | (simp only [lnS]; try omega; done)) [-getElem?_pos, -getElem?_neg, hq, -notTuple, hsh.1]
  refine ⟨by kernel_rfl, AC.mono (clone_ac (nro := nro) hp (by simpa using hl) hnl) ?_⟩
  rintro v1 G ⟨h1, h2, h3⟩
  have hn := h1.nt
  try simp (disch := first | omega | (simp only [lnS]; try omega; done)) [-getElem?_pos, -getElem?_neg, -notTuple, hn]
  refine hK _ _ ?_; clear hK K
  (refine aw_ret ?_; simp (disch := first | omega | (simp only [lnS]; try omega; done)) [-getElem?_pos, -getElem?_neg, thenQ_ret, scopeQ_ret, inBlockQ_ret, RQ, resL, resV, -notTuple, hn])
  exact ⟨h1, h3⟩
end
section
/-- These records are on the disk, in an area, under a mark. -/
structure Holds (D : DM) (a : Nat) (recs : List ByteArray) : Prop where
  three : 3 ≤ D.firm.length
  most : D.firm.length ≤ 1024
  area : a ≤ 1
  mark : firstL D = markL a (textsB recs).length
  room : (textsB recs).length ≤ (D.firm.length - 1) / 2 * 256
  data : (catK D.late (1 + a * ((D.firm.length - 1) / 2)) ((D.firm.length - 1) / 2)).take (textsB recs).length = textsB recs
  small : ∀ s ∈ recs, s.size ≤ 60000
theorem open_holds {D : DM} {a : Nat} {recs : List ByteArray} (h : Holds D a recs) : openJ D = (some ⟨D, recs, a, (textsB recs).length⟩, 0) := by
  have h1 := h.three
  have h2 := h.most
  have h3 := h.area
  have h4 := h.room
  have hn : (textsB recs).length < 4294967296 := by omega
  unfold openJ
  rw [if_neg (by omega), h.mark, if_neg mark_ne, isMark_mark (by omega) hn, mArea_mark (by omega), mSize_mark hn, if_neg (by simp; omega)]
  have hb : JM.bytes ⟨D, [], a, (textsB recs).length⟩ = textsB recs := h.data
  rw [hb, recs_back recs [] _ h.small (Nat.le_refl _)]
  rfl
/-- A disk whose first sector is blank: no records. -/
theorem open_blank {D : DM} (h1 : 3 ≤ D.firm.length) (h : firstL D = zl 64) : openJ D = (some ⟨D, [], 0, 0⟩, 0) := by
  unfold openJ
  rw [if_neg (by omega), if_pos h]
end
section
structure DM.Well (D : DM) : Prop where
  fuse : D.fuse = -1
  dead : D.dead = false
theorem write_well {D : DM} (h : D.Well) {at_ : Int} {t : ByteArray} (hok : okW D at_ t = true) : D.write at_ t = D.put at_ t ∧ D.writeV at_ t = 0 ∧ (D.put at_ t).Well := by
  have h1 := h.fuse
  have h2 := h.dead
  unfold DM.write DM.writeV DM.burn DM.burnV DM.put
  refine ⟨?_, ?_, ⟨h1, h2⟩⟩
  · simp [hok, h1, h2]
  · simp [hok, h1, h2]
theorem sync_well {D : DM} (h : D.Well) : D.sync = { D with firm := D.late, uns := [] } ∧ D.syncV = 0 ∧ (DM.Well { D with firm := D.late, uns := [] }) := by
  have h1 := h.fuse
  have h2 := h.dead
  unfold DM.sync DM.syncV DM.burnV DM.burn
  refine ⟨?_, ?_, ⟨h1, h2⟩⟩
  · simp [h1, h2]
  · simp [h1, h2]
theorem put_late (D : DM) (at_ : Int) (t : ByteArray) : (D.put at_ t).late = D.late.set at_.toNat t := late_app _ _ _
theorem settled_late {D : DM} (hu : D.uns = []) : D.late = D.firm := by
  unfold DM.late
  rw [hu]
  rfl
end
section
def DM.puts (D : DM) (ps : List (Nat × List Int)) : DM := ps.foldl (fun D p => D.put (p.1 : Nat) (strOfNums p.2)) D
theorem puts_app (D : DM) (ps : List (Nat × List Int)) (p : Nat × List Int) : D.puts (ps ++ [p]) = (D.puts ps).put (p.1 : Nat) (strOfNums p.2) := by
  unfold DM.puts
  rw [List.foldl_append]
  rfl
theorem puts_firm (D : DM) (ps : List (Nat × List Int)) : (D.puts ps).firm = D.firm := by
  unfold DM.puts
  induction ps generalizing D with
  | nil => rfl
  | cons p ps ih => rw [List.foldl_cons, ih]; rfl
theorem puts_late (D : DM) (A : Nat) (Y : List Int) : ∀ k, A + k ≤ D.firm.length → ∀ j, (D.puts (pgL A Y k)).late.getD j ⟨#[]⟩ = if A ≤ j ∧ j < A + k then strOfNums (fillB ((Y.drop (256 * (j - A))).take 256)) else D.late.getD j ⟨#[]⟩
  | 0, _, j => by
    rw [if_neg (by omega)]
    rfl
  | k + 1, h, j => by
    have ih := puts_late D A Y k (by omega) j
    have hl : (D.puts (pgL A Y k)).late.length = D.firm.length := by
      unfold DM.late
      rw [late_len, puts_firm]
    rw [show pgL A Y (k + 1) = pgL A Y k ++ [(A + k, fillB ((Y.drop (256 * k)).take 256))] from rfl, puts_app, put_late]
    simp only [Int.toNat_natCast]
    by_cases hj : j = A + k
    · subst hj
      rw [if_pos (by omega), List.getD_eq_getElem?_getD, List.getElem?_set_self (by omega)]
      simp
    · rw [List.getD_eq_getElem?_getD, List.getElem?_set_ne (Ne.symm hj), ← List.getD_eq_getElem?_getD, ih]
      by_cases h1 : A ≤ j ∧ j < A + k
      · rw [if_pos h1, if_pos (by omega)]
      · rw [if_neg h1, if_neg (by omega)]
end
section
abbrev Pgs := List (Nat × List Int)
def wrAll (D : DM) : Pgs → DM × Int
  | [] => (D, 0)
  | p :: ps => if D.writeV (p.1 : Nat) (strOfNums p.2) = 0 then wrAll (D.write (p.1 : Nat) (strOfNums p.2)) ps else (D.write (p.1 : Nat) (strOfNums p.2), D.writeV (p.1 : Nat) (strOfNums p.2))
theorem wrAll_snoc (p : Nat × List Int) : ∀ (l : Pgs) (D : DM), wrAll D (l ++ [p]) = if (wrAll D l).2 = 0 then ((wrAll D l).1.write (p.1 : Nat) (strOfNums p.2), (wrAll D l).1.writeV (p.1 : Nat) (strOfNums p.2)) else wrAll D l
  | [], D => by
    simp only [List.nil_append, wrAll, if_true]
    split
    · rename_i h; rw [h]
    · rfl
  | q :: l, D => by
    simp only [List.cons_append, wrAll]
    split
    · exact wrAll_snoc p l _
    · rename_i h
      simp [h]
theorem wrAll_stop : ∀ (l : Pgs) (D : DM) (i : Nat), (wrAll D (l.take i)).2 ≠ 0 → wrAll D l = wrAll D (l.take i)
  | [], D, i, h => by simp
  | q :: l, D, 0, h => by simp [wrAll] at h
  | q :: l, D, i + 1, h => by
    simp only [List.take_succ_cons, wrAll] at h ⊢
    split
    · rename_i h0
      rw [if_pos h0] at h
      exact wrAll_stop l _ i h
    · rfl
def wrSync (D : DM) (ps : Pgs) : DM × Int := if (wrAll D ps).2 = 0 then ((wrAll D ps).1.sync, (wrAll D ps).1.syncV) else wrAll D ps
def commitR (D : DM) (ps ms : Pgs) : DM × Int := if (wrSync D ps).2 = 0 then wrSync (wrSync D ps).1 ms else wrSync D ps
theorem write_few (D : DM) (a : Int) (t : ByteArray) : (D.write a t).uns.length ≤ D.uns.length + 1 := by
  unfold DM.write
  split
  · rw [burn_uns]; simp [DM.put]
  · omega
theorem sync_few (D : DM) : D.sync.uns.length ≤ D.uns.length := by
  unfold DM.sync
  split
  · exact Nat.le_refl _
  · split
    · simp
    · rw [burn_uns]; exact Nat.le_refl _
theorem wrAll_few : ∀ (l : Pgs) (D : DM), (wrAll D l).1.uns.length ≤ D.uns.length + l.length
  | [], D => by simp [wrAll]
  | q :: l, D => by
    have h1 := write_few D (q.1 : Nat) (strOfNums q.2)
    simp only [wrAll, List.length_cons]
    split
    · have := wrAll_few l (D.write (q.1 : Nat) (strOfNums q.2))
      omega
    · show (D.write (q.1 : Nat) (strOfNums q.2)).uns.length ≤ _
      omega
theorem wrSync_few (D : DM) (l : Pgs) : (wrSync D l).1.uns.length ≤ D.uns.length + l.length := by
  have := wrAll_few l D
  unfold wrSync
  split
  · have := sync_few (wrAll D l).1
    show (wrAll D l).1.sync.uns.length ≤ _
    omega
  · exact this
/-- How far a commit is: nothing yet, the pages settled, all settled. -/
def StC (D : DM) (ps ms : Pgs) (k : Nat) (Dk : DM) : Prop := if k = 0 then Dk = D else if k = 1 then wrSync D ps = (Dk, 0) else commitR D ps ms = (Dk, 0)
def pgK (ps ms : Pgs) (k : Nat) : Pgs := if k = 0 then ps else ms
theorem st_next {D Dk : DM} {ps ms : Pgs} {k : Nat} (hk : k < 2) (h : StC D ps ms k Dk) : ((wrSync Dk (pgK ps ms k)).2 ≠ 0 → commitR D ps ms = wrSync Dk (pgK ps ms k)) ∧ ((wrSync Dk (pgK ps ms k)).2 = 0 → StC D ps ms (k + 1) (wrSync Dk (pgK ps ms k)).1) := by
  have : k = 0 ∨ k = 1 := by omega
  rcases this with rfl | rfl
  · have h : Dk = D := h
    subst h
    simp only [pgK, if_true]
    refine ⟨fun h => by unfold commitR; rw [if_neg h], fun h => ?_⟩
    show wrSync Dk ps = _
    rw [← h]
  · have h : wrSync D ps = (Dk, 0) := h
    have e : commitR D ps ms = wrSync Dk ms := by unfold commitR; rw [h]; rfl
    have e2 : pgK ps ms 1 = ms := rfl
    rw [e2]
    refine ⟨fun _ => e, fun h => ?_⟩
    show commitR D ps ms = _
    rw [e, ← h]
theorem st_few {D Dk : DM} {ps ms : Pgs} {k : Nat} (hk : k < 2) (h : StC D ps ms k Dk) : Dk.uns.length + (pgK ps ms k).length ≤ D.uns.length + ps.length + ms.length := by
  have : k = 0 ∨ k = 1 := by omega
  rcases this with rfl | rfl
  · have h : Dk = D := h
    subst h
    simp only [pgK, if_true]
    omega
  · have h : wrSync D ps = (Dk, 0) := h
    have := wrSync_few D ps
    rw [h] at this
    have e2 : pgK ps ms 1 = ms := rfl
    rw [e2]
    show Dk.uns.length + ms.length ≤ _
    simp only at this
    omega
theorem wrAll_fail {D Di : DM} {l : Pgs} {i : Nat} {p : Nat × List Int} (hp : l[i]? = some p) (h : wrAll D (l.take i) = (Di, 0)) (he : Di.writeV (p.1 : Nat) (strOfNums p.2) ≠ 0) : wrSync D l = (Di.write (p.1 : Nat) (strOfNums p.2), Di.writeV (p.1 : Nat) (strOfNums p.2)) := by
  have e : wrAll D (l.take (i + 1)) = (Di.write (p.1 : Nat) (strOfNums p.2), Di.writeV (p.1 : Nat) (strOfNums p.2)) := by
    rw [List.take_add_one, hp, Option.toList_some, wrAll_snoc, h]
    rfl
  have e2 := wrAll_stop l D (i + 1) (by rw [e]; exact he)
  rw [e] at e2
  unfold wrSync
  rw [e2, if_neg he]
theorem wrAll_on {D Di : DM} {l : Pgs} {i : Nat} {p : Nat × List Int} (hp : l[i]? = some p) (h : wrAll D (l.take i) = (Di, 0)) (he : Di.writeV (p.1 : Nat) (strOfNums p.2) = 0) : wrAll D (l.take (i + 1)) = (Di.write (p.1 : Nat) (strOfNums p.2), 0) := by
  rw [List.take_add_one, hp, Option.toList_some, wrAll_snoc, h]
  simp [he]
attribute [local simp] wb_bool wb_undef XL_nil XL_cons XLc_val XLc_call step1_eq stepW_t stepW_f stepC_n stepC_s stepX_s stepX_n stepN_s calleeX oneV xop_eq xopR_s xopR_n wantedA_eq wantedG_n wantedG_s plain1_int plain1_bool plain1_string bits_i64 bits_u64 bits_u32 bits_u16 bits_u8 xeqA xagg xcmp xarr allK_iv num_iv calleeOf xread xeff xbin xint xnil xun xstr xload xconv xpart xfield xfieldAddr xindexAddr xindex bnd asInt? xslice xlen xmin xmax xbuild xfill xappend xapp2 xappstr xappmk xcap xcopy xcells eval_tmp eval_const put_at put_none fr0_at cells_agg cells_int cells_bool cells_string cells_ptr cells_slice notTuple tab iv_all hget_app hget_app0 hget_cons0 hget_cons set_app set_app0 setR setR_one QL_nil QL_cons QLc_val stepQ_t stepQ_f stepQC_n stepQC_s stepQX_s SL_nil SL_cons SLc_val stepS_t stepS_f ltT ltF leT leF eqT eqF ltTn ltFn leTn leFn eqTn eqFn beqT beqF bneT bneF wi64 wu64 wu32 wu16 wu8 tmodP tdivP hgetL hgetNe hgetEq setL nums_def nums_len Nat.succ_le_of_lt List.getElem?_cons_zero List.getElem?_cons_succ Option.getD_some Int.toNat_add Int.toNat_mul agB agI agS agP agL agA okB okI okS okP okSl okA
/-- A slice that shows pages, as long as X stays. -/
structure PgV (G : AH) (v : Value) (ps : Pgs) (X : List Nat) : Prop where
  nt : notTuple v = true
  len : xlen Tryz.prog 113 v = some (.int .i64 ps.length)
  at_ : ∀ (i : Nat) (p : Nat × List Int), ps[i]? = some p → ∃ pa, xindexAddr Tryz.prog 113 v (.int .i64 (i : Nat)) = some pa ∧
    ∀ G' : AH, (∀ j ∈ X, hget G' j = hget G j) → xload Tryz.prog 112 pa G' = some (.agg #[.int .i64 (p.1 : Nat), .string (strOfNums p.2)])
theorem PgV.low {G G' : AH} {v : Value} {ps : Pgs} {X : List Nat} (h : PgV G v ps X) (hl : ∀ j ∈ X, hget G' j = hget G j) : PgV G' v ps X :=
  ⟨h.nt, h.len, fun i p hp => let ⟨pa, h1, h2⟩ := h.at_ i p hp; ⟨pa, h1, fun G'' hg => h2 G'' (fun j hj => (hg j hj).trans (hl j hj))⟩⟩
theorem pgC_at {ps : Pgs} : ∀ {i : Nat} {p : Nat × List Int}, ps[i]? = some p → ((pgC ps).drop (i * 2)).take 2 = pgV p := by
  induction ps with
  | nil => intro i p h; simp at h
  | cons q ps ih =>
    intro i p h
    have e : pgC (q :: ps) = pgV q ++ pgC ps := by simp [pgC]
    rw [e]
    cases i with
    | zero =>
      simp at h
      subst h
      simp [pgV]
    | succ i =>
      have hl : (pgV q).length = 2 := rfl
      rw [show (i + 1) * 2 = (pgV q).length + i * 2 by rw [hl]; omega, List.drop_append, List.drop_of_length_le (by omega), List.nil_append, show (pgV q).length + i * 2 - (pgV q).length = i * 2 by omega]
      exact ih (by simpa using h)
theorem OwnF.pgs {G : AH} {v : Value} {ps : Pgs} {F : List Nat} (h : OwnF G v 112 2 (pgC ps) F) : PgV G v ps F := by
  rcases h with ⟨rfl, hc, rfl⟩ | ⟨j, len, rfl, h2, h3, rfl⟩
  · have : ps = [] := by
      have := pgC_len ps
      rw [hc] at this
      simp at this
      exact List.length_eq_zero_iff.1 (by omega)
    subst this
    exact ⟨rfl, by simp [xlen], fun i p hp => by simp at hp⟩
  · rw [pgC_len] at h3
    have hlen : len = ps.length := by omega
    subst hlen
    refine ⟨rfl, by simp [xlen], fun i p hp => ⟨.pointer (some ⟨j, 0 + i * 2, none⟩), ?_, fun G' hg => ?_⟩⟩
    · have := (List.getElem?_eq_some_iff.1 hp).1
      simp [xindexAddr, this]
    · have hi := (List.getElem?_eq_some_iff.1 hp).1
      have hle : 0 + i * 2 + 2 ≤ (pgC ps).length := by rw [pgC_len]; omega
      have := pgC_at hp
      simp only [xload, hg j (by simp), h2]
      simp [this, pgV, pgC_len]
      omega
end
section
/-- What stands while a commit goes on: the journal over the disk Dk, the two rows of pages. -/
structure CmS (H G : AH) (q d : Nat) (rv : Value) (FD FR : List Nat) (J : JM) (Dk : DM) (jb : Nat) (v1 v2 : Value) (X : List Nat) (ps ms : Pgs) : Prop where
  jr : ∃ FDk, JrR G q d rv FDk FR { J with D := Dk } ∧ Fr H G (q :: (FD ++ FR)) (q :: (FDk ++ FR)) ∧ ∀ j ∈ FDk, j ∉ jb :: X
  two : hget G jb = some ⟨[v1, v2], 113, some 1⟩
  p1 : PgV G v1 ps X
  p2 : PgV G v2 ms X
  new : ∀ j ∈ jb :: X, H.length ≤ j ∧ j < G.length
theorem CmS.low {H G G' : AH} {q d : Nat} {rv : Value} {FD FR : List Nat} {J : JM} {Dk : DM} {jb : Nat} {v1 v2 : Value} {X : List Nat} {ps ms : Pgs} (h : CmS H G q d rv FD FR J Dk jb v1 v2 X ps ms) (hl : Low G.length G G') : CmS H G' q d rv FD FR J Dk jb v1 v2 X ps ms := by
  obtain ⟨FDk, h1, h2, h3⟩ := h.jr
  have hlt : ∀ j ∈ q :: (FDk ++ FR), j < G.length := fun j hj => by
    simp only [List.mem_cons, List.mem_append] at hj
    rcases hj with rfl | hj | hj
    · exact hget_lt h1.hq
    · exact h1.hd.lt j hj
    · exact h1.hr.lt j hj
  refine ⟨⟨FDk, h1.low (fun j hj => hl.1 j (hlt j hj)) hl.2, h2.trans ⟨hl.2, fun j hj _ => hl.1 j hj, fun j hj => .inl hj⟩, h3⟩, (hl.1 jb (h.new jb (by simp)).2).trans h.two, h.p1.low (fun j hj => hl.1 j (h.new j (by simp [hj])).2), h.p2.low (fun j hj => hl.1 j (h.new j (by simp [hj])).2), fun j hj => ⟨(h.new j hj).1, Nat.lt_of_lt_of_le (h.new j hj).2 hl.2⟩⟩
/-- Behind what turned the disk. -/
theorem JrR.turn {G G' : AH} {q d : Nat} {rv : Value} {FD FR FD' : List Nat} {J : JM} {D' : DM} (h : JrR G q d rv FD FR J) (hd : Dk G' d FD' D') (hf : Fr G G' FD FD') : JrR G' q d rv FD' FR { J with D := D' } := by
  have hql := hget_lt h.hq
  refine ⟨(hf.out q hql h.qd).trans h.hq, hd, h.hr.low (fun j hj => hf.out j (h.hr.lt j hj) (fun hm => h.dr j hm hj)) hf.len, fun hm => ?_, h.qr, fun j hj hm => ?_⟩
  · rcases hf.new q hm with h1 | h1
    · exact h.qd h1
    · omega
  · rcases hf.new j hj with h1 | h1
    · exact h.dr j h1 hm
    · have := h.hr.lt j hm
      omega
theorem fr_wide {G G' : AH} {q : Nat} {FD FD' FR : List Nat} (hf : Fr G G' FD FD') : Fr G G' (q :: (FD ++ FR)) (q :: (FD' ++ FR)) := by
  refine ⟨hf.len, fun j hj hn => hf.out j hj (fun hm => hn (by simp [hm])), fun j hj => ?_⟩
  simp only [List.mem_cons, List.mem_append] at hj ⊢
  rcases hj with h | h | h
  · exact .inl (.inl h)
  · rcases hf.new j h with h | h
    · exact .inl (.inr (.inl h))
    · exact .inr h
  · exact .inl (.inr (.inr h))
theorem CmS.turn {H G G' : AH} {q d : Nat} {rv : Value} {FD FR : List Nat} {J : JM} {Dk D' : DM} {jb : Nat} {v1 v2 : Value} {X FDk FD' : List Nat} {ps ms : Pgs} (h : CmS H G q d rv FD FR J Dk jb v1 v2 X ps ms)
    (h1 : JrR G q d rv FDk FR { J with D := Dk }) (h2 : Fr H G (q :: (FD ++ FR)) (q :: (FDk ++ FR))) (h3 : ∀ j ∈ FDk, j ∉ jb :: X) (hd : _root_.Go.Proofs.YtgamobjfeaeddaaGreatDoor.Dk G' d FD' D') (hf : Fr G G' FDk FD') : CmS H G' q d rv FD FR J D' jb v1 v2 X ps ms := by
  have keep : ∀ j ∈ jb :: X, hget G' j = hget G j := fun j hj => hf.out j (h.new j hj).2 (fun hm => h3 j hm hj)
  refine ⟨⟨FD', h1.turn hd hf, h2.trans (fr_wide hf), fun j hj hm => ?_⟩, (keep jb (by simp)).trans h.two, h.p1.low (fun j hj => keep j (by simp [hj])), h.p2.low (fun j hj => keep j (by simp [hj])), fun j hj => ⟨(h.new j hj).1, Nat.lt_of_lt_of_le (h.new j hj).2 hf.len⟩⟩
  rcases hf.new j hj with h4 | h4
  · exact h3 j h4 hm
  · have := (h.new j hm).2
    omega
attribute [local irreducible] markL pgL fillB commitR JM.pages
attribute [local simp] wb_bool wb_undef XL_nil XL_cons XLc_val XLc_call step1_eq stepW_t stepW_f stepC_n stepC_s stepX_s stepX_n stepN_s calleeX oneV xop_eq xopR_s xopR_n wantedA_eq wantedG_n wantedG_s plain1_int plain1_bool plain1_string bits_i64 bits_u64 bits_u32 bits_u16 bits_u8 xeqA xagg xcmp xarr allK_iv num_iv calleeOf xread xeff xbin xint xnil xun xstr xload xconv xpart xfield xfieldAddr xindexAddr xindex bnd asInt? xslice xlen xmin xmax xbuild xfill xappend xapp2 xappstr xappmk xcap xcopy xcells eval_tmp eval_const put_at put_none fr0_at cells_agg cells_int cells_bool cells_string cells_ptr cells_slice notTuple tab iv_all hget_app hget_app0 hget_cons0 hget_cons set_app set_app0 setR setR_one QL_nil QL_cons QLc_val stepQ_t stepQ_f stepQC_n stepQC_s stepQX_s SL_nil SL_cons SLc_val stepS_t stepS_f ltT ltF leT leF eqT eqF ltTn ltFn leTn leFn eqTn eqFn beqT beqF bneT bneF wi64 wu64 wu32 wu16 wu8 tmodP tdivP hgetL hgetNe hgetEq setL nums_def nums_len Nat.succ_le_of_lt List.getElem?_cons_zero List.getElem?_cons_succ Option.getD_some Int.toNat_add Int.toNat_mul agB agI agS agP agL agA okB okI okS okP okSl okA
theorem nt_ptrJ (a : Option Addr) : notTuple (.pointer a) = true := rfl
theorem one_pg {G : AH} {j : Nat} {p : Nat × List Int} (h : hget G j = some ⟨pgV p, 112, some 2⟩) : PgV G (.slice (some ⟨j, 0, none⟩) 1 1) [p] [j] :=
  OwnF.pgs (.inr ⟨j, 1, rfl, by rw [h]; simp [pgC], by simp [pgC, pgV], rfl⟩)
theorem PgV.wide {G : AH} {v : Value} {ps : Pgs} {X Y : List Nat} (h : PgV G v ps X) (hs : ∀ j ∈ X, j ∈ Y) : PgV G v ps Y :=
  ⟨h.nt, h.len, fun i p hp => let ⟨pa, h1, h2⟩ := h.at_ i p hp; ⟨pa, h1, fun G' hg => h2 G' (fun j hj => hg j (hs j hj))⟩⟩
theorem cms_start {H G : AH} {q d : Nat} {rv : Value} {FD FR : List Nat} {J : JM} {jb : Nat} {v1 v2 : Value} {X1 X2 : List Nat} {ps ms : Pgs} (h : JrR H q d rv FD FR J) (hl : Low H.length H G) (h2 : hget G jb = some ⟨[v1, v2], 113, some 1⟩)
    (p1 : PgV G v1 ps X1) (p2 : PgV G v2 ms X2) (hX : ∀ j ∈ jb :: (X1 ++ X2), H.length ≤ j ∧ j < G.length) : CmS H G q d rv FD FR J J.D jb v1 v2 (X1 ++ X2) ps ms := by
  have hlt : ∀ j ∈ q :: (FD ++ FR), j < H.length := fun j hj => by
    simp only [List.mem_cons, List.mem_append] at hj
    rcases hj with rfl | hj | hj
    · exact hget_lt h.hq
    · exact h.hd.lt j hj
    · exact h.hr.lt j hj
  refine ⟨⟨FD, h.low (fun j hj => hl.1 j (hlt j hj)) hl.2, ⟨hl.2, fun j hj _ => hl.1 j hj, fun j hj => .inl hj⟩, fun j hj hm => ?_⟩, h2, p1.wide (fun j hj => by simp [hj]), p2.wide (fun j hj => by simp [hj]), hX⟩
  have := (hX j hm).1
  have := h.hd.lt j hj
  omega
/-- What a commit leaves. -/
def CommitQ (H : AH) (q d : Nat) (rv : Value) (FD FR : List Nat) (J : JM) (a S : Nat) (r : DM × Int) (v' : Value) (H' : AH) : Prop :=
  v' = .int .i64 (if r.2 = 0 then 0 else 7) ∧ ∃ FD', JrR H' q d rv FD' FR (if r.2 = 0 then ⟨r.1, J.recs, a, S⟩ else ⟨r.1, J.recs, J.area, J.size⟩) ∧ Fr H H' (q :: (FD ++ FR)) (q :: (FD' ++ FR))
theorem commit_go {nro : Nat} {H : AH} (hnl : nro ≤ H.length) {q d : Nat} {rv : Value} {FD FR : List Nat} {J : JM} (h : JrR H q d rv FD FR J) (hn : ∀ j ∈ q :: (FD ++ FR), nro ≤ j) (a b S : Nat) (ha : a ≤ 1) (xs M mb : List Int) (ps : Pgs) (hS : b + xs.length = S) (hSb : S ≤ 200000) (hfew : J.D.uns.length + ps.length + 1 < 1000)
    (hmk : AC Tryz.prog H.length gm 49 #[.int .i64 (a : Nat), .int .i64 (S : Nat)] H (fun v' _ => v' = .string (strOfNums M)))
    (hfl : VC Tryz.prog 65 #[.string (strOfNums M)] (.string (strOfNums mb)))
    (hpg : ∀ G : AH, Low H.length H G → AC Tryz.prog nro gm 66 #[.pointer (some ⟨q, 0, none⟩), .int .i64 (a : Nat), .int .i64 (b : Nat), .string (strOfNums xs)] G
      (fun v' H' => Low G.length G H' ∧ ∃ F, OwnF H' v' 112 2 (pgC ps) F ∧ ∀ j ∈ F, G.length ≤ j)) :
    AC Tryz.prog nro gm 38 #[.pointer (some ⟨q, 0, none⟩), .int .i64 (a : Nat), .int .i64 (b : Nat), .string (strOfNums xs)] H
      (fun v' H' => CommitQ H q d rv FD FR J a S (commitR J.D ps [(0, mb)]) v' H') := by
  have hq := h.hq
  have hql := hget_lt hq
  have hxs := sn_size xs
  have hlt : ∀ j ∈ q :: (FD ++ FR), j < H.length := fun j hj => by
    simp only [List.mem_cons, List.mem_append] at hj
    rcases hj with rfl | hj | hj
    · exact hget_lt h.hq
    · exact h.hd.lt j hj
    · exact h.hr.lt j hj
  refine ac_of_aw Tryz.func38 rfl Tryz.ntmps38 Tryz.results38 (by simp) ?_
  refine aw_seq ?_
  (refine aw_ops (by kernel_rfl) (fun K hK => ?_); simp (disch := first | omega | (simp only [lnS]; try omega; done)) [-getElem?_pos, -getElem?_neg]; refine hK _ _ ?_; clear hK K)
  refine aw_scope ?_
  refine aw_seq ?_
  have hSi : (b : Int) + (xs.length : Int) = (S : Nat) := by omega
  (refine aw_ops (by kernel_rfl) (fun K hK => ?_); simp (disch := first | omega | (simp only [lnS]; try omega; done)) [-getElem?_pos, -getElem?_neg, hxs, hSi]; refine hK _ _ ?_; clear hK K)
  refine aw_seq ?_
  refine aw_ops (by kernel_rfl) (fun K hK => ?_)
  simp (disch := first | omega | (simp only [lnS]; try omega; done)) [-getElem?_pos, -getElem?_neg]
  refine ⟨by kernel_rfl, ac_of_rc hmk (by simp [pv_iv, pv_int, pv_bool, pv_string, pv_tup2, pv_tup3, iv_plain, p2_int, p2_bool, p2_string]) ?_⟩
  try simp (disch := first | omega | (simp only [lnS]; try omega; done)) [-getElem?_pos, -getElem?_neg]
  refine ⟨by kernel_rfl, ac_of_vc (by simp [pv_iv, pv_int, pv_bool, pv_string, pv_tup2, pv_tup3, iv_plain, p2_int, p2_bool, p2_string]) hfl ?_⟩
  simp (disch := first | omega | (simp only [lnS]; try omega; done)) [-getElem?_pos, -getElem?_neg]
  refine hK _ _ ?_; clear hK K
  refine aw_seq ?_
  (refine aw_ops (by kernel_rfl) (fun K hK => ?_); simp (disch := first | omega | (simp only [lnS]; try omega; done)) [-getElem?_pos, -getElem?_neg]; refine hK _ _ ?_; clear hK K)
  refine aw_seq ?_
  refine aw_label ?_
  refine aw_seq ?_
  refine aw_cut (fun α G => ∃ FD' r, r = commitR J.D ps [(0, mb)] ∧ α 11 = .int .i64 r.2 ∧ JrR G q d rv FD' FR { J with D := r.1 } ∧ Fr H G (q :: (FD ++ FR)) (q :: (FD' ++ FR)) ∧ α 0 = .pointer (some ⟨q, 0, none⟩) ∧ α 1 = .int .i64 (a : Nat) ∧ α 9 = .int .i64 (S : Nat)) ?_ ?_
  · refine aw_seq ?_
    refine aw_cut (fun α G => ∃ jb v1 v2 X, CmS H G q d rv FD FR J J.D jb v1 v2 X ps [(0, mb)] ∧ α 0 = .pointer (some ⟨q, 0, none⟩) ∧ α 1 = .int .i64 (a : Nat) ∧ α 9 = .int .i64 (S : Nat) ∧ α 11 = .int .i64 0 ∧ α 32 = .slice (some ⟨jb, 0, none⟩) 2 2 ∧ α 33 = .int .i64 2 ∧ α 34 = .int .i64 0) ?_ ?_
    · have r2 : List.range 2 = [0, 1] := rfl
      (refine aw_ptree [0, 1, 2, 3, 9] 5 [[4, 5, 6, 7, 8], [5, 4, 6, 7, 8], [5, 6, 4, 7, 8]] (by kernel_rfl) (by kernel_rfl) (by kernel_rfl) (fun K hK => ?_)); simp only [sel, List.getElem?_cons_succ, List.getElem?_cons_zero]; simp (disch := first | omega | (simp only [lnS]; try omega; done)) [-getElem?_pos, -getElem?_neg, -notTuple, nt_strJ, nt_slJ, nt_intJ, nt_aggJ, nt_ptrJ, r2, plain_nil, XO_s, XO_z, XLk_val, XLk_call, headsO, behind, List.length_cons, List.length_nil, List.mem_cons, List.not_mem_nil, or_false, forall_eq_or_imp, forall_eq, List.contains_cons, List.contains_nil]
      refine ⟨⟨by kernel_rfl, ?_⟩, ⟨by kernel_rfl, ?_⟩, ⟨by kernel_rfl, ?_⟩⟩
      · refine AC.mono (hpg _ (Low.push (Nat.le_refl _) _)) ?_
        rintro v1 G1 ⟨hl1, F1, ho1, hf1⟩
        have hsh := own_shape ho1
        have hgm : hget G1 H.length = some ⟨[.int .i64 0, .string (strOfNums mb)], 112, none⟩ := (hl1.1 H.length (by simp)).trans (by simp)
        have hg1 := hl1.2
        simp only [List.length_append, List.length_cons, List.length_nil] at hg1
        simp (disch := first | omega | (simp only [lnS]; try omega; done)) [-getElem?_pos, -getElem?_neg, hgm, -notTuple, nt_strJ, nt_slJ, nt_intJ, nt_aggJ, hsh.1, hsh.2, r2, plain_nil, XO_s, XO_z, XLk_val, XLk_call, headsO, behind, List.length_cons, List.length_nil, List.mem_cons, List.not_mem_nil, or_false, forall_eq_or_imp, forall_eq, List.contains_cons, List.contains_nil]
        refine hK _ _ ?_; clear hK K
        refine ⟨G1.length + 1, v1, _, F1 ++ [G1.length], cms_start h ⟨fun j hj => by rw [hget_left (by omega), hl1.1 j (by simp; omega), hget_left hj], by simp; omega⟩ (by rw [hget_app]; rfl) (ho1.low (fun j hj => hget_left (ho1.lt j hj))).pgs (one_pg (j := G1.length) (by rw [hget_app0]; rfl)) (fun j hj => ?_), by (first | (simp [put_at, put_none, fr0_at]; done) | rfl), by (first | (simp [put_at, put_none, fr0_at]; done) | rfl), by (first | (simp [put_at, put_none, fr0_at]; done) | rfl), by (first | (simp [put_at, put_none, fr0_at]; done) | rfl), by (first | (simp [put_at, put_none, fr0_at]; done) | rfl), by (first | (simp [put_at, put_none, fr0_at]; done) | rfl), by (first | (simp [put_at, put_none, fr0_at]; done) | rfl)⟩
        simp only [List.mem_cons, List.mem_append, List.not_mem_nil, or_false] at hj
        rcases hj with rfl | hj | rfl
        · exact ⟨by omega, by simp⟩
        · have q1 := hf1 j hj
          have q2 := ho1.lt j hj
          simp only [List.length_append, List.length_cons, List.length_nil] at q1 ⊢
          omega
        · exact ⟨by omega, by simp; try omega⟩
      · refine AC.mono (hpg _ (Low.push (Nat.le_refl _) _)) ?_
        rintro v1 G1 ⟨hl1, F1, ho1, hf1⟩
        have hsh := own_shape ho1
        have hg1 := hl1.2
        simp only [List.length_append, List.length_cons, List.length_nil] at hg1
        simp (disch := first | omega | (simp only [lnS]; try omega; done)) [-getElem?_pos, -getElem?_neg, -notTuple, nt_strJ, nt_slJ, nt_intJ, nt_aggJ, hsh.1, hsh.2, r2, plain_nil, XO_s, XO_z, XLk_val, XLk_call, headsO, behind, List.length_cons, List.length_nil, List.mem_cons, List.not_mem_nil, or_false, forall_eq_or_imp, forall_eq, List.contains_cons, List.contains_nil]
        refine hK _ _ ?_; clear hK K
        refine ⟨G1.length + 1, v1, _, F1 ++ [G1.length], cms_start h ⟨fun j hj => by rw [hget_left (by omega), hl1.1 j (by simp; omega), hget_left hj], by simp; omega⟩ (by rw [hget_app]; rfl) (ho1.low (fun j hj => hget_left (ho1.lt j hj))).pgs (one_pg (j := G1.length) (by rw [hget_app0]; rfl)) (fun j hj => ?_), by (first | (simp [put_at, put_none, fr0_at]; done) | rfl), by (first | (simp [put_at, put_none, fr0_at]; done) | rfl), by (first | (simp [put_at, put_none, fr0_at]; done) | rfl), by (first | (simp [put_at, put_none, fr0_at]; done) | rfl), by (first | (simp [put_at, put_none, fr0_at]; done) | rfl), by (first | (simp [put_at, put_none, fr0_at]; done) | rfl), by (first | (simp [put_at, put_none, fr0_at]; done) | rfl)⟩
        simp only [List.mem_cons, List.mem_append, List.not_mem_nil, or_false] at hj
        rcases hj with rfl | hj | rfl
        · exact ⟨by omega, by simp⟩
        · have q1 := hf1 j hj
          have q2 := ho1.lt j hj
          simp only [List.length_append, List.length_cons, List.length_nil] at q1 ⊢
          omega
        · exact ⟨by omega, by simp; try omega⟩
      · refine AC.mono (hpg _ (Low.push (Nat.le_refl _) _)) ?_
        rintro v1 G1 ⟨hl1, F1, ho1, hf1⟩
        have hsh := own_shape ho1
        have hg1 := hl1.2
        simp only [List.length_append, List.length_cons, List.length_nil] at hg1
        simp (disch := first | omega | (simp only [lnS]; try omega; done)) [-getElem?_pos, -getElem?_neg, -notTuple, nt_strJ, nt_slJ, nt_intJ, nt_aggJ, hsh.1, hsh.2, r2, plain_nil, XO_s, XO_z, XLk_val, XLk_call, headsO, behind, List.length_cons, List.length_nil, List.mem_cons, List.not_mem_nil, or_false, forall_eq_or_imp, forall_eq, List.contains_cons, List.contains_nil]
        refine hK _ _ ?_; clear hK K
        refine ⟨G1.length, v1, _, F1 ++ [H.length + 1], cms_start h ⟨fun j hj => by rw [hget_left (by omega), hl1.1 j (by simp; omega), hget_left hj], by simp; omega⟩ (by rw [hget_app0]; rfl) (ho1.low (fun j hj => hget_left (ho1.lt j hj))).pgs (one_pg (j := H.length + 1) (by rw [hget_left (by omega), hl1.1 _ (by simp), hget_app]; rfl)) (fun j hj => ?_), by (first | (simp [put_at, put_none, fr0_at]; done) | rfl), by (first | (simp [put_at, put_none, fr0_at]; done) | rfl), by (first | (simp [put_at, put_none, fr0_at]; done) | rfl), by (first | (simp [put_at, put_none, fr0_at]; done) | rfl), by (first | (simp [put_at, put_none, fr0_at]; done) | rfl), by (first | (simp [put_at, put_none, fr0_at]; done) | rfl), by (first | (simp [put_at, put_none, fr0_at]; done) | rfl)⟩
        simp only [List.mem_cons, List.mem_append, List.not_mem_nil, or_false] at hj
        rcases hj with rfl | hj | rfl
        · exact ⟨by omega, by simp⟩
        · have q1 := hf1 j hj
          have q2 := ho1.lt j hj
          simp only [List.length_append, List.length_cons, List.length_nil] at q1 ⊢
          omega
        · exact ⟨by omega, by simp; try omega⟩
    rintro α G ⟨jb, v1, v2, X, hC, h0, h1, h9, h11, h32, h33, h34⟩
    refine aw_block ?_
    refine aw_loop (fun c α G => ∃ (k : Nat) (Dk : DM), k + c = 2 ∧ StC J.D ps [(0, mb)] k Dk ∧ CmS H G q d rv FD FR J Dk jb v1 v2 X ps [(0, mb)] ∧ α 0 = .pointer (some ⟨q, 0, none⟩) ∧ α 1 = .int .i64 (a : Nat) ∧ α 9 = .int .i64 (S : Nat) ∧ α 11 = .int .i64 0 ∧ α 32 = .slice (some ⟨jb, 0, none⟩) 2 2 ∧ α 33 = .int .i64 2 ∧ α 34 = .int .i64 (k : Nat)) 2 ?_ ?_
    · exact ⟨0, J.D, rfl, rfl, hC, h0, h1, h9, h11, h32, h33, h34⟩
    clear h0 h1 h9 h11 h32 h33 h34 hC α G
    rintro c α G ⟨k, Dk, hkc, hst, hC, h0, h1, h9, h11, h32, h33, h34⟩
    have hnF : ∀ (G : AH) (FDk : List Nat), Fr H G (q :: (FD ++ FR)) (q :: (FDk ++ FR)) → ∀ j ∈ FDk, nro ≤ j := fun G FDk hf j hj => by
      rcases hf.new j (by simp [hj]) with h1 | h1
      · exact hn j h1
      · omega
    refine aw_seq ?_
    (refine aw_ops (by kernel_rfl) (fun K hK => ?_); simp (disch := first | omega | (simp only [lnS]; try omega; done)) [-getElem?_pos, -getElem?_neg, h34, h33]; refine hK _ _ ?_; clear hK K)
    refine aw_seq ?_
    by_cases hk : k < 2
    case neg =>
      refine aw_f (by (first | (simp [eval_tmp, put_at, hk]; done) | (simp [eval_tmp, put_at, hk]; omega))) (by kernel_rfl) ?_
      refine aw_exit ?_
      have hk2 : k = 2 := by omega
      subst hk2
      have hst : commitR J.D ps [(0, mb)] = (Dk, 0) := hst
      obtain ⟨FDk, j1, j2, _⟩ := hC.jr
      exact ⟨FDk, _, rfl, by rw [hst]; (first | (simp [put_at, put_none, fr0_at, h11]; done) | rfl), by rw [hst]; exact j1, j2, by (first | (simp [put_at, put_none, fr0_at, h0]; done) | rfl), by (first | (simp [put_at, put_none, fr0_at, h1]; done) | rfl), by (first | (simp [put_at, put_none, fr0_at, h9]; done) | rfl)⟩
    refine aw_t (by (first | (simp [eval_tmp, put_at, hk]; done) | (simp [eval_tmp, put_at, hk]; omega))) (by kernel_rfl) ?_
    refine aw_skip ?_
    refine aw_seq ?_
    refine aw_block ?_
    obtain ⟨vk, hpk, hck⟩ : ∃ vk, PgV G vk (pgK ps [(0, mb)] k) X ∧ [v1, v2][k]? = some vk := by
      have : k = 0 ∨ k = 1 := by omega
      rcases this with rfl | rfl
      · exact ⟨v1, hC.p1, rfl⟩
      · exact ⟨v2, hC.p2, rfl⟩
    have hfw := st_few hk hst
    have hnx := st_next hk hst
    simp only [List.length_cons, List.length_nil] at hfw
    generalize hpq : pgK ps [(0, mb)] k = pk at *
    have hnt := hpk.nt
    have hln := hpk.len
    have htw := hC.two
    refine aw_seq ?_
    (refine aw_ops (by kernel_rfl) (fun K hK => ?_); simp (disch := first | omega | (simp only [lnS]; try omega; done)) [-getElem?_pos, -getElem?_neg, h32, h34, htw, hck, -notTuple, hnt]; refine hK _ _ ?_; clear hK K)
    refine aw_seq ?_
    refine aw_seq ?_
    (refine aw_ops (by kernel_rfl) (fun K hK => ?_); simp (disch := first | omega | (simp only [lnS]; try omega; done)) [-getElem?_pos, -getElem?_neg, -notTuple, hnt, -xlen, hln]; refine hK _ _ ?_; clear hK K)
    refine aw_block ?_
    refine aw_loop (fun c' α G => ∃ (i : Nat) (Di : DM), i + c' = pk.length ∧ wrAll Dk (pk.take i) = (Di, 0) ∧ CmS H G q d rv FD FR J Di jb v1 v2 X ps [(0, mb)] ∧ α 0 = .pointer (some ⟨q, 0, none⟩) ∧ α 1 = .int .i64 (a : Nat) ∧ α 9 = .int .i64 (S : Nat) ∧ α 11 = .int .i64 0 ∧ α 32 = .slice (some ⟨jb, 0, none⟩) 2 2 ∧ α 33 = .int .i64 2 ∧ α 34 = .int .i64 (k : Nat) ∧ α 38 = vk ∧ α 39 = .int .i64 (pk.length : Nat) ∧ α 40 = .int .i64 (i : Nat)) pk.length ?_ ?_
    · exact ⟨0, Dk, by omega, rfl, hC, by (first | (simp [put_at, put_none, fr0_at, h0]; done) | rfl), by (first | (simp [put_at, put_none, fr0_at, h1]; done) | rfl), by (first | (simp [put_at, put_none, fr0_at, h9]; done) | rfl), by (first | (simp [put_at, put_none, fr0_at, h11]; done) | rfl), by (first | (simp [put_at, put_none, fr0_at, h32]; done) | rfl), by (first | (simp [put_at, put_none, fr0_at, h33]; done) | rfl), by (first | (simp [put_at, put_none, fr0_at, h34]; done) | rfl), by (first | (simp [put_at, put_none, fr0_at]; done) | rfl), by (first | (simp [put_at, put_none, fr0_at]; done) | rfl), by (first | (simp [put_at, put_none, fr0_at]; done) | rfl)⟩
    clear h0 h1 h9 h11 h32 h33 h34 hC htw hpk hnt hln α G
    rintro c' α G ⟨i, Di, hic, hwr, hC, h0, h1, h9, h11, h32, h33, h34, h38, h39, h40⟩
    have hpk : PgV G vk pk X := by
      have : k = 0 ∨ k = 1 := by omega
      rcases this with rfl | rfl
      · simp at hck; subst hck; rw [← hpq]; exact hC.p1
      · simp at hck; subst hck; rw [← hpq]; exact hC.p2
    have hnt := hpk.nt
    have hln := hpk.len
    obtain ⟨FDi, j1, j2, j3⟩ := hC.jr
    refine aw_seq ?_
    (refine aw_ops (by kernel_rfl) (fun K hK => ?_); simp (disch := first | omega | (simp only [lnS]; try omega; done)) [-getElem?_pos, -getElem?_neg, h39, h40]; refine hK _ _ ?_; clear hK K)
    refine aw_seq ?_
    by_cases hi : i < pk.length
    case neg =>
      refine aw_f (by (first | (simp [eval_tmp, put_at, hi]; done) | (simp [eval_tmp, put_at, hi]; omega))) (by kernel_rfl) ?_
      refine aw_exit ?_
      refine aw_seq ?_
      have hall : pk.take i = pk := List.take_of_length_le (by omega)
      rw [hall] at hwr
      have hws : wrSync Dk pk = (Di.sync, Di.syncV) := by unfold wrSync; rw [hwr]; rfl
      rw [hws] at hnx
      refine aw_ops (by kernel_rfl) (fun K hK => ?_)
      simp (disch := first | omega | (simp only [lnS]; try omega; done)) [-getElem?_pos, -getElem?_neg, h0, j1.hq]
      refine ⟨by kernel_rfl, AC.mono (sync_ac (nro := nro) (γ := gm) j1.hd (hnF _ _ j2) (by have := j2.len; omega)) ?_⟩
      rintro _ G2 ⟨rfl, FD2, d2, f2⟩
      have hC2 := hC.turn j1 j2 j3 d2 f2
      generalize hV : Di.syncV = sv at *
      generalize hDs : Di.sync = Ds at *
      try simp (disch := first | omega | (simp only [lnS]; try omega; done)) [-getElem?_pos, -getElem?_neg]
      refine hK _ _ ?_; clear hK K
      refine aw_seq ?_
      by_cases he : sv = 0
      · subst he
        (refine aw_ops (by kernel_rfl) (fun K hK => ?_); simp (disch := first | omega | (simp only [lnS]; try omega; done)) [-getElem?_pos, -getElem?_neg]; refine hK _ _ ?_; clear hK K)
        refine aw_f (by (first | (simp [eval_tmp, put_at]; done) | (simp [eval_tmp, put_at]; omega))) (by kernel_rfl) ?_
        refine aw_skip ?_
        (refine aw_ops (by kernel_rfl) (fun K hK => ?_); simp (disch := first | omega | (simp only [lnS]; try omega; done)) [-getElem?_pos, -getElem?_neg, h34]; refine hK _ _ ?_; clear hK K)
        exact ⟨c - 1, by omega, k + 1, Ds, by omega, hnx.2 rfl, hC2, by (first | (simp [put_at, put_none, fr0_at, h0]; done) | rfl), by (first | (simp [put_at, put_none, fr0_at, h1]; done) | rfl), by (first | (simp [put_at, put_none, fr0_at, h9]; done) | rfl), by (first | (simp [put_at, put_none, fr0_at]; done) | rfl), by (first | (simp [put_at, put_none, fr0_at, h32]; done) | rfl), by (first | (simp [put_at, put_none, fr0_at, h33]; done) | rfl), by (first | (simp [put_at, put_none, fr0_at]; done) | rfl)⟩
      · (refine aw_ops (by kernel_rfl) (fun K hK => ?_); simp (disch := first | omega | (simp only [lnS]; try omega; done)) [-getElem?_pos, -getElem?_neg, he]; refine hK _ _ ?_; clear hK K)
        refine aw_t (by (first | (simp [eval_tmp, put_at, he]; done) | (simp [eval_tmp, put_at, he]; omega))) (by kernel_rfl) ?_
        refine aw_exit ?_
        obtain ⟨FD3, k1, k2, _⟩ := hC2.jr
        exact ⟨FD3, _, rfl, by rw [hnx.1 he]; (first | (simp [put_at, put_none, fr0_at]; done) | rfl), by rw [hnx.1 he]; exact k1, k2, by (first | (simp [put_at, put_none, fr0_at, h0]; done) | rfl), by (first | (simp [put_at, put_none, fr0_at, h1]; done) | rfl), by (first | (simp [put_at, put_none, fr0_at, h9]; done) | rfl)⟩
    refine aw_t (by (first | (simp [eval_tmp, put_at, hi]; done) | (simp [eval_tmp, put_at, hi]; omega))) (by kernel_rfl) ?_
    refine aw_skip ?_
    refine aw_seq ?_
    refine aw_block ?_
    obtain ⟨p, hp⟩ : ∃ p, pk[i]? = some p := ⟨_, List.getElem?_eq_getElem hi⟩
    obtain ⟨pa, hpa1, hpa2⟩ := hpk.at_ i p hp
    have hpa3 := hpa2 G (fun _ _ => rfl)
    have hnG : nro ≤ G.length := by have := j2.len; omega
    refine aw_seq ?_
    (refine aw_ops (by kernel_rfl) (fun K hK => ?_); simp (disch := first | omega | (simp only [lnS]; try omega; done)) [-getElem?_pos, -getElem?_neg, h38, h40, -notTuple, hnt, nt_intJ, nt_aggJ, nt_ptrJ, -xindexAddr, hpa1, -xload, hpa3]; refine hK _ _ ?_; clear hK K)
    have hC1 := hC.low (G' := G ++ [some ⟨[.int .i64 (p.1 : Nat), .string (strOfNums p.2)], 112, none⟩]) (Low.push (Nat.le_refl _) _)
    have hb1 : hget (G ++ [some ⟨[.int .i64 (p.1 : Nat), .string (strOfNums p.2)], 112, none⟩]) G.length = some ⟨[.int .i64 (p.1 : Nat), .string (strOfNums p.2)], 112, none⟩ := by rw [hget_app0]; rfl
    clear j1 j2 j3 FDi hpa2 hpa3
    generalize hG1 : G ++ [some ⟨[.int .i64 (p.1 : Nat), .string (strOfNums p.2)], 112, none⟩] = G1 at *
    obtain ⟨FDi, j1, j2, j3⟩ := hC1.jr
    have hq1 := j1.hq
    have hfi := wrAll_few (pk.take i) Dk
    rw [hwr, List.length_take] at hfi
    simp only at hfi
    refine aw_seq ?_
    (refine aw_plan [] [] [0, 1, 2, 3, 4, 5, 6, 7] 8 2 (by kernel_rfl) (by kernel_rfl) (by kernel_rfl) (fun K hK => ?_)); simp only [sel, List.getElem?_cons_succ, List.getElem?_cons_zero, List.drop_succ_cons, List.drop_zero]; simp (disch := first | omega | (simp only [lnS]; try omega; done)) [-getElem?_pos, -getElem?_neg, h0, hq1, hb1, PL_nil, PL_cons, PLc_val, PLc_new, stepP_t, stepP_f, stepPC_n, stepPC_s, stepPX_s, stepPX_n, stepPA_t, stepPA_c, stepPA_l, stepPN_s, allocOp, reloc_sl, reloc_ptr, List.map_cons, List.map_nil, List.nil_append, List.append_assoc, List.cons_append, Nat.add_assoc]
    refine ⟨by kernel_rfl, AC.mono (dwrite_ac (nro := nro) (γ := gm) j1.hd (hnF _ _ j2) (by show Di.uns.length < 1000; omega) (p.1 : Nat) (strOfNums p.2)) ?_⟩
    rintro _ G2 ⟨rfl, FD2, d2, f2⟩
    have hC2 := hC1.turn j1 j2 j3 d2 f2
    have hfail := wrAll_fail hp hwr
    have hon := wrAll_on hp hwr
    generalize hV : Di.writeV (p.1 : Nat) (strOfNums p.2) = sv at *
    generalize hDs : Di.write (p.1 : Nat) (strOfNums p.2) = Ds at *
    try simp (disch := first | omega | (simp only [lnS]; try omega; done)) [-getElem?_pos, -getElem?_neg, PL_nil, PL_cons, PLc_val, PLc_new, stepP_t, stepP_f, stepPC_n, stepPC_s, stepPX_s, stepPX_n, stepPA_t, stepPA_c, stepPA_l, stepPN_s, allocOp, reloc_sl, reloc_ptr, List.map_cons, List.map_nil, List.nil_append, List.append_assoc, List.cons_append, Nat.add_assoc]
    refine hK _ _ ?_; clear hK K
    refine aw_seq ?_
    by_cases he : sv = 0
    · subst he
      (refine aw_ops (by kernel_rfl) (fun K hK => ?_); simp (disch := first | omega | (simp only [lnS]; try omega; done)) [-getElem?_pos, -getElem?_neg]; refine hK _ _ ?_; clear hK K)
      refine aw_f (by (first | (simp [eval_tmp, put_at]; done) | (simp [eval_tmp, put_at]; omega))) (by kernel_rfl) ?_
      refine aw_skip ?_
      (refine aw_ops (by kernel_rfl) (fun K hK => ?_); simp (disch := first | omega | (simp only [lnS]; try omega; done)) [-getElem?_pos, -getElem?_neg, h40]; refine hK _ _ ?_; clear hK K)
      exact ⟨c' - 1, by omega, i + 1, Ds, by omega, hon rfl, hC2, by (first | (simp [put_at, put_none, fr0_at, h0]; done) | rfl), by (first | (simp [put_at, put_none, fr0_at, h1]; done) | rfl), by (first | (simp [put_at, put_none, fr0_at, h9]; done) | rfl), by (first | (simp [put_at, put_none, fr0_at]; done) | rfl), by (first | (simp [put_at, put_none, fr0_at, h32]; done) | rfl), by (first | (simp [put_at, put_none, fr0_at, h33]; done) | rfl), by (first | (simp [put_at, put_none, fr0_at, h34]; done) | rfl), by (first | (simp [put_at, put_none, fr0_at, h38]; done) | rfl), by (first | (simp [put_at, put_none, fr0_at, h39]; done) | rfl), by (first | (simp [put_at, put_none, fr0_at]; done) | rfl)⟩
    · (refine aw_ops (by kernel_rfl) (fun K hK => ?_); simp (disch := first | omega | (simp only [lnS]; try omega; done)) [-getElem?_pos, -getElem?_neg, he]; refine hK _ _ ?_; clear hK K)
      refine aw_t (by (first | (simp [eval_tmp, put_at, he]; done) | (simp [eval_tmp, put_at, he]; omega))) (by kernel_rfl) ?_
      refine aw_exit ?_
      obtain ⟨FD3, k1, k2, _⟩ := hC2.jr
      have hr := hfail he
      rw [hr] at hnx
      exact ⟨FD3, _, rfl, by rw [hnx.1 he]; (first | (simp [put_at, put_none, fr0_at]; done) | rfl), by rw [hnx.1 he]; exact k1, k2, by (first | (simp [put_at, put_none, fr0_at, h0]; done) | rfl), by (first | (simp [put_at, put_none, fr0_at, h1]; done) | rfl), by (first | (simp [put_at, put_none, fr0_at, h9]; done) | rfl)⟩
  rintro α G ⟨FD', r, hr, h11, hj, hf, h0, h1, h9⟩
  have hqj := hj.hq
  have hqlj := hget_lt hqj
  refine aw_seq ?_
  refine aw_seq ?_
  by_cases he : r.2 = 0
  · (refine aw_ops (by kernel_rfl) (fun K hK => ?_); simp (disch := first | omega | (simp only [lnS]; try omega; done)) [-getElem?_pos, -getElem?_neg, h11, he]; refine hK _ _ ?_; clear hK K)
    refine aw_f (by (first | (simp [eval_tmp, put_at]; done) | (simp [eval_tmp, put_at]; omega))) (by kernel_rfl) ?_
    refine aw_skip ?_
    refine aw_seq ?_
    have hnq : nro ≤ q := hn q (by simp)
    (refine aw_ops (by kernel_rfl) (fun K hK => ?_); simp (disch := first | omega | (simp only [lnS]; try omega; done)) [-getElem?_pos, -getElem?_neg, h0, h1, h9, hqj]; refine hK _ _ ?_; clear hK K)
    refine aw_seq ?_
    (refine aw_ops (by kernel_rfl) (fun K hK => ?_); simp (disch := first | omega | (simp only [lnS]; try omega; done)) [-getElem?_pos, -getElem?_neg]; refine hK _ _ ?_; clear hK K)
    (refine aw_ret ?_; simp (disch := first | omega | (simp only [lnS]; try omega; done)) [-getElem?_pos, -getElem?_neg, thenQ_ret, scopeQ_ret, inBlockQ_ret, RQ, resL, resV])
    rw [← hr]
    refine ⟨by rw [if_pos he], FD', ?_, hf.trans ⟨by simp, fun j hj hn => hget_set_ne (fun e => hn (by simp [e])), fun j hj => .inl hj⟩⟩
    rw [if_pos he]
    refine ⟨by rw [hget_set_eq hqlj], hj.hd.low (fun j hm => hget_set_ne (fun e => hj.qd (e ▸ hm))), hj.hr.low (fun j hm => hget_set_ne (fun e => hj.qr (e ▸ hm))) (by simp), hj.qd, hj.qr, hj.dr⟩
  · (refine aw_ops (by kernel_rfl) (fun K hK => ?_); simp (disch := first | omega | (simp only [lnS]; try omega; done)) [-getElem?_pos, -getElem?_neg, h11, he]; refine hK _ _ ?_; clear hK K)
    refine aw_t (by (first | (simp [eval_tmp, put_at, he]; done) | (simp [eval_tmp, put_at, he]; omega))) (by kernel_rfl) ?_
    refine aw_seq ?_
    (refine aw_ops (by kernel_rfl) (fun K hK => ?_); simp (disch := first | omega | (simp only [lnS]; try omega; done)) [-getElem?_pos, -getElem?_neg]; refine hK _ _ ?_; clear hK K)
    (refine aw_ret ?_; simp (disch := first | omega | (simp only [lnS]; try omega; done)) [-getElem?_pos, -getElem?_neg, thenQ_ret, scopeQ_ret, inBlockQ_ret, RQ, resL, resV])
    rw [← hr]
    refine ⟨by rw [if_neg he], FD', ?_, hf⟩
    rw [if_neg he]
    exact hj
end
section
theorem pages_len (J : JM) (a b : Nat) (xs : List Int) : (J.pages a b xs).length ≤ (xs.length + 510) / 256 := by
  unfold JM.pages
  rw [pgL_len]
  have : (J.pageB a b xs).length ≤ xs.length + 255 := by
    unfold JM.pageB
    split
    · omega
    · rw [List.length_append, List.length_take]; omega
  omega
theorem commit_ac {nro : Nat} {H : AH} (hG : GG H) (hnl : nro ≤ H.length) {q d : Nat} {rv : Value} {FD FR : List Nat} {J : JM} (h : JrR H q d rv FD FR J) (hn : ∀ j ∈ q :: (FD ++ FR), nro ≤ j) (h2 : 2 ≤ H.length) (a b : Nat) (ha : a ≤ 1) (xs : List Int) (hxb : By xs) (hxl : b + xs.length ≤ J.half * 256) (hfew : J.D.uns.length + (xs.length + 510) / 256 + 1 < 1000) :
    AC Tryz.prog nro gm 38 #[.pointer (some ⟨q, 0, none⟩), .int .i64 (a : Nat), .int .i64 (b : Nat), .string (strOfNums xs)] H
      (fun v' H' => CommitQ H q d rv FD FR J a (b + xs.length) (commitR J.D (J.pages a b xs) [(0, fillB (markL a (b + xs.length)))]) v' H') := by
  have hlt : ∀ j ∈ q :: (FD ++ FR), j < H.length := fun j hj => by
    simp only [List.mem_cons, List.mem_append] at hj
    rcases hj with rfl | hj | hj
    · exact hget_lt h.hq
    · exact h.hd.lt j hj
    · exact h.hr.lt j hj
  have hbd : J.half * 256 ≤ 200000 := by
    have := h.hd.1.most
    unfold JM.half
    omega
  have hpl := pages_len J a b xs
  exact commit_go hnl h hn a b (b + xs.length) ha xs (markL a (b + xs.length)) (fillB (markL a (b + xs.length))) (J.pages a b xs) rfl (by omega) (by omega) (mark_rc hG a (b + xs.length) (by omega) (by omega)) (filled_vc _ (by rw [markL_len]; omega))
    (fun G hl => pages_ac (by have := hl.2; omega) (h.low (fun j hj => hl.1 j (hlt j hj)) hl.2) a b ha xs hxb hxl)
/-- What Append makes of a journal. -/
def appJ (J : JM) (ps : List ByteArray) : JM × Int :=
  if J.half * 256 < J.size + (textsB ps).length then (J, 8)
  else if ps = [] then (J, 0)
  else if (commitR J.D (J.pages J.area J.size (textsB ps)) [(0, fillB (markL J.area (J.size + (textsB ps).length)))]).2 = 0 then (⟨(commitR J.D (J.pages J.area J.size (textsB ps)) [(0, fillB (markL J.area (J.size + (textsB ps).length)))]).1, J.recs ++ ps, J.area, J.size + (textsB ps).length⟩, 0)
  else (⟨(commitR J.D (J.pages J.area J.size (textsB ps)) [(0, fillB (markL J.area (J.size + (textsB ps).length)))]).1, J.recs, J.area, J.size⟩, 7)
def AppQ (H : AH) (q d : Nat) (FD FR : List Nat) (r : JM × Int) (v' : Value) (H' : AH) : Prop :=
  v' = .int .i64 r.2 ∧ ∃ rv' FD' FR', JrR H' q d rv' FD' FR' r.1 ∧ Fr H H' (q :: (FD ++ FR)) (q :: (FD' ++ FR'))
theorem SlV.part {H : AH} {v : Value} {cells : List Value} (h : SlV H v cells) (hne : cells ≠ []) : Part H H.length v cells := by
  rcases h with ⟨a, rfl, rfl⟩ | ⟨j, off, k, rfl, hb, hc⟩
  · exact absurd rfl hne
  · refine ⟨⟨_, _, rfl⟩, fun G hg => ?_⟩
    have h0 : 0 < cells.length := List.length_pos_iff.2 hne
    have hle : off + cells.length ≤ k.cells.length := by
      have := hc (cells.length - 1) _ (List.getElem?_eq_getElem (by omega))
      have := (List.getElem?_eq_some_iff.1 this).1
      omega
    have he : (k.cells.drop off).take cells.length = cells := by
      apply List.ext_getElem?
      intro i
      rcases Nat.lt_or_ge i cells.length with hi | hi
      · rw [List.getElem?_take_of_lt hi, List.getElem?_drop, List.getElem?_eq_getElem hi]
        exact hc i _ (List.getElem?_eq_getElem hi)
      · rw [List.getElem?_eq_none hi, List.getElem?_eq_none (by rw [List.length_take]; omega)]
    unfold xcells
    split
    · rename_i e; cases e
    · rename_i e; cases e
    · rename_i e
      cases e
      rw [hg j (hget_lt hb), hb]
      simp only [Nat.mul_one]
      rw [if_pos hle, he]
    · rename_i e; cases e
    · rename_i e1 e2 e3 e4
      exact absurd rfl (e3 _ _ _ _)
theorem OwnL.g {lo : Nat} {H : AH} {v : Value} {cells : List Value} (h : OwnL lo H v cells) : ∃ F, OwnG H v cells F ∧ ∀ j ∈ F, lo ≤ j := by
  rcases h with ⟨rfl, rfl⟩ | ⟨j, cs, h1, rfl, h3, h4⟩
  · exact ⟨[], ⟨⟨none, 0, rfl⟩, by simp, fun G _ => rfl⟩, by simp⟩
  · refine ⟨[j], ⟨⟨_, _, rfl⟩, fun i hi => by simp at hi; subst hi; exact hget_lt h3, fun G hg => ?_⟩, fun i hi => by simp at hi; subst hi; exact h1⟩
    have hpl := h4.length_le
    have hpt : cs.take cells.length = cells := by obtain ⟨r, rfl⟩ := h4; simp
    have hg2 := (hg j (by simp)).trans h3
    simp [xcells, hg2, hpl, hpt]
attribute [local irreducible] commitR textsB appJ
attribute [local simp] wb_bool wb_undef XL_nil XL_cons XLc_val XLc_call step1_eq stepW_t stepW_f stepC_n stepC_s stepX_s stepX_n stepN_s calleeX oneV xop_eq xopR_s xopR_n wantedA_eq wantedG_n wantedG_s plain1_int plain1_bool plain1_string bits_i64 bits_u64 bits_u32 bits_u16 bits_u8 xeqA xagg xcmp xarr allK_iv num_iv calleeOf xread xeff xbin xint xnil xun xstr xload xconv xpart xfield xfieldAddr xindexAddr xindex bnd asInt? xslice xlen xmin xmax xbuild xfill xappend xapp2 xappstr xappmk xcap xcopy xcells eval_tmp eval_const put_at put_none fr0_at cells_agg cells_int cells_bool cells_string cells_ptr cells_slice notTuple tab iv_all hget_app hget_app0 hget_cons0 hget_cons set_app set_app0 setR setR_one QL_nil QL_cons QLc_val stepQ_t stepQ_f stepQC_n stepQC_s stepQX_s SL_nil SL_cons SLc_val stepS_t stepS_f ltT ltF leT leF eqT eqF ltTn ltFn leTn leFn eqTn eqFn beqT beqF bneT bneF wi64 wu64 wu32 wu16 wu8 tmodP tdivP hgetL hgetNe hgetEq setL nums_def nums_len Nat.succ_le_of_lt List.getElem?_cons_zero List.getElem?_cons_succ Option.getD_some Int.toNat_add Int.toNat_mul agB agI agS agP agL agA okB okI okS okP okSl okA
/-- The same over the text's own bytes, whatever they are. -/
theorem append_go {nro : Nat} {H : AH} (hnl : nro ≤ H.length) {q d : Nat} {rv v : Value} {FD FR : List Nat} {J : JM} (h : JrR H q d rv FD FR J) (ho : J.Ok) (hn : ∀ j ∈ q :: (FD ++ FR), nro ≤ j) (ps : List ByteArray) (hvs : SlS H (q :: (FD ++ FR)) v (ps.map .string)) (hps : ∀ s ∈ ps, s.size ≤ 2000) (hlen : ps.length ≤ 21) (hrl : J.recs.length ≤ 100000)
    (bs : List Int) (hbl : bs.length ≤ 100000) (r : DM × Int) (res : JM × Int) (hres : res = if J.half * 256 < J.size + bs.length then (J, 8) else if ps = [] then (J, 0) else if r.2 = 0 then (⟨r.1, J.recs ++ ps, J.area, J.size + bs.length⟩, 0) else (⟨r.1, J.recs, J.area, J.size⟩, 7))
    (hwr : AC Tryz.prog H.length gm 37 #[v] H (fun v' _ => v' = .string (strOfNums bs)))
    (hcm : ¬ J.half * 256 < J.size + bs.length → ps ≠ [] → AC Tryz.prog nro gm 38 #[.pointer (some ⟨q, 0, none⟩), .int .i64 (J.area : Nat), .int .i64 (J.size : Nat), .string (strOfNums bs)] H (fun v' H' => CommitQ H q d rv FD FR J J.area (J.size + bs.length) r v' H')) :
    AC Tryz.prog nro gm 11 #[.pointer (some ⟨q, 0, none⟩), v] H (fun v' H' => AppQ H q d FD FR res v' H') := by
  have hq := h.hq
  have hql := hget_lt hq
  have hbs := sn_size bs
  have hbd : J.half * 256 ≤ 200000 := by
    have := h.hd.1.most
    unfold JM.half
    omega
  have hsz := ho.size
  have hv := hvs.now
  have hno : notTuple v = true := by rcases hv with ⟨a, rfl, _⟩ | ⟨j, off, k, rfl, _⟩ <;> rfl
  have hvc : v.cells = #[v] := by rcases hv with ⟨a, rfl, _⟩ | ⟨j, off, k, rfl, _⟩ <;> rfl
  have hxl := hv.len (P := Tryz.prog) (t := 36) (e := 9) (by simp)
  rw [List.length_map] at hxl
  have htl := tooLong_rc (γ := gm) hv (fun s hs => by have := hps s hs; omega) (by omega)
  have hrm := room_rc (γ := gm) h ho
  refine ac_of_aw Tryz.func11 rfl Tryz.ntmps11 Tryz.results11 (by simp) ?_
  refine aw_seq ?_
  (refine aw_ops (by kernel_rfl) (fun K hK => ?_); simp (disch := first | omega | (simp only [lnS]; try omega; done)) [-getElem?_pos, -getElem?_neg]; refine hK _ _ ?_; clear hK K)
  refine aw_seq ?_
  refine aw_seq ?_
  (refine aw_ops (by kernel_rfl) (fun K hK => ?_); simp (disch := first | omega | (simp only [lnS]; try omega; done)) [-getElem?_pos, -getElem?_neg]; refine hK _ _ ?_; clear hK K)
  refine aw_f (by (first | (simp [eval_tmp, put_at]; done) | (simp [eval_tmp, put_at]; omega))) (by kernel_rfl) ?_
  refine aw_skip ?_
  refine aw_seq ?_
  refine aw_seq ?_
  refine aw_ops (by kernel_rfl) (fun K hK => ?_)
  simp (disch := first | omega | (simp only [lnS]; try omega; done)) [-getElem?_pos, -getElem?_neg, -notTuple, hno]
  refine ⟨by kernel_rfl, ac_of_rc htl (by simp [pv_iv, pv_int, pv_bool, pv_string, pv_tup2, pv_tup3, iv_plain, p2_int, p2_bool, p2_string]) ?_⟩
  try simp (disch := first | omega | (simp only [lnS]; try omega; done)) [-getElem?_pos, -getElem?_neg]
  refine hK _ _ ?_; clear hK K
  refine aw_f (by (first | (simp [eval_tmp, put_at]; done) | (simp [eval_tmp, put_at]; omega))) (by kernel_rfl) ?_
  refine aw_skip ?_
  refine aw_seq ?_
  refine aw_ops (by kernel_rfl) (fun K hK => ?_)
  simp (disch := first | omega | (simp only [lnS]; try omega; done)) [-getElem?_pos, -getElem?_neg, -notTuple, hno]
  refine ⟨by kernel_rfl, ac_of_rc hwr (by simp [pv_iv, pv_int, pv_bool, pv_string, pv_tup2, pv_tup3, iv_plain, p2_int, p2_bool, p2_string]) ?_⟩
  try simp (disch := first | omega | (simp only [lnS]; try omega; done)) [-getElem?_pos, -getElem?_neg]
  refine hK _ _ ?_; clear hK K
  refine aw_seq ?_
  refine aw_seq ?_
  refine aw_ops (by kernel_rfl) (fun K hK => ?_)
  simp (disch := first | omega | (simp only [lnS]; try omega; done)) [-getElem?_pos, -getElem?_neg, hbs]
  refine ⟨by kernel_rfl, ac_of_rc hrm (by simp [pv_iv, pv_int, pv_bool, pv_string, pv_tup2, pv_tup3, iv_plain, p2_int, p2_bool, p2_string]) ?_⟩
  by_cases hfull : J.half * 256 < J.size + bs.length
  · rw [if_pos hfull] at hres
    have hf2 : ((J.half * 256 : Nat) : Int) - (J.size : Nat) < (bs.length : Nat) := by omega
    simp only [Int.natCast_mul] at hf2
    simp (disch := first | omega | (simp only [lnS]; try omega; done)) [-getElem?_pos, -getElem?_neg, hf2]
    refine hK _ _ ?_; clear hK K
    refine aw_t (by (first | (simp [eval_tmp, put_at, hf2]; done) | (simp [eval_tmp, put_at, hf2]; omega))) (by kernel_rfl) ?_
    refine aw_seq ?_
    (refine aw_ops (by kernel_rfl) (fun K hK => ?_); simp (disch := first | omega | (simp only [lnS]; try omega; done)) [-getElem?_pos, -getElem?_neg]; refine hK _ _ ?_; clear hK K)
    (refine aw_ret ?_; simp (disch := first | omega | (simp only [lnS]; try omega; done)) [-getElem?_pos, -getElem?_neg, thenQ_ret, scopeQ_ret, inBlockQ_ret, RQ, resL, resV])
    subst hres
    exact ⟨rfl, rv, FD, FR, h, Fr.refl _ _⟩
  rw [if_neg hfull] at hres
  have hf2 : ¬ ((J.half * 256 : Nat) : Int) - (J.size : Nat) < (bs.length : Nat) := by omega
  simp only [Int.natCast_mul] at hf2
  simp (disch := first | omega | (simp only [lnS]; try omega; done)) [-getElem?_pos, -getElem?_neg, hf2]
  refine hK _ _ ?_; clear hK K
  refine aw_f (by (first | (simp [eval_tmp, put_at, hf2]; done) | (simp [eval_tmp, put_at, hf2]; omega))) (by kernel_rfl) ?_
  refine aw_skip ?_
  refine aw_seq ?_
  refine aw_seq ?_
  by_cases hnil : ps = []
  · rw [if_pos hnil] at hres
    rw [hnil] at hxl
    (refine aw_ops (by kernel_rfl) (fun K hK => ?_); simp (disch := first | omega | (simp only [lnS]; try omega; done)) [-getElem?_pos, -getElem?_neg, -notTuple, hno, -xlen, hxl]; refine hK _ _ ?_; clear hK K)
    refine aw_t (by (first | (simp [eval_tmp, put_at]; done) | (simp [eval_tmp, put_at]; omega))) (by kernel_rfl) ?_
    refine aw_seq ?_
    (refine aw_ops (by kernel_rfl) (fun K hK => ?_); simp (disch := first | omega | (simp only [lnS]; try omega; done)) [-getElem?_pos, -getElem?_neg]; refine hK _ _ ?_; clear hK K)
    (refine aw_ret ?_; simp (disch := first | omega | (simp only [lnS]; try omega; done)) [-getElem?_pos, -getElem?_neg, thenQ_ret, scopeQ_ret, inBlockQ_ret, RQ, resL, resV])
    subst hres
    exact ⟨rfl, rv, FD, FR, h, Fr.refl _ _⟩
  rw [if_neg hnil] at hres
  have hpl : 0 < ps.length := List.length_pos_iff.2 hnil
  (refine aw_ops (by kernel_rfl) (fun K hK => ?_); simp (disch := first | omega | (simp only [lnS]; try omega; done)) [-getElem?_pos, -getElem?_neg, -notTuple, hno, -xlen, hxl]; refine hK _ _ ?_; clear hK K)
  refine aw_f (by (first | (simp [eval_tmp, put_at]; done) | (simp [eval_tmp, put_at]; omega))) (by kernel_rfl) ?_
  refine aw_skip ?_
  refine aw_seq ?_
  refine aw_seq ?_
  (refine aw_plan [] [] [0, 1, 2, 3, 4, 5, 6, 7, 8, 9] 10 2 (by kernel_rfl) (by kernel_rfl) (by kernel_rfl) (fun K hK => ?_)); simp only [sel, List.getElem?_cons_succ, List.getElem?_cons_zero, List.drop_succ_cons, List.drop_zero]; simp (disch := first | omega | (simp only [lnS]; try omega; done)) [-getElem?_pos, -getElem?_neg, hq, PL_nil, PL_cons, PLc_val, PLc_new, stepP_t, stepP_f, stepPC_n, stepPC_s, stepPX_s, stepPX_n, stepPA_t, stepPA_c, stepPA_l, stepPN_s, allocOp, reloc_sl, reloc_ptr, List.map_cons, List.map_nil, List.nil_append, List.append_assoc, List.cons_append, Nat.add_assoc]
  refine ⟨by kernel_rfl, AC.mono (hcm hfull hnil) ?_⟩
  rintro _ G ⟨rfl, FD', hj, hf⟩
  have hvG : Part G G.length v (ps.map .string) := SlV.part (hvs G hf.out) (by simpa using hnil)
  try simp (disch := first | omega | (simp only [lnS]; try omega; done)) [-getElem?_pos, -getElem?_neg, PL_nil, PL_cons, PLc_val, PLc_new, stepP_t, stepP_f, stepPC_n, stepPC_s, stepPX_s, stepPX_n, stepPA_t, stepPA_c, stepPA_l, stepPN_s, allocOp, reloc_sl, reloc_ptr, List.map_cons, List.map_nil, List.nil_append, List.append_assoc, List.cons_append, Nat.add_assoc]
  refine hK _ _ ?_; clear hK K
  refine aw_seq ?_
  by_cases he : r.2 = 0
  case neg =>
    rw [if_neg he] at hj hres
    (refine aw_ops (by kernel_rfl) (fun K hK => ?_); simp (disch := first | omega | (simp only [lnS]; try omega; done)) [-getElem?_pos, -getElem?_neg, he]; refine hK _ _ ?_; clear hK K)
    refine aw_t (by (first | (simp [eval_tmp, put_at, he]; done) | (simp [eval_tmp, put_at, he]; omega))) (by kernel_rfl) ?_
    refine aw_seq ?_
    (refine aw_ops (by kernel_rfl) (fun K hK => ?_); simp (disch := first | omega | (simp only [lnS]; try omega; done)) [-getElem?_pos, -getElem?_neg, he]; refine hK _ _ ?_; clear hK K)
    (refine aw_ret ?_; simp (disch := first | omega | (simp only [lnS]; try omega; done)) [-getElem?_pos, -getElem?_neg, thenQ_ret, scopeQ_ret, inBlockQ_ret, RQ, resL, resV])
    subst hres
    exact ⟨by simp [he], rv, FD', FR, hj, hf⟩
  rw [if_pos he] at hj hres
  (refine aw_ops (by kernel_rfl) (fun K hK => ?_); simp (disch := first | omega | (simp only [lnS]; try omega; done)) [-getElem?_pos, -getElem?_neg, he]; refine hK _ _ ?_; clear hK K)
  refine aw_f (by (first | (simp [eval_tmp, put_at]; done) | (simp [eval_tmp, put_at]; omega))) (by kernel_rfl) ?_
  refine aw_skip ?_
  refine aw_seq ?_
  have hqj := hj.hq
  have hqlj := hget_lt hqj
  have hsh := hj.hr.nt
  have r2 : List.range 2 = [0, 1] := rfl
  refine aw_ops (by kernel_rfl) (fun K hK => ?_)
  simp (disch := first | omega | (simp only [lnS]; try omega; done)) [-getElem?_pos, -getElem?_neg, hqj, -notTuple, hsh.1, hsh.2, hno, hvc, nt_slJ, nt_ptrJ, r2, plain_nil]
  refine ⟨by kernel_rfl, ?_⟩
  obtain ⟨Gs, hGs⟩ : ∃ Gs : AH, Gs = G ++ [some ⟨[rv, v], 36, some 1⟩] := ⟨_, rfl⟩
  rw [← hGs]
  have hGl : Gs.length = G.length + 1 := by rw [hGs]; simp
  have hGk : ∀ j, j < G.length → hget Gs j = hget G j := fun j hj => by rw [hGs]; exact hget_left hj
  have hGn : hget Gs G.length = some ⟨[rv, v], 36, some 1⟩ := by rw [hGs, hget_app0]; rfl
  clear hGs
  have hpp : ∀ (i : Nat) (x : Value) (c : List Value), [rv, v][i]? = some x → [J.recs.map Value.string, ps.map Value.string][i]? = some c → Part Gs Gs.length x c := fun i x c hx hc => by
    have hk : ∀ x c, Part G G.length x c → Part Gs Gs.length x c := fun x c hp => hp.keep (by omega) hGk
    match i, hx, hc with
    | 0, hx, hc => cases hx; cases hc; exact hk _ _ hj.hr.part
    | 1, hx, hc => cases hx; cases hc; exact hk _ _ hvG
  have hc2 := concat_ac (nro := nro) (γ := gm) (v := v) (H := Gs) (j := G.length) (xs := [rv, v]) (L := [J.recs.map .string, ps.map .string]) hGn rfl hpp (by simp [sumL]; omega) (by simp) (by have := hf.len; omega)
  refine AC.mono hc2 ?_
  rintro v3 G3 ⟨_, ho3, hl3, hk3⟩
  obtain ⟨F3, ho3, hF3⟩ := ho3.g
  have hq3 : hget G3 q = _ := (hk3 q (by omega)).trans ((hGk q hqlj).trans hqj)
  have hsh3 := ho3.nt
  have hnq : nro ≤ q := hn q (by simp)
  simp (disch := first | omega | (simp only [lnS]; try omega; done)) [-getElem?_pos, -getElem?_neg, hq3, -notTuple, nt_slJ, nt_ptrJ, hsh3.1, hsh3.2]
  refine hK _ _ ?_; clear hK K
  refine aw_seq ?_
  (refine aw_ops (by kernel_rfl) (fun K hK => ?_); simp (disch := first | omega | (simp only [lnS]; try omega; done)) [-getElem?_pos, -getElem?_neg]; refine hK _ _ ?_; clear hK K)
  (refine aw_ret ?_; simp (disch := first | omega | (simp only [lnS]; try omega; done)) [-getElem?_pos, -getElem?_neg, thenQ_ret, scopeQ_ret, inBlockQ_ret, RQ, resL, resV])
  subst hres
  have hltJ : ∀ j ∈ q :: (FD' ++ FR), j < G.length := fun j hm => by
    simp only [List.mem_cons, List.mem_append] at hm
    rcases hm with rfl | hm | hm
    · exact hqlj
    · exact hj.hd.lt j hm
    · exact hj.hr.lt j hm
  have hk4 : ∀ j, j < G.length → hget G3 j = hget G j := fun j hm => (hk3 j (by omega)).trans (hGk j hm)
  refine ⟨by simp [he], v3, FD', F3, ⟨by rw [hget_set_eq (by omega)]; simp, hj.hd.low (fun j hm => (hget_set_ne (show q ≠ j from fun e => hj.qd (e ▸ hm))).trans (hk4 j (hj.hd.lt j hm))), ?_, hj.qd, fun hm => by have := hF3 _ hm; omega, fun j hm hm2 => by have := hF3 _ hm2; have := hj.hd.lt j hm; omega⟩, ?_⟩
  · have : (J.recs ++ ps).map Value.string = [J.recs.map Value.string, ps.map Value.string].flatten := by simp
    rw [this]
    exact ho3.low (fun j hm => hget_set_ne (by have := hF3 _ hm; omega)) (by simp)
  · refine ⟨by have := hf.len; simp; omega, fun j hm hne => ?_, fun j hm => ?_⟩
    · rw [hget_set_ne (fun e => hne (by simp [e])), hk4 j (Nat.lt_of_lt_of_le hm hf.len), hf.out j hm hne]
    · simp only [List.mem_cons, List.mem_append] at hm
      rcases hm with rfl | hm | hm
      · exact .inl (by simp)
      · exact hf.new j (by simp [hm])
      · exact .inr (by have := hF3 _ hm; have := hf.len; omega)
theorem append_ac {nro : Nat} {H : AH} (hG : GG H) (hnl : nro ≤ H.length) (h2 : 2 ≤ H.length) {q d : Nat} {rv v : Value} {FD FR : List Nat} {J : JM} (h : JrR H q d rv FD FR J) (ho : J.Ok) (hn : ∀ j ∈ q :: (FD ++ FR), nro ≤ j) (ps : List ByteArray) (hvs : SlS H (q :: (FD ++ FR)) v (ps.map .string)) (hps : ∀ s ∈ ps, s.size ≤ 2000) (hlen : ps.length ≤ 21) (hrl : J.recs.length ≤ 100000)
    (hbl : (textsB ps).length ≤ 100000) (hby : By (textsB ps)) (hfew : J.D.uns.length ≤ 500) :
    AC Tryz.prog nro gm 11 #[.pointer (some ⟨q, 0, none⟩), v] H (fun v' H' => AppQ H q d FD FR (appJ J ps) v' H') := by
  have hbd : J.half * 256 ≤ 200000 := by
    have := h.hd.1.most
    unfold JM.half
    omega
  exact append_go hnl h ho hn ps hvs hps hlen hrl (textsB ps) hbl _ _ (by unfold appJ; rfl) (written_rc hvs.now (fun s hs => by have := hps s hs; omega) (by omega))
    (fun hr hne => commit_ac hG hnl h hn h2 J.area J.size ho.area (textsB ps) hby (by omega) (by omega))
end
section
theorem puts_one (D : DM) (p : Nat × List Int) (ps : Pgs) : D.puts (p :: ps) = (D.put (p.1 : Nat) (strOfNums p.2)).puts ps := rfl
theorem wrAll_well : ∀ (ps : Pgs) (D : DM), D.Well → (∀ p ∈ ps, p.1 < D.firm.length ∧ p.2.length = 256) → wrAll D ps = (D.puts ps, 0) ∧ (D.puts ps).Well
  | [], D, h, _ => ⟨rfl, h⟩
  | p :: ps, D, h, hp => by
    have h1 := hp p (by simp)
    have hok : okW D (p.1 : Nat) (strOfNums p.2) = true := by
      unfold okW hasB
      rw [sn_size]
      simp [h1.1, h1.2]
    obtain ⟨e1, e2, e3⟩ := write_well h hok
    have ih := wrAll_well ps (D.put (p.1 : Nat) (strOfNums p.2)) e3 (fun q hq => hp q (by simp [hq]))
    rw [puts_one]
    refine ⟨?_, ih.2⟩
    unfold wrAll
    rw [if_pos e2, e1]
    exact ih.1
/-- A disk on which pages were written and settled. -/
def DM.done (D : DM) (ps : Pgs) : DM := { (D.puts ps) with firm := (D.puts ps).late, uns := [] }
theorem wrSync_well {D : DM} {ps : Pgs} (h : D.Well) (hp : ∀ p ∈ ps, p.1 < D.firm.length ∧ p.2.length = 256) : wrSync D ps = (D.done ps, 0) ∧ (D.done ps).Well ∧ (D.done ps).uns = [] ∧ (D.done ps).firm.length = D.firm.length ∧ (D.done ps).late = (D.puts ps).late := by
  obtain ⟨h1, h2⟩ := wrAll_well ps D h hp
  obtain ⟨h3, h4, h5⟩ := sync_well h2
  have hl : (D.puts ps).late.length = D.firm.length := by
    unfold DM.late
    rw [late_len, puts_firm]
  refine ⟨?_, h5, rfl, hl, settled_late rfl⟩
  unfold wrSync
  rw [h1]
  simp only [if_true]
  rw [h3, h4]
  rfl
theorem catK_app (L : List ByteArray) (s i : Nat) : ∀ k, catK L s (i + k) = catK L s i ++ catK L (s + i) k
  | 0 => by simp [catK]
  | k + 1 => by
    rw [← Nat.add_assoc, catK, catK_app L s i k, catK, List.append_assoc, Nat.add_assoc]
theorem catK_same {L L' : List ByteArray} {s : Nat} : ∀ k, (∀ j, s ≤ j → j < s + k → L'.getD j ⟨#[]⟩ = L.getD j ⟨#[]⟩) → catK L' s k = catK L s k
  | 0, _ => rfl
  | k + 1, h => by
    rw [catK, catK, catK_same k (fun j h1 h2 => h j h1 (by omega)), h (s + k) (by omega) (by omega)]
/-- The blocks that pages were written to: their bytes, and noughts. -/
theorem catK_pages {L : List ByteArray} {A : Nat} {Y : List Int} (hY : By Y) : ∀ k, 256 * k ≤ Y.length + 255 → (∀ j, A ≤ j → j < A + k → L.getD j ⟨#[]⟩ = strOfNums (fillB ((Y.drop (256 * (j - A))).take 256))) → (catK L A k).take Y.length = Y.take (256 * k)
  | 0, _, _ => by simp [catK]
  | k + 1, hk, h => by
    have ih := catK_pages hY k (by omega) (fun j h1 h2 => h j h1 (by omega))
    have hl : (catK L A k).length = 256 * k := by
      clear ih hk
      induction k with
      | zero => rfl
      | succ k ih =>
        rw [catK, List.length_append, ih (fun j h1 h2 => h j h1 (by omega)), nums_len, h (A + k) (by omega) (by omega), sn_size, fillB_len (by rw [List.length_take]; omega)]
        omega
    have hk2 : 256 * k ≤ Y.length := by omega
    rw [catK, h (A + k) (by omega) (by omega), nums_of _ (fillB_by ((hY.drop _).take _)), List.take_append, ih, hl, show A + k - A = k by omega]
    have e1 : Y.take (256 * (k + 1)) = Y.take (256 * k) ++ (Y.drop (256 * k)).take 256 := by
      rw [show 256 * (k + 1) = 256 * k + 256 by omega, List.take_add]
    rw [e1]
    congr 1
    have hwl : ((Y.drop (256 * k)).take 256).length = min 256 (Y.length - 256 * k) := by rw [List.length_take, List.length_drop]
    generalize (Y.drop (256 * k)).take 256 = W at *
    unfold fillB
    by_cases hr : Y.length - 256 * k ≤ 256
    · rw [List.take_append_of_le_length (by omega), List.take_of_length_le (by omega)]
    · have : 256 - W.length = 0 := by omega
      rw [this, List.take_of_length_le]
      · simp [zl]
      · rw [List.length_append, zl_length]; omega
theorem catK_pages_len {L : List ByteArray} {A : Nat} {Y : List Int} : ∀ k, (∀ j, A ≤ j → j < A + k → L.getD j ⟨#[]⟩ = strOfNums (fillB ((Y.drop (256 * (j - A))).take 256))) → (catK L A k).length = 256 * k
  | 0, _ => rfl
  | k + 1, h => by
    rw [catK, List.length_append, catK_pages_len k (fun j h1 h2 => h j h1 (by omega)), nums_len, h (A + k) (by omega) (by omega), sn_size, fillB_len (by rw [List.length_take]; omega)]
    omega
theorem pgL_mem {s : Nat} {l : List Int} {p : Nat × List Int} : ∀ {k : Nat}, p ∈ pgL s l k → s ≤ p.1 ∧ p.1 < s + k ∧ p.2.length = 256
  | 0, h => by simp [pgL] at h
  | k + 1, h => by
    simp only [pgL, List.mem_append, List.mem_singleton] at h
    rcases h with h | rfl
    · have := pgL_mem h
      omega
    · exact ⟨by simp, by simp, fillB_len (by rw [List.length_take]; omega)⟩
/-- Records on a disk, but for the mark. -/
structure Base (D : DM) (a : Nat) (recs : List ByteArray) : Prop where
  three : 3 ≤ D.firm.length
  most : D.firm.length ≤ 1024
  area : a ≤ 1
  room : (textsB recs).length ≤ (D.firm.length - 1) / 2 * 256
  data : (catK D.late (1 + a * ((D.firm.length - 1) / 2)) ((D.firm.length - 1) / 2)).take (textsB recs).length = textsB recs
  small : ∀ s ∈ recs, s.size ≤ 60000
theorem Holds.base {D : DM} {a : Nat} {recs : List ByteArray} (h : Holds D a recs) : Base D a recs := ⟨h.three, h.most, h.area, h.room, h.data, h.small⟩
theorem commit_well {D : DM} {a : Nat} {recs ps : List ByteArray} (hw : D.Well) (h : Base D a recs) (hrows : ∀ r ∈ D.late, r.size = 256) (hps : ∀ s ∈ ps, s.size ≤ 60000) (hby : By (textsB ps)) (hroom : (textsB recs).length + (textsB ps).length ≤ (D.firm.length - 1) / 2 * 256) :
    ∃ D', commitR D (JM.pages ⟨D, recs, a, (textsB recs).length⟩ a (textsB recs).length (textsB ps)) [(0, fillB (markL a ((textsB recs).length + (textsB ps).length)))] = (D', 0) ∧ D'.Well ∧ D'.uns = [] ∧ D'.firm.length = D.firm.length ∧ Holds D' a (recs ++ ps) := by
  have h3 := h.three
  have h4 := h.most
  have hta : textsB (recs ++ ps) = textsB recs ++ textsB ps := by simp [textsB]
  have hdat := h.data
  have hml := markL_len a ((textsB recs).length + (textsB ps).length)
  have hmb := markL_by a ((textsB recs).length + (textsB ps).length)
  have hll : D.late.length = D.firm.length := late_len _ _
  obtain ⟨Hf, hHf⟩ : ∃ Hf, Hf = (D.firm.length - 1) / 2 := ⟨_, rfl⟩
  obtain ⟨b, hb⟩ : ∃ b, b = (textsB recs).length := ⟨_, rfl⟩
  obtain ⟨xs, hxs⟩ : ∃ xs, xs = textsB ps := ⟨_, rfl⟩
  obtain ⟨R, hR⟩ : ∃ R, R = textsB recs := ⟨_, rfl⟩
  have hN : 2 * Hf + 1 ≤ D.firm.length := by omega
  have ha := h.area
  obtain ⟨s, hs⟩ : ∃ s, s = 1 + a * Hf := ⟨_, rfl⟩
  have hsb : s + Hf ≤ D.firm.length := by
    rcases Nat.le_one_iff_eq_zero_or_eq_one.1 ha with e | e <;> rw [e] at hs <;> omega
  obtain ⟨A, hA⟩ : ∃ A, A = s + b / 256 := ⟨_, rfl⟩
  rw [← hb, ← hxs] at hml hmb hroom ⊢
  rw [← hHf] at hdat hroom
  rw [← hs, ← hR] at hdat
  have hRl : R.length = b := by rw [hR, hb]
  have hRby : By R := by
    rw [← hdat]
    exact (catK_by _ _ _).take _
  obtain ⟨Y, hY⟩ : ∃ Y, Y = (if b % 256 = 0 then xs else (nums (D.late.getD A ⟨#[]⟩)).take (b % 256) ++ xs) := ⟨_, rfl⟩
  have hAb : b % 256 ≠ 0 → A < D.firm.length := fun _ => by omega
  have hYl : Y.length = b % 256 + xs.length := by
    rw [hY]
    split
    · omega
    · rename_i hne
      have hsz : (D.late.getD A ⟨#[]⟩).size = 256 := by
        have := hAb hne
        rw [List.getD_eq_getElem?_getD, List.getElem?_eq_getElem (by omega)]
        exact hrows _ (List.getElem_mem _)
      rw [List.length_append, List.length_take, nums_len, hsz]
      omega
  have hYb : By Y := by
    rw [hY, hxs]
    split
    · exact hby
    · exact (By.take (fun x hx => nums_bd _ x hx) _).app hby
  obtain ⟨k, hk⟩ : ∃ k, k = (Y.length + 255) / 256 := ⟨_, rfl⟩
  have hpg : JM.pages ⟨D, recs, a, b⟩ a b xs = pgL A Y k := by
    have e1 : JM.pageAt ⟨D, recs, a, b⟩ a b = A := by
      unfold JM.pageAt JM.start JM.half
      rw [hA, hs, hHf]
    have e2 : JM.pageB ⟨D, recs, a, b⟩ a b xs = Y := by
      unfold JM.pageB
      rw [e1, hY]
    unfold JM.pages
    rw [e1, e2, hk]
  rw [hpg]
  have hAk : A + k ≤ s + Hf := by omega
  obtain ⟨w1, w2, w3, w4, w5⟩ := wrSync_well (D := D) (ps := pgL A Y k) hw (fun p hp => by have := pgL_mem hp; omega)
  obtain ⟨v1, v2, v3, v4, v5⟩ := wrSync_well (D := D.done (pgL A Y k)) (ps := [(0, fillB (markL a (b + xs.length)))]) w2 (fun p hp => by simp at hp; subst hp; exact ⟨by show 0 < _; omega, fillB_len (by rw [hml]; omega)⟩)
  refine ⟨_, ?_, v2, v3, by rw [v4, w4], ?_⟩
  · unfold commitR
    rw [w1]
    simp only [if_true]
    rw [v1]
  have hlate : ∀ j, ((D.done (pgL A Y k)).done [(0, fillB (markL a (b + xs.length)))]).late.getD j ⟨#[]⟩ = if j = 0 then strOfNums (fillB (markL a (b + xs.length))) else if A ≤ j ∧ j < A + k then strOfNums (fillB ((Y.drop (256 * (j - A))).take 256)) else D.late.getD j ⟨#[]⟩ := by
    intro j
    rw [v5, puts_one]
    show ((D.done (pgL A Y k)).put _ _).late.getD j ⟨#[]⟩ = _
    rw [put_late, w5]
    have hpl := puts_late D A Y k (by omega) j
    have hlen : (D.puts (pgL A Y k)).late.length = D.firm.length := by
      unfold DM.late
      rw [late_len, puts_firm]
    by_cases hj : j = 0
    · subst hj
      rw [if_pos rfl, List.getD_eq_getElem?_getD]
      simp [List.getElem?_set_self, show 0 < (D.puts (pgL A Y k)).late.length by omega]
    · rw [if_neg hj, List.getD_eq_getElem?_getD, List.getElem?_set_ne (by simp; omega), ← List.getD_eq_getElem?_getD]
      exact hpl
  have hfl : ((D.done (pgL A Y k)).done [(0, fillB (markL a (b + xs.length)))]).firm.length = D.firm.length := by rw [v4, w4]
  generalize ((D.done (pgL A Y k)).done [(0, fillB (markL a (b + xs.length)))]) = D2 at *
  have hrl : (textsB (recs ++ ps)).length = b + xs.length := by rw [hta, List.length_append, hb, hxs]
  refine ⟨by omega, by omega, ha, ?_, by rw [hrl, hfl, ← hHf]; exact hroom, ?_, fun x hx => ?_⟩
  · unfold firstL
    rw [hlate 0, if_pos rfl, nums_of _ (fillB_by hmb), hrl]
    unfold fillB
    rw [List.take_append_of_le_length (by omega), List.take_of_length_le (by omega)]
  · rw [hrl, hta, hfl, ← hHf, ← hs, ← hR, ← hxs]
    have hT : ∀ j, j < A → s ≤ j → D2.late.getD j ⟨#[]⟩ = D.late.getD j ⟨#[]⟩ := fun j h1 h2 => by
      rw [hlate j, if_neg (by omega), if_neg (by omega)]
    have hP : ∀ j, A ≤ j → j < A + k → D2.late.getD j ⟨#[]⟩ = strOfNums (fillB ((Y.drop (256 * (j - A))).take 256)) := fun j h1 h2 => by
      rw [hlate j, if_neg (by omega), if_pos ⟨h1, h2⟩]
    obtain ⟨i, hi⟩ : ∃ i, i = b / 256 := ⟨_, rfl⟩
    have hX : catK D2.late s i = catK D.late s i := catK_same i (fun j h1 h2 => hT j (by omega) h1)
    have hXl : (catK D.late s i).length = 256 * i := catK_len hrows s i (by omega)
    have hZ := catK_pages hYb k (by omega) hP
    have hZl := catK_pages_len k hP
    have hZ2 : Y.take (256 * k) = Y := List.take_of_length_le (by omega)
    rw [hZ2] at hZ
    have hsplit : catK D2.late s Hf = catK D.late s i ++ (catK D2.late A k ++ catK D2.late (A + k) (Hf - i - k)) := by
      rw [show Hf = i + (k + (Hf - i - k)) by omega, catK_app, catK_app, hX, show s + i = A by omega, show i + (k + (Hf - i - k)) - i - k = Hf - i - k by omega]
    have hgoal : (catK D2.late s Hf).take (b + xs.length) = catK D.late s i ++ Y := by
      rw [hsplit, show b + xs.length = (catK D.late s i).length + Y.length by omega, List.take_length_add_append, List.take_append_of_le_length (by omega), hZ]
    rw [hgoal]
    have hold : catK D.late s Hf = catK D.late s i ++ catK D.late A (Hf - i) := by
      rw [show Hf = i + (Hf - i) by omega, catK_app, show s + i = A by omega, show i + (Hf - i) - i = Hf - i by omega]
    rw [← hdat, hRl, hold, hY]
    by_cases hm : b % 256 = 0
    · rw [if_pos hm, List.take_append_of_le_length (by omega), List.take_of_length_le (by omega)]
    · rw [if_neg hm, show b = (catK D.late s i).length + b % 256 by omega, List.take_length_add_append, List.append_assoc]
      congr 1
      have hh : Hf - i = 1 + (Hf - i - 1) := by omega
      rw [hh, catK_app]
      have hone : catK D.late A 1 = nums (D.late.getD A ⟨#[]⟩) := by simp [catK]
      have hsz : (nums (D.late.getD A ⟨#[]⟩)).length = 256 := by
        rw [nums_len, List.getD_eq_getElem?_getD, List.getElem?_eq_getElem (by omega)]
        exact hrows _ (List.getElem_mem _)
      rw [hone, show ((catK D.late s i).length + b % 256) % 256 = b % 256 by omega, List.take_append_of_le_length (by omega)]
  · rcases List.mem_append.1 hx with hx | hx
    · exact h.small x hx
    · exact hps x hx
end
section
structure Live (J : JM) : Prop where
  well : J.D.Well
  uns : J.D.uns = []
  base : Base J.D J.area J.recs
  size : J.size = (textsB J.recs).length
  rest : Holds J.D J.area J.recs ∨ (J.recs = [] ∧ J.area = 0 ∧ firstL J.D = zl 64)
theorem Live.ok {J : JM} (h : Live J) : J.Ok := ⟨h.base.area, by rw [h.size]; exact h.base.room⟩
theorem Live.opens {J : JM} (h : Live J) : openJ J.D = (some J, 0) := by
  obtain ⟨D, recs, a, size⟩ := J
  obtain ⟨h1, h2, h3, h4, h5⟩ := h
  simp only at h1 h2 h3 h4 h5
  subst h4
  rcases h5 with h | ⟨rfl, rfl, h⟩
  · exact open_holds h
  · exact open_blank h3.three h
theorem Live.app {J : JM} (h : Live J) (hrows : ∀ r ∈ J.D.late, r.size = 256) {ps : List ByteArray} (hps : ∀ s ∈ ps, s.size ≤ 60000) (hby : By (textsB ps)) :
    ∃ J' e, appJ J ps = (J', e) ∧ Live J' ∧ J'.D.firm.length = J.D.firm.length ∧ J'.area = J.area ∧ ((e = 0 ∧ J'.recs = J.recs ++ ps) ∨ (e ≠ 0 ∧ J'.recs = J.recs)) ∧ (J.size + (textsB ps).length ≤ J.half * 256 → e = 0) := by
  by_cases hf : J.half * 256 < J.size + (textsB ps).length
  · exact ⟨J, 8, by unfold appJ; rw [if_pos hf], h, rfl, rfl, .inr ⟨by omega, rfl⟩, fun hn => by omega⟩
  by_cases hn : ps = []
  · exact ⟨J, 0, by unfold appJ; rw [if_neg hf, if_pos hn], h, rfl, rfl, .inl ⟨rfl, by rw [hn, List.append_nil]⟩, fun _ => rfl⟩
  obtain ⟨D, recs, a, size⟩ := J
  obtain ⟨h1, h2, h3, h4, h5⟩ := h
  simp only at h1 h2 h3 h4 h5 hrows
  subst h4
  have hhf : JM.half ⟨D, recs, a, (textsB recs).length⟩ = (D.firm.length - 1) / 2 := rfl
  rw [hhf] at hf
  obtain ⟨D', e1, e2, e3, e4, e5⟩ := commit_well (ps := ps) h1 h3 hrows hps hby (by simp only at hf; omega)
  refine ⟨⟨D', recs ++ ps, a, (textsB recs).length + (textsB ps).length⟩, 0, ?_, ⟨e2, e3, e5.base, by simp [textsB], .inl e5⟩, e4, rfl, .inl ⟨rfl, rfl⟩, fun _ => rfl⟩
  unfold appJ
  rw [hhf, if_neg hf, if_neg hn, e1]
  simp
theorem newD_late (b : Int) : (newD b).late = List.replicate (newN b) (zs 256) := rfl
theorem live_new (b : Int) (h : 3 ≤ newN b) : Live ⟨newD b, [], 0, 0⟩ := by
  have hb := newN_bd b
  have hl : (newD b).firm.length = newN b := by simp [newD]
  refine ⟨⟨rfl, rfl⟩, rfl, ⟨by show 3 ≤ (newD b).firm.length; omega, by show (newD b).firm.length ≤ 1024; omega, by simp, by simp [textsB], by simp [textsB], by simp⟩, by simp [textsB], .inr ⟨rfl, rfl, ?_⟩⟩
  show (nums ((newD b).late.getD 0 ⟨#[]⟩)).take 64 = zl 64
  rw [newD_late, List.getD_eq_getElem?_getD, List.getElem?_replicate, if_pos (by omega), Option.getD_some, zs_eq, nums_of _ (zl_by _)]
  rfl
structure AcD where
  kind : Int
  n : Int
  l : List ByteArray
  keep : List Int
def acK : List CK := [.int .i64, .int .i64, .sl [.str], .sl [.int .u8]]
def AcD.row (x : AcD) : List CD := [.int .i64 x.kind, .int .i64 x.n, .sl (x.l.map fun s => [.str s]), .sl (x.keep.map fun z => [.int .u8 z])]
structure AcD.Wf (x : AcD) : Prop where
  kind : -9223372036854775808 ≤ x.kind ∧ x.kind ≤ 9223372036854775807
  n : -9223372036854775808 ≤ x.n ∧ x.n ≤ 9223372036854775807
  keep : By x.keep
  tl : ∀ s ∈ x.l, s.size ≤ maxLen
  ll : x.l.length ≤ maxLen
theorem wf_i64' {z : Int} (h : (Lit.int .i64 z).wf = true) : -9223372036854775808 ≤ z ∧ z ≤ 9223372036854775807 := by
  simpa [Lit.wf, IntKind.min, IntKind.max, IntKind.bits, IntKind.signed] using h
theorem wf_u8' {z : Int} (h : (Lit.int .u8 z).wf = true) : 0 ≤ z ∧ z ≤ 255 := by
  simpa [Lit.wf, IntKind.min, IntKind.max, IntKind.bits, IntKind.signed] using h
theorem act_of {row : List CD} (h : OkL acK row) : ∃ x : AcD, row = x.row ∧ x.Wf := by
  obtain ⟨d0, r0, rfl, o0, h0⟩ := OkL.cons h
  obtain ⟨d1, r1, rfl, o1, h1⟩ := OkL.cons h0
  obtain ⟨d2, r2, rfl, o2, h2⟩ := OkL.cons h1
  obtain ⟨d3, r3, rfl, o3, h3⟩ := OkL.cons h2
  obtain rfl := h3.nil
  obtain ⟨k, rfl, wk⟩ := ok_int o0
  obtain ⟨m, rfl, wm⟩ := ok_int o1
  obtain ⟨l, rfl, wl, ll⟩ := ok_strs o2
  obtain ⟨ns, rfl, wn, ln⟩ := ok_ints o3
  exact ⟨⟨k, m, l, ns⟩, rfl, wf_i64' wk, wf_i64' wm, fun n hn => wf_u8' (wn n hn), wl, ll⟩
theorem acts_of {ds : List CD} (h : OkL [CK.sl acK] ds) : ∃ xs : List AcD, ds = [.sl (xs.map AcD.row)] ∧ (∀ x ∈ xs, x.Wf) ∧ xs.length ≤ maxLen := by
  obtain ⟨d, r, rfl, o, h1⟩ := OkL.cons h
  obtain rfl := h1.nil
  obtain ⟨rows, rfl, hm, hr⟩ := ok_sl o
  obtain ⟨xs, rfl, hx⟩ := rows_of (f := AcD.row) (R := AcD.Wf) rows (fun row hrow => act_of (hr row hrow))
  exact ⟨xs, rfl, hx, by simpa using hm⟩
theorem val_part {H : AH} {ss : List ByteArray} {v : Value} (h : CD.Val H (.sl (ss.map fun s => [.str s])) v) : Part H H.length v (ss.map .string) := by
  by_cases hn : ss = []
  · subst hn
    generalize hd : CD.sl (([] : List ByteArray).map fun s => [CD.str s]) = d at h
    cases h with
    | int => cases hd
    | str => cases hd
    | bool => cases hd
    | @nil a ha =>
      refine ⟨⟨a, 0, rfl⟩, fun G _ => ?_⟩
      cases a with
      | none => rfl
      | some x =>
        obtain ⟨i, off, sp⟩ := x
        have := ha _ rfl
        simp only at this
        subst this
        rfl
    | @sl sz j k rows h1 h2 h3 h4 =>
      injection hd with hd
      subst hd
      refine ⟨⟨_, _, rfl⟩, fun G hg => ?_⟩
      have := (hg j (hget_lt h1)).trans h1
      simp [xcells, this]
  · exact SlV.part (val_strs h) (by simpa using hn)
theorem act_val {H : AH} {x : AcD} {us : List Value} (h : ValL H x.row us) : ∃ lv kv, us = [.int .i64 x.kind, .int .i64 x.n, lv, kv] ∧ (SlV H lv (x.l.map .string) ∧ Part H H.length lv (x.l.map .string)) ∧ SlV H kv (iv .u8 x.keep) ∧ (notTuple lv = true ∧ lv.cells = #[lv]) ∧ (notTuple kv = true ∧ kv.cells = #[kv]) := by
  obtain ⟨u0, r0, rfl, v0, h0⟩ := ValL.cons h
  obtain ⟨u1, r1, rfl, v1, h1⟩ := ValL.cons h0
  obtain ⟨u2, r2, rfl, v2, h2⟩ := ValL.cons h1
  obtain ⟨u3, r3, rfl, v3, h3⟩ := ValL.cons h2
  obtain rfl := h3.nil
  rw [val_int v0, val_int v1]
  exact ⟨u2, u3, rfl, ⟨val_strs v2, val_part v2⟩, val_ints v3, val_nt v2, val_nt v3⟩
theorem act_at {H : AH} {xs : List AcD} {v : Value} (hv : CD.Val H (.sl (xs.map AcD.row)) v) {i : Nat} {x : AcD} (hx : xs[i]? = some x) (hs4 : szt Tryz.prog 39 = 4) (hag : isAggD (und Tryz.prog 39) = true) (hsl : und Tryz.prog 22 = .slice 39) :
    ∃ lv kv pp, xindexAddr Tryz.prog 22 v (.int .i64 (i : Nat)) = some pp ∧ notTuple pp = true ∧ (SlV H lv (x.l.map .string) ∧ Part H H.length lv (x.l.map .string)) ∧ SlV H kv (iv .u8 x.keep) ∧ (notTuple lv = true ∧ lv.cells = #[lv]) ∧ (notTuple kv = true ∧ kv.cells = #[kv]) ∧ ∀ {G : AH}, Low H.length H G → xload Tryz.prog 39 pp G = some (.agg #[.int .i64 x.kind, .int .i64 x.n, lv, kv]) := by
  obtain ⟨j, b, us, hvj, hb, hbl, hxa, hus, hul, hle, hcell, hval⟩ := val_at (P := Tryz.prog) (t := 22) (e := 39) (sz := 4) hv hsl hs4 (by omega) (fun row hr => by
    obtain ⟨y, _, rfl⟩ := List.mem_map.1 hr; rfl) (i := i) (row := x.row) (by rw [List.getElem?_map, hx]; rfl)
  obtain ⟨lv, kv, e, hsn, hsk, n1, n2⟩ := act_val hval
  refine ⟨lv, kv, _, hxa, rfl, hsn, hsk, n1, n2, fun {G} hs => ?_⟩
  have := load_at (P := Tryz.prog) (e := 39) (i := i) ((hs.1 j (hget_lt hb)).trans hb) hs4 (by omega) hag hus hle
  rw [this, e]
end
section
theorem numB_byJ (n : Nat) : By (numB n) := by
  have h : ∀ g, By (hiG n g) := by
    intro g
    induction g with
    | zero => intro x hx; cases hx
    | succ g ih =>
      unfold hiG
      refine By.app ?_ ih
      split
      · intro x hx; cases hx
      · intro x hx
        simp at hx
        subst hx
        have := Nat.mod_lt (n / 128 ^ (g + 1)) (show 0 < 128 by omega)
        omega
  unfold numB
  refine (h 4).app ?_
  intro x hx
  simp at hx
  omega
theorem textB_byJ (s : ByteArray) : By (textB s) := (numB_byJ _).app (nums_bd s)
theorem textsB_byJ (ps : List ByteArray) : By (textsB ps) := fun y hy => by
  obtain ⟨s, _, hy⟩ := List.mem_flatMap.1 hy
  exact textB_byJ s y hy
theorem textB_lenJ (s : ByteArray) : (textB s).length ≤ s.size + 5 := by
  unfold textB numB
  have := hiG_len s.size 4
  simp only [List.length_append, List.length_cons, List.length_nil, nums_len]
  omega
theorem textsB_lenJ : ∀ ps : List ByteArray, (textsB ps).length ≤ totS ps + 5 * ps.length
  | [] => by simp [textsB]
  | s :: ps => by
    have h1 := textsB_lenJ ps
    have h2 := textB_lenJ s
    have e : textsB (s :: ps) = textB s ++ textsB ps := by simp [textsB]
    rw [e, List.length_append]
    simp only [totS, List.map_cons, List.sum_cons, List.length_cons] at h1 ⊢
    omega
theorem dk_rows {H : AH} {p : Nat} {F : List Nat} {D : DM} (h : Dk H p F D) : ∀ r ∈ D.late, r.size = 256 := late_rows h.1.rows (fun w hw => (h.1.uns w hw).2)
/-- A row of texts that the call itself built. -/
theorem own_sls {G : AH} {F : List Nat} {j : Nat} {ps : List ByteArray} {e : TypeId} {z : Option Nat} (h : hget G j = some ⟨ps.map .string, e, z⟩) (hF : j ∉ F) : SlS G F (.slice (some ⟨j, 0, none⟩) ps.length ps.length) (ps.map .string) := fun G' hg =>
  .inr ⟨j, 0, _, by rw [List.length_map], (hg j (hget_lt h) hF).trans h, fun i x hx => by simpa using hx⟩
def sA : ByteArray := ⟨#[97]⟩
def sBC : ByteArray := ⟨#[98, 99]⟩
theorem GG.lowJ {H H' : AH} (h : GG H) (h2 : 2 ≤ H.length) (hl : Low H.length H H') : GG H' :=
  ⟨by obtain ⟨t, h1⟩ := h.1; exact ⟨t, (hl.1 0 (by omega)).trans h1⟩, by obtain ⟨t, h1⟩ := h.2; exact ⟨t, (hl.1 1 (by omega)).trans h1⟩⟩
attribute [local irreducible] markL newD textsB appJ openJ
attribute [local simp] wb_bool wb_undef XL_nil XL_cons XLc_val XLc_call step1_eq stepW_t stepW_f stepC_n stepC_s stepX_s stepX_n stepN_s calleeX oneV xop_eq xopR_s xopR_n wantedA_eq wantedG_n wantedG_s plain1_int plain1_bool plain1_string bits_i64 bits_u64 bits_u32 bits_u16 bits_u8 xeqA xagg xcmp xarr allK_iv num_iv calleeOf xread xeff xbin xint xnil xun xstr xload xconv xpart xfield xfieldAddr xindexAddr xindex bnd asInt? xslice xlen xmin xmax xbuild xfill xappend xapp2 xappstr xappmk xcap xcopy xcells eval_tmp eval_const put_at put_none fr0_at cells_agg cells_int cells_bool cells_string cells_ptr cells_slice notTuple tab iv_all hget_app hget_app0 hget_cons0 hget_cons set_app set_app0 setR setR_one QL_nil QL_cons QLc_val stepQ_t stepQ_f stepQC_n stepQC_s stepQX_s SL_nil SL_cons SLc_val stepS_t stepS_f ltT ltF leT leF eqT eqF ltTn ltFn leTn leFn eqTn eqFn beqT beqF bneT bneF wi64 wu64 wu32 wu16 wu8 tmodP tdivP hgetL hgetNe hgetEq setL nums_def nums_len Nat.succ_le_of_lt List.getElem?_cons_zero List.getElem?_cons_succ Option.getD_some Int.toNat_add Int.toNat_mul agB agI agS agP agL agA okB okI okS okP okSl okA
theorem alive_rc {H : AH} (hG : GG H) (h2 : 2 ≤ H.length) : AC Tryz.prog H.length gm 4 #[] H (fun v' _ => v' = .bool true) := by
  have hn5 : newN 5 = 5 := by decide
  have hnew := new_ac (nro := H.length) (γ := gm) (H := H) 5 (Nat.le_refl _)
  have hl5 := live_new 5 (by omega)
  have hf5 : (newD 5).firm.length = 5 := by unfold newD; simp [hn5]
  have hbl : (textsB [sA, sBC]).length = 5 := by decide +kernel
  have hop5 := hl5.opens
  have happ := fun hr => hl5.app (ps := [sA, sBC]) hr (fun s hs => by simp at hs; rcases hs with rfl | rfl <;> decide) (textsB_byJ _)
  rw [show JM.half ⟨newD 5, [], 0, 0⟩ = 2 by unfold JM.half; rw [hf5]] at happ
  generalize newD 5 = D0 at *
  generalize hTB : textsB [sA, sBC] = TB at *
  refine ac_of_aw Tryz.func4 rfl Tryz.ntmps4 Tryz.results4 (by simp) ?_
  refine aw_seq ?_
  (refine aw_ops (by kernel_rfl) (fun K hK => ?_); simp (disch := first | omega | (simp only [lnS]; try omega; done)) [-getElem?_pos, -getElem?_neg]; refine hK _ _ ?_; clear hK K)
  refine aw_seq ?_
  refine aw_ops (by kernel_rfl) (fun K hK => ?_)
  simp (disch := first | omega | (simp only [lnS]; try omega; done)) [-getElem?_pos, -getElem?_neg]
  refine ⟨by kernel_rfl, AC.mono hnew ?_⟩
  rintro _ G1 ⟨rfl, hd1, L1, rfl⟩
  try simp (disch := first | omega | (simp only [lnS]; try omega; done)) [-getElem?_pos, -getElem?_neg]
  refine hK _ _ ?_; clear hK K
  have hlow1 : Low H.length H (H ++ L1) := Low.push (Nat.le_refl _) _
  have hF1 : ∀ j ∈ [H.length + 2, H.length, H.length + 1], H.length ≤ j := fun j hj => by simp at hj; omega
  generalize H ++ L1 = G1 at *
  generalize [H.length + 2, H.length, H.length + 1] = F1 at *
  generalize H.length + 2 = d at *
  have hG1 := hG.lowJ h2 hlow1
  obtain ⟨J1, e1, q1, q2, q3, q4, q5, q6⟩ := happ (dk_rows hd1)
  have he1 : e1 = 0 := q6 (by show 0 + TB.length ≤ 2 * 256; omega)
  subst he1
  refine aw_seq ?_
  refine aw_ops (by kernel_rfl) (fun K hK => ?_)
  simp (disch := first | omega | (simp only [lnS]; try omega; done)) [-getElem?_pos, -getElem?_neg]
  refine ⟨by kernel_rfl, AC.mono (open_ac (nro := H.length) hG1 hlow1.2 hd1) ?_⟩
  rw [hop5]
  rintro _ G2 ⟨hl2, q, rv, FR, rfl, hj2, hok2, hq2, hfr2⟩
  try simp (disch := first | omega | (simp only [lnS]; try omega; done)) [-getElem?_pos, -getElem?_neg]
  refine hK _ _ ?_; clear hK K
  have hqj := hj2.hq
  have hG2 := hG1.lowJ (by have := hlow1.2; omega) hl2
  have hlow2 : Low H.length H G2 := hlow1.trans ⟨fun j hj => hl2.1 j (by have := hlow1.2; omega), by have := hl2.2; have := hlow1.2; omega⟩
  have hF2 : ∀ j ∈ q :: (F1 ++ FR), H.length ≤ j := fun j hj => by
    simp only [List.mem_cons, List.mem_append] at hj
    have := hlow1.2
    rcases hj with rfl | hj | hj
    · omega
    · exact hF1 j hj
    · have := hfr2 j hj; omega
  refine aw_seq ?_
  refine aw_seq ?_
  have r2 : List.range 2 = [0, 1] := rfl
  refine aw_ops (by kernel_rfl) (fun K hK => ?_)
  simp (disch := first | omega | (simp only [lnS]; try omega; done)) [-getElem?_pos, -getElem?_neg, -notTuple, nt_strJ, nt_slJ, nt_ptrJ, r2]
  have hrow : hget (G2 ++ [some ⟨[.string ⟨#[97]⟩, .string ⟨#[98, 99]⟩], 9, some 1⟩]) G2.length = some ⟨[sA, sBC].map .string, 9, some 1⟩ := by rw [hget_app0]; rfl
  have hlow3 : Low G2.length G2 (G2 ++ [some ⟨[.string ⟨#[97]⟩, .string ⟨#[98, 99]⟩], 9, some 1⟩]) := Low.push (Nat.le_refl _) _
  generalize G2 ++ [some ⟨[.string ⟨#[97]⟩, .string ⟨#[98, 99]⟩], 9, some 1⟩] = G3 at *
  have hltJ : ∀ j ∈ q :: (F1 ++ FR), j < G2.length := fun j hm => by
    simp only [List.mem_cons, List.mem_append] at hm
    rcases hm with rfl | hm | hm
    · exact hget_lt hqj
    · exact hj2.hd.lt j hm
    · exact hj2.hr.lt j hm
  have hj3 := hj2.low (H' := G3) (fun j hj => hlow3.1 j (hltJ j hj)) hlow3.2
  have hG3 := hG2.lowJ (by have := hlow2.2; omega) hlow3
  have hsls := own_sls (F := q :: (F1 ++ FR)) hrow (fun hm => by have := hltJ _ hm; omega)
  have hap := append_ac (nro := H.length) hG3 (by have := hlow2.2; have := hlow3.2; omega) (by have := hlow2.2; have := hlow3.2; omega) hj3 hl5.ok hF2 [sA, sBC] hsls (fun s hs => by simp at hs; rcases hs with rfl | rfl <;> decide) (by simp) (by simp) (by rw [hTB]; omega) (textsB_byJ _) (by rw [hl5.uns]; simp)
  rw [q1] at hap
  refine ⟨by kernel_rfl, AC.mono hap ?_⟩
  rintro _ G4 ⟨rfl, rv4, F4, FR4, hj4, hf4⟩
  simp (disch := first | omega | (simp only [lnS]; try omega; done)) [-getElem?_pos, -getElem?_neg]
  refine hK _ _ ?_; clear hK K
  refine aw_f (by (first | (simp [eval_tmp, put_at]; done) | (simp [eval_tmp, put_at]; omega))) (by kernel_rfl) ?_
  refine aw_skip ?_
  have hlt4 : ∀ j ∈ q :: (F4 ++ FR4), j < G4.length := fun j hm => by
    simp only [List.mem_cons, List.mem_append] at hm
    rcases hm with rfl | hm | hm
    · exact hget_lt hj4.hq
    · exact hj4.hd.lt j hm
    · exact hj4.hr.lt j hm
  have hlow4 : Low H.length H G4 := ⟨fun j hj => (hf4.out j (by have := hlow2.2; have := hlow3.2; omega) (fun hm => by have := hF2 _ hm; omega)).trans ((hlow3.1 j (by have := hlow2.2; omega)).trans (hlow2.1 j hj)), by have := hlow2.2; have := hlow3.2; have := hf4.len; omega⟩
  have hG4 := hG.lowJ h2 hlow4
  have hrec : J1.recs = [sA, sBC] := by
    rcases q5 with ⟨_, h⟩ | ⟨h, _⟩
    · exact h
    · exact absurd rfl h
  have hop1 := q2.opens
  have hsz1 := q2.size
  rw [hrec, hTB, hbl] at hsz1
  have hhf1 : J1.half = 2 := by unfold JM.half; rw [q3, hf5]
  refine aw_seq ?_
  refine aw_ops (by kernel_rfl) (fun K hK => ?_)
  simp (disch := first | omega | (simp only [lnS]; try omega; done)) [-getElem?_pos, -getElem?_neg]
  refine ⟨by kernel_rfl, AC.mono (open_ac (nro := H.length) hG4 hlow4.2 hj4.hd) ?_⟩
  rw [hop1]
  rintro _ G5 ⟨hl5', q', rv5, FR5, rfl, hj5, hok5, hq5, hfr5⟩
  try simp (disch := first | omega | (simp only [lnS]; try omega; done)) [-getElem?_pos, -getElem?_neg]
  refine hK _ _ ?_; clear hK K
  have hj4' := hj4.low (H' := G5) (fun j hj => hl5'.1 j (hlt4 j hj)) hl5'.2
  refine aw_seq ?_
  refine aw_ops (by kernel_rfl) (fun K hK => ?_)
  simp (disch := first | omega | (simp only [lnS]; try omega; done)) [-getElem?_pos, -getElem?_neg]
  refine ⟨by kernel_rfl, AC.mono (records_ac (nro := H.length) (by have := hlow4.2; have := hl5'.2; omega) hj5 (by rw [hrec]; simp)) ?_⟩
  rw [hrec]
  rintro v6 G6 ⟨hp6, hl6, hk6⟩
  have hn6 := hp6.nt
  simp (disch := first | omega | (simp only [lnS]; try omega; done)) [-getElem?_pos, -getElem?_neg, -notTuple, hn6, nt_strJ, nt_slJ, nt_ptrJ, r2]
  have hrow2 : hget (G6 ++ [some ⟨[.string ⟨#[97]⟩, .string ⟨#[98, 99]⟩], 9, some 1⟩]) G6.length = some ⟨[sA, sBC].map .string, 9, some 1⟩ := by rw [hget_app0]; rfl
  have hlow7 : Low G6.length G6 (G6 ++ [some ⟨[.string ⟨#[97]⟩, .string ⟨#[98, 99]⟩], 9, some 1⟩]) := Low.push (Nat.le_refl _) _
  generalize G6 ++ [some ⟨[.string ⟨#[97]⟩, .string ⟨#[98, 99]⟩], 9, some 1⟩] = G7 at *
  have hs1 : StrV G7 v6 [sA, sBC] := (hp6.keep hlow7.2 hlow7.1).str
  have hs2 : StrV G7 (.slice (some ⟨G6.length, 0, none⟩) 2 2) [sA, sBC] := (own_sls (F := []) (ps := [sA, sBC]) hrow2 (by simp)).now.str
  refine ⟨by kernel_rfl, ac_of_rc (same_rc hs1 hs2 (by simp) (by simp)) (by simp [pv_iv, pv_int, pv_bool, pv_string, pv_tup2, pv_tup3, iv_plain, p2_int, p2_bool, p2_string]) ?_⟩
  simp (disch := first | omega | (simp only [lnS]; try omega; done)) [-getElem?_pos, -getElem?_neg]
  have hj7 := hj4'.low (H' := G7) (fun j hj => by
    have := hlt4 j hj
    have := hl5'.2
    rw [hlow7.1 j (by omega), hk6 j (by omega)]) (by have := hlow7.2; omega)
  refine ⟨by kernel_rfl, ac_of_rc (room_rc hj7 q2.ok) (by simp [pv_iv, pv_int, pv_bool, pv_string, pv_tup2, pv_tup3, iv_plain, p2_int, p2_bool, p2_string]) ?_⟩
  simp (disch := first | omega | (simp only [lnS]; try omega; done)) [-getElem?_pos, -getElem?_neg, hhf1, hsz1]
  refine hK _ _ ?_; clear hK K
  (refine aw_ret ?_; simp (disch := first | omega | (simp only [lnS]; try omega; done)) [-getElem?_pos, -getElem?_neg, thenQ_ret, scopeQ_ret, inBlockQ_ret, RQ, resL, resV])
end
section
/-- Texts laid behind an own row of texts, also none. -/
theorem ownF_appendS {P : Program} {nro : Nat} {t e : TypeId} {H : AH} {v x : Value} {cells news : List Value} {F : List Nat} (hu : und P t = .slice e) (hs : szt P e = 1) (hz : (zer P e).map (·.cells.size) = some 1) (hby : byt P e = 16)
    (hv : OwnF H v e 1 cells F) (hnro : ∀ j ∈ F, nro ≤ j) (hstr : ∀ s, x ≠ .string s) (hx : xcells 1 x H = some news) (hb : cells.length + news.length ≤ 1000000) :
    ∃ v' H' F', xappend P nro t v x H = some (v', H') ∧ OwnF H' v' e 1 (cells ++ news) F' ∧ H.length ≤ H'.length ∧ (∀ j, j < H.length → j ∉ F → hget H' j = hget H j) ∧ ∀ j ∈ F', H.length ≤ j := by
  rcases hv with ⟨rfl, rfl, rfl⟩ | ⟨j, len, rfl, h3, h4, rfl⟩
  · by_cases hn : news = []
    · subst hn
      refine ⟨.slice none 0 0, H, [], ?_, .inl ⟨rfl, rfl, rfl⟩, Nat.le_refl _, fun _ _ _ => rfl, by simp⟩
      unfold xappend
      cases x <;> first | (exact absurd rfl (hstr _)) | (simp only [hu, hs, hx]; rw [if_pos ⟨by omega, hz, by simp, by simp⟩]; first | rw [if_pos rfl] | rw [if_pos trivial])
    · refine ⟨.slice (some ⟨H.length, 0, none⟩) (news.length / 1) (news.length / 1), H ++ [some ⟨news, e, some 1⟩], [H.length], ?_, .inr ⟨H.length, _, rfl, by rw [hget_app0]; rfl, by simp, rfl⟩, by simp, fun i hi _ => hget_left (by omega), by simp⟩
      simp only [List.length_nil, Nat.zero_add] at hb
      unfold xappend
      cases x <;> first | (exact absurd rfl (hstr _)) | (simp only [hu, hs, hx]; rw [if_pos ⟨by omega, hz, by rw [hby]; omega, by simp only [maxLen]; omega⟩, if_neg hn])
  · have hj := hget_lt h3
    have hl : len = cells.length := by omega
    subst hl
    refine ⟨.slice (some ⟨H.length, 0, none⟩) (cells.length + news.length / 1) (cells.length + news.length / 1), H.set j none ++ [some ⟨cells ++ news, e, some 1⟩], [H.length], ?_, .inr ⟨H.length, _, rfl, by rw [hga0]; rfl, by simp, rfl⟩, by simp, fun i hi hni => ?_, by simp⟩
    · have hc : True ∧ 0 < 1 ∧ (zer P e).map (·.cells.size) = some 1 ∧ nro ≤ j ∧ True ∧ True ∧ cells.length * 1 ≤ cells.length ∧ (cells.length * 1 + news.length) * byt P e ≤ 140737488355328 ∧ cells.length * 1 + news.length ≤ maxLen :=
        ⟨trivial, by omega, hz, hnro j (by simp), trivial, trivial, by omega, by rw [hby]; omega, by simp only [maxLen]; omega⟩
      unfold xappend
      cases x <;> first | (exact absurd rfl (hstr _)) | (simp only [hu, hs, hx, h3]; rw [if_pos hc, Nat.mul_one, List.take_length])
    · rw [hget_left (by simp; omega), hget_set_ne (fun e => hni (by simp [e]))]
theorem JrR.lts {H : AH} {q d : Nat} {rv : Value} {FD FR : List Nat} {J : JM} (h : JrR H q d rv FD FR J) : ∀ j ∈ q :: (FD ++ FR), j < H.length := fun j hm => by
  simp only [List.mem_cons, List.mem_append] at hm
  rcases hm with rfl | hm | hm
  · exact hget_lt h.hq
  · exact h.hd.lt j hm
  · exact h.hr.lt j hm
attribute [local irreducible] markL newD textsB appJ openJ
attribute [local simp] wb_bool wb_undef XL_nil XL_cons XLc_val XLc_call step1_eq stepW_t stepW_f stepC_n stepC_s stepX_s stepX_n stepN_s calleeX oneV xop_eq xopR_s xopR_n wantedA_eq wantedG_n wantedG_s plain1_int plain1_bool plain1_string bits_i64 bits_u64 bits_u32 bits_u16 bits_u8 xeqA xagg xcmp xarr allK_iv num_iv calleeOf xread xeff xbin xint xnil xun xstr xload xconv xpart xfield xfieldAddr xindexAddr xindex bnd asInt? xslice xlen xmin xmax xbuild xfill xappend xapp2 xappstr xappmk xcap xcopy xcells eval_tmp eval_const put_at put_none fr0_at cells_agg cells_int cells_bool cells_string cells_ptr cells_slice notTuple tab iv_all hget_app hget_app0 hget_cons0 hget_cons set_app set_app0 setR setR_one QL_nil QL_cons QLc_val stepQ_t stepQ_f stepQC_n stepQC_s stepQX_s SL_nil SL_cons SLc_val stepS_t stepS_f ltT ltF leT leF eqT eqF ltTn ltFn leTn leFn eqTn eqFn beqT beqF bneT bneF wi64 wu64 wu32 wu16 wu8 tmodP tdivP hgetL hgetNe hgetEq setL nums_def nums_len Nat.succ_le_of_lt List.getElem?_cons_zero List.getElem?_cons_succ Option.getD_some Int.toNat_add Int.toNat_mul agB agI agS agP agL agA okB okI okS okP okSl okA
end
section
structure RkR (H : AH) (q f : Nat) (A B : Value) (FA FB : List Nat) (D : DM) : Prop where
  hq : hget H q = some ⟨[.slice (some ⟨f, 0, none⟩) D.firm.length D.firm.length, A, B, .int .i64 D.fuse, .bool D.dead], 55, none⟩
  hf : hget H f = some ⟨D.firm.map .string, 9, some 1⟩
  hA : OwnF H A 3 1 (D.uns.map fun w => .int .i64 (w.1 : Nat)) FA
  hB : OwnF H B 9 1 (D.uns.map fun w => .string w.2) FB
  qf : q ≠ f
  fa : q ∉ FA ∧ f ∉ FA
  fb : q ∉ FB ∧ f ∉ FB
  ab : ∀ j ∈ FA, j ∉ FB
def Rk (H : AH) (q : Nat) (F : List Nat) (D : DM) : Prop := D.Ok ∧ ∃ f A B FA FB, F = q :: f :: (FA ++ FB) ∧ RkR H q f A B FA FB D
theorem Rk.low {H H' : AH} {q : Nat} {F : List Nat} {D : DM} (h : Rk H q F D) (hl : ∀ j ∈ F, hget H' j = hget H j) : Rk H' q F D := by
  obtain ⟨h0, f, A, B, FA, FB, rfl, h⟩ := h
  exact ⟨h0, f, A, B, FA, FB, rfl, ⟨by rw [hl q (by simp)]; exact h.hq, by rw [hl f (by simp)]; exact h.hf, h.hA.low (fun j hj => hl j (by simp [hj])), h.hB.low (fun j hj => hl j (by simp [hj])), h.qf, h.fa, h.fb, h.ab⟩⟩
theorem Rk.lt {H : AH} {q : Nat} {F : List Nat} {D : DM} (h : Rk H q F D) : ∀ j ∈ F, j < H.length := by
  obtain ⟨h0, f, A, B, FA, FB, rfl, h⟩ := h
  intro j hj
  simp only [List.mem_cons, List.mem_append] at hj
  rcases hj with rfl | rfl | hj | hj
  · exact hget_lt h.hq
  · exact hget_lt h.hf
  · exact h.hA.lt j hj
  · exact h.hB.lt j hj
theorem RkR.upd {H : AH} {q f : Nat} {A B : Value} {FA FB : List Nat} {D D' : DM} (h : RkR H q f A B FA FB D) (ho : D.Ok) (hf : D'.firm = D.firm) (hu : D'.uns = D.uns) (hz : -1 ≤ D'.fuse ∧ D'.fuse ≤ 9223372036854775807) :
    Rk (H.set q (some ⟨[.slice (some ⟨f, 0, none⟩) D.firm.length D.firm.length, A, B, .int .i64 D'.fuse, .bool D'.dead], 55, none⟩)) q (q :: f :: (FA ++ FB)) D' := by
  have hpl := hget_lt h.hq
  refine ⟨ho.upd hf hu hz, f, A, B, FA, FB, rfl, ⟨by rw [hget_set_eq hpl, hf], by rw [hget_set_ne h.qf, hf]; exact h.hf, ?_, ?_, h.qf, h.fa, h.fb, h.ab⟩⟩
  · rw [hu]; exact h.hA.low (fun j hj => hget_set_ne (fun e => h.fa.1 (e ▸ hj)))
  · rw [hu]; exact h.hB.low (fun j hj => hget_set_ne (fun e => h.fb.1 (e ▸ hj)))
attribute [local simp] wb_bool wb_undef XL_nil XL_cons XLc_val XLc_call step1_eq stepW_t stepW_f stepC_n stepC_s stepX_s stepX_n stepN_s calleeX oneV xop_eq xopR_s xopR_n wantedA_eq wantedG_n wantedG_s plain1_int plain1_bool plain1_string bits_i64 bits_u64 bits_u32 bits_u16 bits_u8 xeqA xagg xcmp xarr allK_iv num_iv calleeOf xread xeff xbin xint xnil xun xstr xload xconv xpart xfield xfieldAddr xindexAddr xindex bnd asInt? xslice xlen xmin xmax xbuild xfill xappend xapp2 xappstr xappmk xcap xcopy xcells eval_tmp eval_const put_at put_none fr0_at cells_agg cells_int cells_bool cells_string cells_ptr cells_slice notTuple tab iv_all hget_app hget_app0 hget_cons0 hget_cons set_app set_app0 setR setR_one QL_nil QL_cons QLc_val stepQ_t stepQ_f stepQC_n stepQC_s stepQX_s SL_nil SL_cons SLc_val stepS_t stepS_f ltT ltF leT leF eqT eqF ltTn ltFn leTn leFn eqTn eqFn beqT beqF bneT bneF wi64 wu64 wu32 wu16 wu8 tmodP tdivP hgetL hgetNe hgetEq setL nums_def nums_len Nat.succ_le_of_lt List.getElem?_cons_zero List.getElem?_cons_succ Option.getD_some Int.toNat_add Int.toNat_mul agB agI agS agP agL agA okB okI okS okP okSl okA
section
variable {H : AH} {γ : Nat → Option Nat} {nro q : Nat} {F : List Nat} {D : DM}
theorem rhas_ac (h : Rk H q F D) (at_ : Int) : AC Tryz.prog nro γ 87 #[.pointer (some ⟨q, 0, none⟩), .int .i64 at_] H (fun v' H' => v' = .bool (hasB D.firm.length at_) ∧ H' = H) := by
  obtain ⟨ho, f, A, B, FA, FB, rfl, h⟩ := h
  have hq := h.hq
  refine ac_of_aw Tryz.func87 rfl Tryz.ntmps87 Tryz.results87 (by simp) ?_
  refine aw_seq ?_
  (refine aw_ops (by kernel_rfl) (fun K hK => ?_); simp (disch := first | omega | (simp only [lnS]; try omega; done)) [-getElem?_pos, -getElem?_neg]; refine hK _ _ ?_; clear hK K)
  refine aw_seq ?_
  by_cases hc : 0 ≤ at_
  · (refine aw_ops (by kernel_rfl) (fun K hK => ?_); simp (disch := first | omega | (simp only [lnS]; try omega; done)) [-getElem?_pos, -getElem?_neg, hc, hq]; refine hK _ _ ?_; clear hK K)
    (refine aw_ret ?_; simp (disch := first | omega | (simp only [lnS]; try omega; done)) [-getElem?_pos, -getElem?_neg, thenQ_ret, scopeQ_ret, inBlockQ_ret, RQ, resL, resV])
    simp [hasB, hc]
  · (refine aw_ops (by kernel_rfl) (fun K hK => ?_); simp (disch := first | omega | (simp only [lnS]; try omega; done)) [-getElem?_pos, -getElem?_neg, hc, hq]; refine hK _ _ ?_; clear hK K)
    (refine aw_ret ?_; simp (disch := first | omega | (simp only [lnS]; try omega; done)) [-getElem?_pos, -getElem?_neg, thenQ_ret, scopeQ_ret, inBlockQ_ret, RQ, resL, resV])
    simp [hasB, hc]
theorem rburn_ac (h : Rk H q F D) (hn : nro ≤ q) : AC Tryz.prog nro γ 88 #[.pointer (some ⟨q, 0, none⟩)] H (fun v' H' => v' = .bool (decide (D.burnV = 0)) ∧ Rk H' q F D.burn ∧ Fr H H' F F) := by
  obtain ⟨ho, f, A, B, FA, FB, rfl, h⟩ := h
  have hp := h.hq
  have hpl := hget_lt hp
  have hz := ho.fuse
  refine ac_of_aw Tryz.func88 rfl Tryz.ntmps88 Tryz.results88 (by simp) ?_
  refine aw_seq ?_
  (refine aw_ops (by kernel_rfl) (fun K hK => ?_); simp (disch := first | omega | (simp only [lnS]; try omega; done)) [-getElem?_pos, -getElem?_neg]; refine hK _ _ ?_; clear hK K)
  refine aw_seq ?_
  refine aw_seq ?_
  by_cases h0 : D.fuse = 0
  · (refine aw_ops (by kernel_rfl) (fun K hK => ?_); simp (disch := first | omega | (simp only [lnS]; try omega; done)) [-getElem?_pos, -getElem?_neg, hp, h0]; refine hK _ _ ?_; clear hK K)
    refine aw_t (by (first | (simp [eval_tmp, put_at, h0]; done) | (simp [eval_tmp, put_at, h0]; omega))) (by kernel_rfl) ?_
    refine aw_seq ?_
    (refine aw_ops (by kernel_rfl) (fun K hK => ?_); simp (disch := first | omega | (simp only [lnS]; try omega; done)) [-getElem?_pos, -getElem?_neg, hp, h0]; refine hK _ _ ?_; clear hK K)
    refine aw_seq ?_
    (refine aw_ops (by kernel_rfl) (fun K hK => ?_); simp (disch := first | omega | (simp only [lnS]; try omega; done)) [-getElem?_pos, -getElem?_neg]; refine hK _ _ ?_; clear hK K)
    (refine aw_ret ?_; simp (disch := first | omega | (simp only [lnS]; try omega; done)) [-getElem?_pos, -getElem?_neg, thenQ_ret, scopeQ_ret, inBlockQ_ret, RQ, resL, resV])
    have hb : D.burn = { D with dead := true } := by simp [DM.burn, h0]
    refine ⟨by simp [DM.burnV, h0], ?_, fr_set (by simp)⟩
    rw [hb]
    have := h.upd (D' := { D with dead := true }) ho rfl rfl hz
    simpa only [h0] using this
  · (refine aw_ops (by kernel_rfl) (fun K hK => ?_); simp (disch := first | omega | (simp only [lnS]; try omega; done)) [-getElem?_pos, -getElem?_neg, hp, h0]; refine hK _ _ ?_; clear hK K)
    refine aw_f (by (first | (simp [eval_tmp, put_at, h0]; done) | (simp [eval_tmp, put_at, h0]; omega))) (by kernel_rfl) ?_
    refine aw_skip ?_
    refine aw_seq ?_
    refine aw_seq ?_
    by_cases h1 : 0 < D.fuse
    · (refine aw_ops (by kernel_rfl) (fun K hK => ?_); simp (disch := first | omega | (simp only [lnS]; try omega; done)) [-getElem?_pos, -getElem?_neg, hp, h1]; refine hK _ _ ?_; clear hK K)
      refine aw_t (by (first | (simp [eval_tmp, put_at, h1]; done) | (simp [eval_tmp, put_at, h1]; omega))) (by kernel_rfl) ?_
      (refine aw_ops (by kernel_rfl) (fun K hK => ?_); simp (disch := first | omega | (simp only [lnS]; try omega; done)) [-getElem?_pos, -getElem?_neg, hp]; refine hK _ _ ?_; clear hK K)
      refine aw_seq ?_
      (refine aw_ops (by kernel_rfl) (fun K hK => ?_); simp (disch := first | omega | (simp only [lnS]; try omega; done)) [-getElem?_pos, -getElem?_neg]; refine hK _ _ ?_; clear hK K)
      (refine aw_ret ?_; simp (disch := first | omega | (simp only [lnS]; try omega; done)) [-getElem?_pos, -getElem?_neg, thenQ_ret, scopeQ_ret, inBlockQ_ret, RQ, resL, resV])
      have hb : D.burn = { D with fuse := D.fuse - 1 } := by simp [DM.burn, h0, h1]
      refine ⟨by simp [DM.burnV, h0], ?_, fr_set (by simp)⟩
      rw [hb]
      exact h.upd (D' := { D with fuse := D.fuse - 1 }) ho rfl rfl (by simp only; omega)
    · (refine aw_ops (by kernel_rfl) (fun K hK => ?_); simp (disch := first | omega | (simp only [lnS]; try omega; done)) [-getElem?_pos, -getElem?_neg, hp, h1]; refine hK _ _ ?_; clear hK K)
      refine aw_f (by (first | (simp [eval_tmp, put_at, h1]; done) | (simp [eval_tmp, put_at, h1]; omega))) (by kernel_rfl) ?_
      refine aw_skip ?_
      refine aw_seq ?_
      (refine aw_ops (by kernel_rfl) (fun K hK => ?_); simp (disch := first | omega | (simp only [lnS]; try omega; done)) [-getElem?_pos, -getElem?_neg]; refine hK _ _ ?_; clear hK K)
      (refine aw_ret ?_; simp (disch := first | omega | (simp only [lnS]; try omega; done)) [-getElem?_pos, -getElem?_neg, thenQ_ret, scopeQ_ret, inBlockQ_ret, RQ, resL, resV])
      have hb : D.burn = D := by simp [DM.burn, h0, h1]
      rw [hb]
      exact ⟨by simp [DM.burnV, h0], ⟨ho, f, A, B, FA, FB, rfl, h⟩, Fr.refl _ _⟩
theorem light_ac (h : Rk H q F D) (hn : nro ≤ q) {n : Int} (hnb : n ≤ 9223372036854775807) : AC Tryz.prog nro γ 16 #[.pointer (some ⟨q, 0, none⟩), .int .i64 n] H (fun v' H' => Rk H' q F { D with fuse := if n < -1 then -1 else n } ∧ Fr H H' F F) := by
  obtain ⟨ho, f, A, B, FA, FB, rfl, h⟩ := h
  have hp := h.hq
  have hpl := hget_lt hp
  have hm := h.upd (D' := { D with fuse := if n < -1 then -1 else n }) ho rfl rfl (by simp only; split <;> omega)
  simp only at hm
  refine ac_of_aw Tryz.func16 rfl Tryz.ntmps16 Tryz.results16 (by simp) ?_
  refine aw_seq ?_
  (refine aw_ops (by kernel_rfl) (fun K hK => ?_); simp (disch := first | omega | (simp only [lnS]; try omega; done)) [-getElem?_pos, -getElem?_neg, hp]; refine hK _ _ ?_; clear hK K)
  refine aw_seq ?_
  by_cases hc : n < 0
  · (refine aw_ops (by kernel_rfl) (fun K hK => ?_); simp (disch := first | omega | (simp only [lnS]; try omega; done)) [-getElem?_pos, -getElem?_neg, hc]; refine hK _ _ ?_; clear hK K)
    refine aw_t (by (first | (simp [eval_tmp, put_at, hc]; done) | (simp [eval_tmp, put_at, hc]; omega))) (by kernel_rfl) ?_
    have hcc : (if n < -1 then (-1 : Int) else n) = -1 := by split <;> omega
    rw [hcc] at hm ⊢
    (refine aw_ops (by kernel_rfl) (fun K hK => ?_); simp (disch := first | omega | (simp only [lnS]; try omega; done)) [-getElem?_pos, -getElem?_neg, hp, List.set_set]; refine hK _ _ ?_; clear hK K)
    refine ⟨_, _, rfl, rfl, ?_, fr_set (by simp)⟩
    exact hm
  · (refine aw_ops (by kernel_rfl) (fun K hK => ?_); simp (disch := first | omega | (simp only [lnS]; try omega; done)) [-getElem?_pos, -getElem?_neg, hc]; refine hK _ _ ?_; clear hK K)
    refine aw_f (by (first | (simp [eval_tmp, put_at, hc]; done) | (simp [eval_tmp, put_at, hc]; omega))) (by kernel_rfl) ?_
    refine aw_skip ?_
    have hcc : (if n < -1 then (-1 : Int) else n) = n := by split <;> omega
    rw [hcc] at hm ⊢
    refine ⟨_, _, rfl, rfl, ?_, fr_set (by simp)⟩
    exact hm
theorem clear_ac (h : Rk H q F D) (hn : nro ≤ q) : AC Tryz.prog nro γ 45 #[.pointer (some ⟨q, 0, none⟩)] H (fun v' H' => ∃ F', Rk H' q F' { D with uns := [] } ∧ Fr H H' F F') := by
  obtain ⟨ho, f, A, B, FA, FB, rfl, h⟩ := h
  have hp := h.hq
  have hpl := hget_lt hp
  refine ac_of_aw Tryz.func45 rfl Tryz.ntmps45 Tryz.results45 (by simp) ?_
  refine aw_seq ?_
  (refine aw_ops (by kernel_rfl) (fun K hK => ?_); simp (disch := first | omega | (simp only [lnS]; try omega; done)) [-getElem?_pos, -getElem?_neg, hp]; refine hK _ _ ?_; clear hK K)
  (refine aw_ops (by kernel_rfl) (fun K hK => ?_); simp (disch := first | omega | (simp only [lnS]; try omega; done)) [-getElem?_pos, -getElem?_neg, hp]; refine hK _ _ ?_; clear hK K)
  refine ⟨_, _, rfl, rfl, [q, f], ⟨⟨ho.one, ho.most, ho.rows, fun w hw => (by cases hw), ho.fuse, by simp⟩, f, .slice none 0 0, .slice none 0 0, [], [], rfl, ⟨?_, ?_, .inl ⟨rfl, rfl, rfl⟩, .inl ⟨rfl, rfl, rfl⟩, h.qf, by simp, by simp, by simp⟩⟩, ⟨by simp, fun j hj hnj => ?_, fun j hj => .inl (by simp only [List.mem_cons, List.not_mem_nil, or_false] at hj ⊢; rcases hj with h1 | h1 <;> simp [h1])⟩⟩
  · rw [hget_set_eq (by simpa using hpl)]
  · rw [hget_set_ne h.qf]; exact h.hf
  · simp only [List.mem_cons, not_or] at hnj
    rw [hget_set_ne (fun e => hnj.1 e.symm)]
/-- A write's first bytes, settled. -/
def DM.part (D : DM) (w : Nat × ByteArray) (n : Nat) : DM := { D with firm := D.firm.set w.1 (w.2.extract 0 n ++ (D.firm.getD w.1 ⟨#[]⟩).extract n 256) }
theorem part_ok (ho : D.Ok) {w : Nat × ByteArray} (hw : w ∈ D.uns) {n : Nat} (hn : n ≤ 256) : (D.part w n).Ok := by
  have h1 := ho.uns w hw
  refine ⟨by simp [DM.part]; exact ho.one, by simp [DM.part]; exact ho.most, fun r hr => ?_, fun w' hw' => ?_, ho.fuse, ho.few⟩
  · rcases mem_set hr with hr | rfl
    · exact ho.rows r hr
    · have : (D.firm.getD w.1 ⟨#[]⟩).size = 256 := by
        rw [List.getD_eq_getElem?_getD, List.getElem?_eq_getElem h1.1]
        exact ho.rows _ (List.getElem_mem _)
      rw [ByteArray.size_append, ByteArray.size_extract, ByteArray.size_extract, this, h1.2]
      omega
  · have := ho.uns w' hw'
    simpa [DM.part] using this
theorem settle_ac (h : Rk H q F D) (hn : ∀ j ∈ F, nro ≤ j) {i n : Nat} (hnn : n ≤ 256) {w : Nat × ByteArray} (hw : D.uns[i]? = some w) :
    AC Tryz.prog nro γ 44 #[.pointer (some ⟨q, 0, none⟩), .int .i64 (i : Nat), .int .i64 (n : Nat)] H (fun v' H' => Rk H' q F (D.part w n) ∧ Fr H H' F F) := by
  obtain ⟨ho, f, A, B, FA, FB, rfl, h⟩ := h
  have hp := h.hq
  have hpl := hget_lt hp
  have hf := h.hf
  have hfl := hget_lt hf
  have hqf := h.qf
  have hwm := ho.uns w (List.mem_of_getElem? hw)
  have hw1 := hwm.1
  have hw2 := hwm.2
  have hi := (List.getElem?_eq_some_iff.1 hw).1
  have hnf : nro ≤ f := hn f (by simp)
  obtain ⟨a, hA, ha, hFA⟩ := h.hA.slice (n := D.uns.length) (by intro e; have := congrArg List.length e; simp at this; rw [this] at hi; simp at hi) (by omega) (by simp)
  obtain ⟨b, hB, hb, hFB⟩ := h.hB.slice (n := D.uns.length) (by intro e; have := congrArg List.length e; simp at this; rw [this] at hi; simp at hi) (by omega) (by simp)
  subst hA hB
  have hcA : (D.uns.map fun w => Value.int .i64 (w.1 : Nat))[i]? = some (.int .i64 (w.1 : Nat)) := by rw [List.getElem?_map, hw]; rfl
  have hcB : (D.uns.map fun w => Value.string w.2)[i]? = some (.string w.2) := by rw [List.getElem?_map, hw]; rfl
  have hq1 : D.firm[w.1]? = some (D.firm.getD w.1 ⟨#[]⟩) := by rw [List.getD_eq_getElem?_getD, List.getElem?_eq_getElem hw1]; rfl
  have hcF : (D.firm.map Value.string)[w.1]? = some (.string (D.firm.getD w.1 ⟨#[]⟩)) := by rw [List.getElem?_map, hq1]; rfl
  have hqs := ho.rows _ (List.mem_of_getElem? hq1)
  have hpo := part_ok (n := n) ho (List.mem_of_getElem? hw) hnn
  have hpf : (D.part w n).firm = D.firm.set w.1 (w.2.extract 0 n ++ (D.firm.getD w.1 ⟨#[]⟩).extract n 256) := rfl
  have hse : (D.firm.map Value.string).set w.1 (.string (w.2.extract 0 n ++ (D.firm.getD w.1 ⟨#[]⟩).extract n 256)) = (D.part w n).firm.map .string := by rw [hpf, List.map_set]
  have hpl2 : (D.part w n).firm.length = D.firm.length := by simp [DM.part]
  have hpu : (D.part w n).uns = D.uns := rfl
  have hs1 : (w.2.extract 0 n).size = n := by rw [ByteArray.size_extract, hw2]; omega
  have hs2 : ((D.firm.getD w.1 ⟨#[]⟩).extract n 256).size = 256 - n := by rw [ByteArray.size_extract, hqs]; omega
  have hpp : (D.part w n).fuse = D.fuse ∧ (D.part w n).dead = D.dead := ⟨rfl, rfl⟩
  obtain ⟨hpp1, hpp2⟩ := hpp
  generalize D.part w n = D2 at *
  generalize D.firm.getD w.1 ⟨#[]⟩ = Q at *
  refine ac_of_aw Tryz.func44 rfl Tryz.ntmps44 Tryz.results44 (by simp) ?_
  refine aw_seq ?_
  (refine aw_ops (by kernel_rfl) (fun K hK => ?_); simp (disch := first | omega | (simp only [lnS]; try omega; done)) [-getElem?_pos, -getElem?_neg, hp, ha, hb, hcA, hcB]; refine hK _ _ ?_; clear hK K)
  (refine aw_plan [] [] [0, 1, 2, 3, 4, 5, 6, 7, 8, 9, 10, 11, 12, 13, 14, 15, 16, 17, 18, 19, 20, 21, 22, 23, 24] 25 1 (by kernel_rfl) (by kernel_rfl) (by kernel_rfl) (fun K hK => ?_)); simp only [sel, List.getElem?_cons_succ, List.getElem?_cons_zero, List.drop_succ_cons, List.drop_zero]; simp (disch := first | omega | (simp only [lnS]; try omega; done)) [-getElem?_pos, -getElem?_neg, hp, ha, hb, hf, hcA, hcB, hcF, hw2, hqs, hs1, hs2, hse, PL_nil, PL_cons, PLc_val, PLc_new, stepP_t, stepP_f, stepPC_n, stepPC_s, stepPX_s, stepPX_n, stepPA_t, stepPA_c, stepPA_l, stepPN_s, allocOp, reloc_sl, reloc_ptr, List.map_cons, List.map_nil, List.nil_append, List.append_assoc, List.cons_append, Nat.add_assoc]
  refine hK _ _ ?_; clear hK K
  refine ⟨_, _, rfl, rfl, ⟨hpo, f, .slice (some ⟨a, 0, none⟩) D.uns.length D.uns.length, .slice (some ⟨b, 0, none⟩) D.uns.length D.uns.length, FA, FB, rfl, ⟨?_, ?_, ?_, ?_, hqf, h.fa, h.fb, h.ab⟩⟩, fr_set (by simp)⟩
  · rw [hget_set_ne (fun e => hqf e.symm), hpl2, hpp1, hpp2]; exact hp
  · rw [hget_set_eq hfl]
  · rw [hpu]; exact h.hA.low (fun j hj => hget_set_ne (fun e => h.fa.2 (e ▸ hj)))
  · rw [hpu]; exact h.hB.low (fun j hj => hget_set_ne (fun e => h.fb.2 (e ▸ hj)))
/-- Reading: the last write there, or what is settled. -/
theorem late_get {firm : List ByteArray} {uns : List (Nat × ByteArray)} (k : Nat) : ∀ i, i ≤ uns.length → (∀ j w, i ≤ j → uns[j]? = some w → w.1 ≠ k) → (lateOf firm uns)[k]? = (lateOf firm (uns.take i))[k]? := by
  intro i hi hno
  obtain ⟨d, hd⟩ : ∃ d, d + i = uns.length := ⟨uns.length - i, by omega⟩
  induction d generalizing i with
  | zero => rw [show i = uns.length by omega, List.take_length]
  | succ d ih =>
    obtain ⟨w, hw⟩ : ∃ w, uns[i]? = some w := ⟨_, List.getElem?_eq_getElem (by omega)⟩
    rw [ih (i + 1) (by omega) (fun j w' hj => hno j w' (by omega)) (by omega), late_take hw, List.getElem?_set_ne (hno i w (Nat.le_refl _) hw)]
theorem rread_ac (h : Rk H q F D) (hfew : D.uns.length ≤ 1000) {k : Nat} (hk : k < D.firm.length) :
    AC Tryz.prog nro γ 31 #[.pointer (some ⟨q, 0, none⟩), .int .i64 (k : Nat)] H (fun v' H' => v' = .string (readV D.late (k : Nat)) ∧ H' = H) := by
  obtain ⟨ho, f, A, B, FA, FB, rfl, h⟩ := h
  have hp := h.hq
  have hf := h.hf
  have hxl := h.hA.len (P := Tryz.prog) (t := 53) (n := D.uns.length) (by simp) (by simp) (by omega)
  have hll : D.late.length = D.firm.length := late_len _ _
  have hrv : ∀ r, D.late[k]? = some r → readV D.late (k : Nat) = r := fun r hr => by
    have : hasB D.late.length (k : Nat) = true := by simp [hasB]; omega
    simp [readV, this, hr]
  refine ac_of_aw Tryz.func31 rfl Tryz.ntmps31 Tryz.results31 (by simp) ?_
  refine aw_seq ?_
  (refine aw_ops (by kernel_rfl) (fun K hK => ?_); simp (disch := first | omega | (simp only [lnS]; try omega; done)) [-getElem?_pos, -getElem?_neg]; refine hK _ _ ?_; clear hK K)
  refine aw_seq ?_
  refine aw_seq ?_
  (refine aw_ops (by kernel_rfl) (fun K hK => ?_); simp (disch := first | omega | (simp only [lnS]; try omega; done)) [-getElem?_pos, -getElem?_neg, hp, -xlen, hxl]; refine hK _ _ ?_; clear hK K)
  refine aw_block ?_
  refine aw_loop (fun c α G => c ≤ D.uns.length ∧ α 5 = .int .i64 ((c : Nat) - 1 : Int) ∧ α 0 = .pointer (some ⟨q, 0, none⟩) ∧ α 1 = .int .i64 (k : Nat) ∧ G = H ∧ (∀ j w, c ≤ j → D.uns[j]? = some w → w.1 ≠ k)) D.uns.length ?_ ?_
  · exact ⟨Nat.le_refl _, by (first | (simp [put_at, put_none, fr0_at]; done) | rfl), by (first | (simp [put_at, put_none, fr0_at]; done) | rfl), by (first | (simp [put_at, put_none, fr0_at]; done) | rfl), rfl, fun j w hj hw => by rw [List.getElem?_eq_none hj] at hw; cases hw⟩
  rintro c α G ⟨hc, h5, h0, h1, rfl, hno⟩
  refine aw_seq ?_
  refine aw_seq ?_
  by_cases hz : c = 0
  · subst hz
    (refine aw_ops (by kernel_rfl) (fun K hK => ?_); simp (disch := first | omega | (simp only [lnS]; try omega; done)) [-getElem?_pos, -getElem?_neg, h5]; refine hK _ _ ?_; clear hK K)
    refine aw_f (by (first | (simp [eval_tmp, put_at]; done) | (simp [eval_tmp, put_at]; omega))) (by kernel_rfl) ?_
    refine aw_exit ?_
    have e : D.late[k]? = D.firm[k]? := late_get k 0 (by omega) (fun j w _ => hno j w (by omega))
    obtain ⟨r, hr⟩ : ∃ r, D.firm[k]? = some r := ⟨_, List.getElem?_eq_getElem hk⟩
    have hcF : (D.firm.map Value.string)[k]? = some (.string r) := by rw [List.getElem?_map, hr]; rfl
    refine aw_seq ?_
    (refine aw_ops (by kernel_rfl) (fun K hK => ?_); simp (disch := first | omega | (simp only [lnS]; try omega; done)) [-getElem?_pos, -getElem?_neg, h0, h1, hp, hf, hcF]; refine hK _ _ ?_; clear hK K)
    (refine aw_ret ?_; simp (disch := first | omega | (simp only [lnS]; try omega; done)) [-getElem?_pos, -getElem?_neg, thenQ_ret, scopeQ_ret, inBlockQ_ret, RQ, resL, resV])
    rw [hrv r (e.trans hr)]
  · obtain ⟨c', rfl⟩ : ∃ c', c = c' + 1 := ⟨c - 1, by omega⟩
    have hcc : ((c' + 1 : Nat) : Int) - 1 = (c' : Nat) := by omega
    rw [hcc] at h5
    obtain ⟨w, hw⟩ : ∃ w, D.uns[c']? = some w := ⟨_, List.getElem?_eq_getElem (by omega)⟩
    have hwm := ho.uns w (List.mem_of_getElem? hw)
    obtain ⟨a, hA, ha, hFA⟩ := h.hA.slice (n := D.uns.length) (by intro e; have := congrArg List.length e; simp at this; rw [this] at hc; simp at hc) (by omega) (by simp)
    obtain ⟨b, hB, hb, hFB⟩ := h.hB.slice (n := D.uns.length) (by intro e; have := congrArg List.length e; simp at this; rw [this] at hc; simp at hc) (by omega) (by simp)
    subst hA hB
    have hcA : (D.uns.map fun w => Value.int .i64 (w.1 : Nat))[c']? = some (.int .i64 (w.1 : Nat)) := by rw [List.getElem?_map, hw]; rfl
    have hcB : (D.uns.map fun w => Value.string w.2)[c']? = some (.string w.2) := by rw [List.getElem?_map, hw]; rfl
    (refine aw_ops (by kernel_rfl) (fun K hK => ?_); simp (disch := first | omega | (simp only [lnS]; try omega; done)) [-getElem?_pos, -getElem?_neg, h5]; refine hK _ _ ?_; clear hK K)
    refine aw_t (by (first | (simp [eval_tmp, put_at]; done) | (simp [eval_tmp, put_at]; omega))) (by kernel_rfl) ?_
    refine aw_skip ?_
    refine aw_seq ?_
    refine aw_block ?_
    refine aw_seq ?_
    by_cases hwk : w.1 = k
    · (refine aw_ops (by kernel_rfl) (fun K hK => ?_); simp (disch := first | omega | (simp only [lnS]; try omega; done)) [-getElem?_pos, -getElem?_neg, h0, h1, h5, hp, ha, hcA, hwk]; refine hK _ _ ?_; clear hK K)
      refine aw_t (by (first | (simp [eval_tmp, put_at, hwk]; done) | (simp [eval_tmp, put_at, hwk]; omega))) (by kernel_rfl) ?_
      refine aw_seq ?_
      (refine aw_ops (by kernel_rfl) (fun K hK => ?_); simp (disch := first | omega | (simp only [lnS]; try omega; done)) [-getElem?_pos, -getElem?_neg, h0, h1, h5, hp, hb, hcB]; refine hK _ _ ?_; clear hK K)
      (refine aw_ret ?_; simp (disch := first | omega | (simp only [lnS]; try omega; done)) [-getElem?_pos, -getElem?_neg, thenQ_ret, scopeQ_ret, inBlockQ_ret, RQ, resL, resV])
      refine (hrv w.2 ?_).symm
      unfold DM.late
      rw [late_get k (c' + 1) hc hno, late_take hw, hwk, List.getElem?_set_self (by rw [late_len]; exact hk)]
    · have hwk' : ¬ ((w.1 : Nat) : Int) = (k : Nat) := by omega
      (refine aw_ops (by kernel_rfl) (fun K hK => ?_); simp (disch := first | omega | (simp only [lnS]; try omega; done)) [-getElem?_pos, -getElem?_neg, h0, h1, h5, hp, ha, hcA, hwk, hwk']; refine hK _ _ ?_; clear hK K)
      refine aw_f (by (first | (simp [eval_tmp, put_at, hwk, hwk']; done) | (simp [eval_tmp, put_at, hwk, hwk']; omega))) (by kernel_rfl) ?_
      refine aw_skip ?_
      (refine aw_ops (by kernel_rfl) (fun K hK => ?_); simp (disch := first | omega | (simp only [lnS]; try omega; done)) [-getElem?_pos, -getElem?_neg, h5]; refine hK _ _ ?_; clear hK K)
      refine ⟨c', by omega, by omega, by (first | (simp [put_at, put_none, fr0_at]; done) | rfl), by (first | (simp [put_at, put_none, fr0_at, h0]; done) | rfl), by (first | (simp [put_at, put_none, fr0_at, h1]; done) | rfl), rfl, fun j w' hj hw' => ?_⟩
      rcases Nat.eq_or_lt_of_le hj with rfl | hj
      · rw [hw] at hw'; cases hw'; exact hwk
      · exact hno j w' hj hw'
end
end
section
attribute [local simp] wb_bool wb_undef XL_nil XL_cons XLc_val XLc_call step1_eq stepW_t stepW_f stepC_n stepC_s stepX_s stepX_n stepN_s calleeX oneV xop_eq xopR_s xopR_n wantedA_eq wantedG_n wantedG_s plain1_int plain1_bool plain1_string bits_i64 bits_u64 bits_u32 bits_u16 bits_u8 xeqA xagg xcmp xarr allK_iv num_iv calleeOf xread xeff xbin xint xnil xun xstr xload xconv xpart xfield xfieldAddr xindexAddr xindex bnd asInt? xslice xlen xmin xmax xbuild xfill xappend xapp2 xappstr xappmk xcap xcopy xcells eval_tmp eval_const put_at put_none fr0_at cells_agg cells_int cells_bool cells_string cells_ptr cells_slice notTuple tab iv_all hget_app hget_app0 hget_cons0 hget_cons set_app set_app0 setR setR_one QL_nil QL_cons QLc_val stepQ_t stepQ_f stepQC_n stepQC_s stepQX_s SL_nil SL_cons SLc_val stepS_t stepS_f ltT ltF leT leF eqT eqF ltTn ltFn leTn leFn eqTn eqFn beqT beqF bneT bneF wi64 wu64 wu32 wu16 wu8 tmodP tdivP hgetL hgetNe hgetEq setL nums_def nums_len Nat.succ_le_of_lt List.getElem?_cons_zero List.getElem?_cons_succ Option.getD_some Int.toNat_add Int.toNat_mul agB agI agS agP agL agA okB okI okS okP okSl okA
section
variable {H : AH} {γ : Nat → Option Nat} {nro q : Nat} {F : List Nat} {D : DM}
theorem rwrite_ac (h : Rk H q F D) (hn : ∀ j ∈ F, nro ≤ j) (hnl0 : nro ≤ H.length) (hfew : D.uns.length < 1000) (at_ : Int) (t : ByteArray) :
    AC Tryz.prog nro γ 70 #[.pointer (some ⟨q, 0, none⟩), .int .i64 at_, .string t] H (fun v' H' => v' = .int .i64 (D.writeV at_ t) ∧ ∃ F', Rk H' q F' (D.write at_ t) ∧ Fr H H' F F') := by
  have hdk := h
  have hh := rhas_ac (nro := nro) (γ := γ) h at_
  obtain ⟨ho, f, A, B, FA, FB, rfl, h⟩ := h
  have hp := h.hq
  have hpl := hget_lt hp
  have hnp : nro ≤ q := hn q (by simp)
  refine ac_of_aw Tryz.func70 rfl Tryz.ntmps70 Tryz.results70 (by simp) ?_
  refine aw_seq ?_
  (refine aw_ops (by kernel_rfl) (fun K hK => ?_); simp (disch := first | omega | (simp only [lnS]; try omega; done)) [-getElem?_pos, -getElem?_neg]; refine hK _ _ ?_; clear hK K)
  refine aw_seq ?_
  refine aw_seq ?_
  refine aw_ops (by kernel_rfl) (fun K hK => ?_)
  simp (disch := first | omega | (simp only [lnS]; try omega; done)) [-getElem?_pos, -getElem?_neg]
  refine ⟨by kernel_rfl, hh.mono ?_⟩
  rintro v H' ⟨rfl, rfl⟩
  cases hok : okW D at_ t with
  | false =>
    have hww : D.writeV at_ t = 1 := by simp [DM.writeV, hok]
    have hwd : D.write at_ t = D := by simp [DM.write, hok]
    cases hb : hasB D.firm.length at_ with
    | false =>
      simp (disch := first | omega | (simp only [lnS]; try omega; done)) [-getElem?_pos, -getElem?_neg, hb]
      refine hK _ _ ?_; clear hK K
      refine aw_t (by (first | (simp [eval_tmp, put_at]; done) | (simp [eval_tmp, put_at]; omega))) (by kernel_rfl) ?_
      refine aw_seq ?_
      (refine aw_ops (by kernel_rfl) (fun K hK => ?_); simp (disch := first | omega | (simp only [lnS]; try omega; done)) [-getElem?_pos, -getElem?_neg]; refine hK _ _ ?_; clear hK K)
      (refine aw_ret ?_; simp (disch := first | omega | (simp only [lnS]; try omega; done)) [-getElem?_pos, -getElem?_neg, thenQ_ret, scopeQ_ret, inBlockQ_ret, RQ, resL, resV, hww, hwd])
      exact ⟨_, hdk, Fr.refl _ _⟩
    | true =>
      have hs : t.size ≠ 256 := by intro e; simp [okW, hb, e] at hok
      have hs' : ¬ (t.size : Int) = 256 := by omega
      simp (disch := first | omega | (simp only [lnS]; try omega; done)) [-getElem?_pos, -getElem?_neg, hb, hs, hs']
      refine hK _ _ ?_; clear hK K
      refine aw_t (by (first | (simp [eval_tmp, put_at, hs, hs']; done) | (simp [eval_tmp, put_at, hs, hs']; omega))) (by kernel_rfl) ?_
      refine aw_seq ?_
      (refine aw_ops (by kernel_rfl) (fun K hK => ?_); simp (disch := first | omega | (simp only [lnS]; try omega; done)) [-getElem?_pos, -getElem?_neg]; refine hK _ _ ?_; clear hK K)
      (refine aw_ret ?_; simp (disch := first | omega | (simp only [lnS]; try omega; done)) [-getElem?_pos, -getElem?_neg, thenQ_ret, scopeQ_ret, inBlockQ_ret, RQ, resL, resV, hww, hwd])
      exact ⟨_, hdk, Fr.refl _ _⟩
  | true =>
    have hokk := hok
    simp only [okW, Bool.and_eq_true, decide_eq_true_eq] at hokk
    obtain ⟨hb, hs⟩ := hokk
    have hs' : (t.size : Int) = 256 := by omega
    simp (disch := first | omega | (simp only [lnS]; try omega; done)) [-getElem?_pos, -getElem?_neg, hb, hs, hs']
    refine hK _ _ ?_; clear hK K
    refine aw_f (by (first | (simp [eval_tmp, put_at]; done) | (simp [eval_tmp, put_at]; omega))) (by kernel_rfl) ?_
    refine aw_skip ?_
    refine aw_seq ?_
    refine aw_seq ?_
    (refine aw_ops (by kernel_rfl) (fun K hK => ?_); simp (disch := first | omega | (simp only [lnS]; try omega; done)) [-getElem?_pos, -getElem?_neg, hp]; refine hK _ _ ?_; clear hK K)
    cases hd : D.dead with
    | true =>
      have hww : D.writeV at_ t = 7 := by simp [DM.writeV, hok, hd]
      have hwd : D.write at_ t = D := by simp [DM.write, hok, hd]
      refine aw_t (by (first | (simp [eval_tmp, put_at, hd]; done) | (simp [eval_tmp, put_at, hd]; omega))) (by kernel_rfl) ?_
      refine aw_seq ?_
      (refine aw_ops (by kernel_rfl) (fun K hK => ?_); simp (disch := first | omega | (simp only [lnS]; try omega; done)) [-getElem?_pos, -getElem?_neg]; refine hK _ _ ?_; clear hK K)
      (refine aw_ret ?_; simp (disch := first | omega | (simp only [lnS]; try omega; done)) [-getElem?_pos, -getElem?_neg, thenQ_ret, scopeQ_ret, inBlockQ_ret, RQ, resL, resV, hww, hwd])
      exact ⟨_, hdk, Fr.refl _ _⟩
    | false =>
      have hww : D.writeV at_ t = (D.put at_ t).burnV := by simp [DM.writeV, hok, hd]
      have hwd : D.write at_ t = (D.put at_ t).burn := by simp [DM.write, hok, hd]
      refine aw_f (by (first | (simp [eval_tmp, put_at, hd]; done) | (simp [eval_tmp, put_at, hd]; omega))) (by kernel_rfl) ?_
      refine aw_skip ?_
      have hbb := hb
      simp only [hasB, Bool.and_eq_true, decide_eq_true_eq] at hbb
      obtain ⟨i, rfl⟩ : ∃ i : Nat, at_ = (i : Nat) := ⟨at_.toNat, by omega⟩
      have hi : i < D.firm.length := by omega
      have hpt : D.put (i : Nat) t = { D with uns := D.uns ++ [(i, t)] } := by simp [DM.put]
      have hlA := h.hA.lt
      have hlB := h.hB.lt
      have hqf := h.qf
      have hfa := h.fa
      have hfb := h.fb
      have hab := h.ab
      have hfl := hget_lt h.hf
      obtain ⟨B1, hB1⟩ : ∃ B1, B1 = (some ⟨[.int .i64 (i : Nat)], 3, some 1⟩ : Option Blk) := ⟨_, rfl⟩
      obtain ⟨A2, H2, hap, hown, hlen2, hkeep⟩ := ownF_append (P := Tryz.prog) (nro := nro) (t := 53) (e := 3) (H := H' ++ [B1]) (v := A) (x := .slice (some ⟨H'.length, 0, none⟩) 1 1) (sz := 1)
        (cells := D.uns.map fun w => .int .i64 (w.1 : Nat)) (news := [.int .i64 (i : Nat)]) (F := FA) (by simp) (by simp) (by omega) (by simp) (h.hA.low (fun j hj => by rw [hget_left (hlA j hj)]))
        (fun j hj => hn j (by simp [hj])) (fun s e => by cases e) (by simp [xcells, hB1]) (by simp) (by simp) (by simp; omega) (by simp [maxLen]; omega)
      have hgl : (H' ++ [B1]).length = H'.length + 1 := by simp
      rw [hgl] at hown hlen2
      have hq2 : hget H2 q = some ⟨[.slice (some ⟨f, 0, none⟩) D.firm.length D.firm.length, A, B, .int .i64 D.fuse, .bool D.dead], 55, none⟩ := by
        rw [hkeep q (by omega) hfa.1, hget_left hpl]; exact hp
      have hf2 : hget H2 f = some ⟨D.firm.map .string, 9, some 1⟩ := by
        rw [hkeep f (by omega) hfa.2, hget_left hfl]; exact h.hf
      have hB2 : OwnF H2 B 9 1 (D.uns.map fun w => .string w.2) FB := h.hB.low (fun j hj => by
        rw [hkeep j (by have := hlB j hj; omega) (fun hm => hab j hm hj), hget_left (hlB j hj)])
      have hql2 := hget_lt hq2
      obtain ⟨len2, rfl⟩ := hown.new
      subst hB1
      refine aw_seq ?_
      (refine aw_ops (by kernel_rfl) (fun K hK => ?_); simp (disch := first | omega | (simp only [lnS]; try omega; done)) [-getElem?_pos, -getElem?_neg, -xappend, hap, hp, hq2]; refine hK _ _ ?_; clear hK K)
      obtain ⟨X, hX⟩ : ∃ X, X = (some ⟨[.slice (some ⟨f, 0, none⟩) D.firm.length D.firm.length, .slice (some ⟨H'.length + 1, 0, none⟩) len2 len2, B, .int .i64 D.fuse, .bool D.dead], 55, none⟩ : Option Blk) := ⟨_, rfl⟩
      obtain ⟨B2, hB2e⟩ : ∃ B2, B2 = (some ⟨[.string t], 9, some 1⟩ : Option Blk) := ⟨_, rfl⟩
      obtain ⟨B3, H3, hap3, hown3, hlen3, hkeep3⟩ := ownF_append (P := Tryz.prog) (nro := nro) (t := 36) (e := 9) (H := H2.set q X ++ [B2]) (v := B) (x := .slice (some ⟨H2.length, 0, none⟩) 1 1) (sz := 1)
        (cells := D.uns.map fun w => .string w.2) (news := [.string t]) (F := FB) (by simp) (by simp) (by omega) (by simp) (hB2.low (fun j hj => by rw [hget_left (by rw [List.length_set]; exact hB2.lt j hj), hget_set_ne (fun e : q = j => hfb.1 (by rw [e]; exact hj))]))
        (fun j hj => hn j (by simp [hj])) (fun s e => by cases e) (by simp [xcells, hB2e, hga0]) (by simp) (by simp) (by simp; omega) (by simp [maxLen]; omega)
      have hgl3 : (H2.set q X ++ [B2]).length = H2.length + 1 := by simp
      rw [hgl3] at hown3 hlen3
      have hq3 : hget H3 q = X := by
        rw [hkeep3 q (by omega) hfb.1, hget_left (by rw [List.length_set]; exact hql2), hget_set_eq hql2]
      have hf3 : hget H3 f = some ⟨D.firm.map .string, 9, some 1⟩ := by
        have := hget_lt hf2
        rw [hkeep3 f (by omega) hfb.2, hget_left (by rw [List.length_set]; exact this), hget_set_ne hqf]; exact hf2
      have hA3 : OwnF H3 (.slice (some ⟨H'.length + 1, 0, none⟩) len2 len2) 3 1 ((D.uns.map fun w => .int .i64 (w.1 : Nat)) ++ [.int .i64 (i : Nat)]) [H'.length + 1] := hown.low (fun j hj => by
        rw [List.mem_singleton] at hj
        subst hj
        rw [hkeep3 _ (by omega) (fun hm => by have := hlB _ hm; omega), hget_left (by rw [List.length_set]; omega), hget_set_ne (by omega)])
      obtain ⟨len3, rfl⟩ := hown3.new
      have hql3 : q < H3.length := by omega
      subst hB2e
      refine aw_seq ?_
      have hq3b := hq3
      rw [hX] at hq3b
      rw [← hX]
      have hq2b : hget (H2.set q X) q = _ := (hget_set_eq hql2).trans hX
      (refine aw_ops (by kernel_rfl) (fun K hK => ?_); simp (disch := first | omega | (simp only [lnS]; try omega; done)) [-getElem?_pos, -getElem?_neg, -xappend, hap3, hq2b, hq3b]; refine hK _ _ ?_; clear hK K)
      obtain ⟨Y, hY⟩ : ∃ Y, Y = (some ⟨[.slice (some ⟨f, 0, none⟩) D.firm.length D.firm.length, .slice (some ⟨H'.length + 1, 0, none⟩) len2 len2, .slice (some ⟨H2.length + 1, 0, none⟩) len3 len3, .int .i64 D.fuse, .bool D.dead], 55, none⟩ : Option Blk) := ⟨_, rfl⟩
      rw [← hY]
      have hdk2 : Rk (H3.set q Y) q (q :: f :: ([H'.length + 1] ++ [H2.length + 1])) (D.put (i : Nat) t) := by
        rw [hpt]
        refine ⟨⟨ho.one, ho.most, ho.rows, fun w hw => ?_, ho.fuse, by simp; omega⟩, f, _, _, [H'.length + 1], [H2.length + 1], rfl, ⟨by rw [hget_set_eq hql3, hY], by rw [hget_set_ne hqf]; exact hf3, ?_, ?_, hqf, by simp only [List.mem_singleton]; omega, by simp only [List.mem_singleton]; omega, by simp; omega⟩⟩
        · rcases List.mem_append.1 hw with hw | hw
          · exact ho.uns w hw
          · rw [List.mem_singleton] at hw; subst hw; exact ⟨hi, hs⟩
        · rw [List.map_append]
          exact hA3.low (fun j hj => hget_set_ne (by rw [List.mem_singleton] at hj; omega))
        · rw [List.map_append]
          exact hown3.low (fun j hj => hget_set_ne (by rw [List.mem_singleton] at hj; omega))
      have hfr2 : Fr H' (H3.set q Y) (q :: f :: (FA ++ FB)) (q :: f :: ([H'.length + 1] ++ [H2.length + 1])) := by
        refine ⟨by simp; omega, fun j hj hnj => ?_, fun j hj => ?_⟩
        · simp only [List.mem_cons, List.mem_append, not_or] at hnj
          rw [hget_set_ne (fun e => hnj.1 e.symm), hkeep3 j (by omega) hnj.2.2.2, hget_left (by rw [List.length_set]; omega), hget_set_ne (fun e => hnj.1 e.symm), hkeep j (by omega) hnj.2.2.1, hget_left hj]
        · simp only [List.mem_cons, List.mem_append, List.not_mem_nil, or_false] at hj ⊢
          rcases hj with h1 | h1 | h1 | h1
          · exact .inl (.inl h1)
          · exact .inl (.inr (.inl h1))
          · right; omega
          · right; omega
      have hbn := rburn_ac (nro := nro) (γ := γ) hdk2 hnp
      refine aw_seq ?_
      refine aw_seq ?_
      refine aw_ops (by kernel_rfl) (fun K hK => ?_)
      simp (disch := first | omega | (simp only [lnS]; try omega; done)) [-getElem?_pos, -getElem?_neg]
      refine ⟨by kernel_rfl, hbn.mono ?_⟩
      rintro v H5 ⟨rfl, hdk3, hfr3⟩
      by_cases hbv : (D.put (i : Nat) t).burnV = 0
      · simp (disch := first | omega | (simp only [lnS]; try omega; done)) [-getElem?_pos, -getElem?_neg, hbv]
        refine hK _ _ ?_; clear hK K
        refine aw_f (by (first | (simp [eval_tmp, put_at, hbv]; done) | (simp [eval_tmp, put_at, hbv]; omega))) (by kernel_rfl) ?_
        refine aw_skip ?_
        refine aw_seq ?_
        (refine aw_ops (by kernel_rfl) (fun K hK => ?_); simp (disch := first | omega | (simp only [lnS]; try omega; done)) [-getElem?_pos, -getElem?_neg]; refine hK _ _ ?_; clear hK K)
        (refine aw_ret ?_; simp (disch := first | omega | (simp only [lnS]; try omega; done)) [-getElem?_pos, -getElem?_neg, thenQ_ret, scopeQ_ret, inBlockQ_ret, RQ, resL, resV, hww, hwd])
        exact ⟨_, hdk3, hfr2.trans hfr3⟩
      · have hb7 : (D.put (i : Nat) t).burnV = 7 := by unfold DM.burnV at hbv ⊢; split <;> simp_all
        simp (disch := first | omega | (simp only [lnS]; try omega; done)) [-getElem?_pos, -getElem?_neg, hbv]
        refine hK _ _ ?_; clear hK K
        refine aw_t (by (first | (simp [eval_tmp, put_at, hbv]; done) | (simp [eval_tmp, put_at, hbv]; omega))) (by kernel_rfl) ?_
        refine aw_seq ?_
        (refine aw_ops (by kernel_rfl) (fun K hK => ?_); simp (disch := first | omega | (simp only [lnS]; try omega; done)) [-getElem?_pos, -getElem?_neg]; refine hK _ _ ?_; clear hK K)
        (refine aw_ret ?_; simp (disch := first | omega | (simp only [lnS]; try omega; done)) [-getElem?_pos, -getElem?_neg, thenQ_ret, scopeQ_ret, inBlockQ_ret, RQ, resL, resV, hww, hwd])
        exact ⟨_, hdk3, hfr2.trans hfr3⟩
theorem ext_allD {s : ByteArray} {Q : ByteArray} (hs : s.size = 256) (hq : Q.size = 256) : s.extract 0 256 ++ Q.extract 256 256 = s := by
  refine nums_injF ?_
  rw [nums_appF, nums_extractF, nums_extractF, List.drop_zero, List.take_of_length_le (by rw [nums_len]; omega)]
  simp
theorem ext_none {s : ByteArray} {Q : ByteArray} (hq : Q.size = 256) : s.extract 0 0 ++ Q.extract 0 256 = Q := by
  refine nums_injF ?_
  rw [nums_appF, nums_extractF, nums_extractF, List.drop_zero, List.drop_zero, List.take_of_length_le (l := nums Q) (by rw [nums_len]; omega)]
  simp
theorem set_sameD {L : List ByteArray} {k : Nat} (hk : k < L.length) : L.set k (L.getD k ⟨#[]⟩) = L := by
  rw [List.getD_eq_getElem?_getD, List.getElem?_eq_getElem hk]
  exact List.set_getElem_self hk
theorem getD_size {L : List ByteArray} {k : Nat} (h : ∀ r ∈ L, r.size = 256) (hk : k < L.length) : (L.getD k ⟨#[]⟩).size = 256 := by
  rw [List.getD_eq_getElem?_getD, List.getElem?_eq_getElem hk]
  exact h _ (List.getElem_mem _)
theorem rsync_ac (h : Rk H q F D) (hn : ∀ j ∈ F, nro ≤ j) :
    AC Tryz.prog nro γ 71 #[.pointer (some ⟨q, 0, none⟩)] H (fun v' H' => v' = .int .i64 D.syncV ∧ ∃ F', Rk H' q F' D.sync ∧ Fr H H' F F') := by
  have hdk := h
  obtain ⟨ho, f, A, B, FA, FB, rfl, h⟩ := h
  have hp := h.hq
  have hnp := hn q (by simp)
  have hbu := rburn_ac (nro := nro) (γ := γ) hdk hnp
  refine ac_of_aw Tryz.func71 rfl Tryz.ntmps71 Tryz.results71 (by simp) ?_
  refine aw_seq ?_
  (refine aw_ops (by kernel_rfl) (fun K hK => ?_); simp (disch := first | omega | (simp only [lnS]; try omega; done)) [-getElem?_pos, -getElem?_neg]; refine hK _ _ ?_; clear hK K)
  refine aw_seq ?_
  refine aw_seq ?_
  cases hd : D.dead with
  | true =>
    (refine aw_ops (by kernel_rfl) (fun K hK => ?_); simp (disch := first | omega | (simp only [lnS]; try omega; done)) [-getElem?_pos, -getElem?_neg, hp, hd]; refine hK _ _ ?_; clear hK K)
    refine aw_t (by (first | (simp [eval_tmp, put_at, hd]; done) | (simp [eval_tmp, put_at, hd]; omega))) (by kernel_rfl) ?_
    refine aw_seq ?_
    (refine aw_ops (by kernel_rfl) (fun K hK => ?_); simp (disch := first | omega | (simp only [lnS]; try omega; done)) [-getElem?_pos, -getElem?_neg]; refine hK _ _ ?_; clear hK K)
    have e1 : D.syncV = 7 := by simp [DM.syncV, hd]
    have e2 : D.sync = D := by simp [DM.sync, hd]
    (refine aw_ret ?_; simp (disch := first | omega | (simp only [lnS]; try omega; done)) [-getElem?_pos, -getElem?_neg, thenQ_ret, scopeQ_ret, inBlockQ_ret, RQ, resL, resV, e1, e2])
    exact ⟨_, hdk, Fr.refl _ _⟩
  | false =>
    refine aw_ops (by kernel_rfl) (fun K hK => ?_)
    simp (disch := first | omega | (simp only [lnS]; try omega; done)) [-getElem?_pos, -getElem?_neg, hp, hd]
    refine ⟨by kernel_rfl, hbu.mono ?_⟩
    rintro v H1 ⟨rfl, hdk1, hfr1⟩
    have e1 : D.syncV = D.burnV := by simp [DM.syncV, hd]
    by_cases hb : D.burnV = 0
    case neg =>
      have e2 : D.sync = D.burn := by simp [DM.sync, hd, hb]
      have hb7 : D.burnV = 7 := by unfold DM.burnV at hb ⊢; split <;> simp_all
      simp (disch := first | omega | (simp only [lnS]; try omega; done)) [-getElem?_pos, -getElem?_neg, hb]
      refine hK _ _ ?_; clear hK K
      refine aw_t (by (first | (simp [eval_tmp, put_at, hb]; done) | (simp [eval_tmp, put_at, hb]; omega))) (by kernel_rfl) ?_
      refine aw_seq ?_
      (refine aw_ops (by kernel_rfl) (fun K hK => ?_); simp (disch := first | omega | (simp only [lnS]; try omega; done)) [-getElem?_pos, -getElem?_neg]; refine hK _ _ ?_; clear hK K)
      (refine aw_ret ?_; simp (disch := first | omega | (simp only [lnS]; try omega; done)) [-getElem?_pos, -getElem?_neg, thenQ_ret, scopeQ_ret, inBlockQ_ret, RQ, resL, resV, e1, e2, hb7])
      exact ⟨_, hdk1, hfr1⟩
    have e2 : D.sync = { D.burn with firm := D.late, uns := [] } := by simp [DM.sync, hd, hb]
    rw [hb] at e1
    simp (disch := first | omega | (simp only [lnS]; try omega; done)) [-getElem?_pos, -getElem?_neg, hb]
    refine hK _ _ ?_; clear hK K
    refine aw_f (by (first | (simp [eval_tmp, put_at, hb]; done) | (simp [eval_tmp, put_at, hb]; omega))) (by kernel_rfl) ?_
    refine aw_skip ?_
    refine aw_seq ?_
    have hlate := burn_late D
    rw [← hlate] at e2
    clear hbu h hp hdk hlate ho
    generalize D.burn = D1 at *
    have ho := hdk1.1
    have hfew := ho.few
    refine aw_seq ?_
    (refine aw_ops (by kernel_rfl) (fun K hK => ?_); simp (disch := first | omega | (simp only [lnS]; try omega; done)) [-getElem?_pos, -getElem?_neg]; refine hK _ _ ?_; clear hK K)
    refine aw_block ?_
    refine aw_loop (fun c α G => ∃ i : Nat, i + c = D1.uns.length ∧ α 3 = .int .i64 (i : Nat) ∧ α 0 = .pointer (some ⟨q, 0, none⟩) ∧ Rk G q (q :: f :: (FA ++ FB)) { D1 with firm := lateOf D1.firm (D1.uns.take i) } ∧ Fr H1 G (q :: f :: (FA ++ FB)) (q :: f :: (FA ++ FB))) D1.uns.length ?_ ?_
    · exact ⟨0, by omega, by (first | (simp [put_at, put_none, fr0_at]; done) | rfl), by (first | (simp [put_at, put_none, fr0_at]; done) | rfl), by rw [List.take_zero]; exact hdk1, Fr.refl _ _⟩
    rintro c α G ⟨i, hic, h3, h0, hG, hfG⟩
    have hG0 := hG
    obtain ⟨hoG, f', A', B', FA', FB', hFF, hG⟩ := hG
    have hgp := hG.hq
    have hxl := hG.hA.len (P := Tryz.prog) (t := 53) (n := D1.uns.length) (by simp) (by simp) (by omega)
    refine aw_seq ?_
    refine aw_seq ?_
    simp only at hgp
    (refine aw_ops (by kernel_rfl) (fun K hK => ?_); simp (disch := first | omega | (simp only [lnS]; try omega; done)) [-getElem?_pos, -getElem?_neg, h3, h0, hgp, -xlen, hxl]; refine hK _ _ ?_; clear hK K)
    by_cases hi : i < D1.uns.length
    · refine aw_t (by (first | (simp [eval_tmp, put_at, hi]; done) | (simp [eval_tmp, put_at, hi]; omega))) (by kernel_rfl) ?_
      refine aw_skip ?_
      refine aw_seq ?_
      refine aw_block ?_
      obtain ⟨w, hw⟩ : ∃ w, D1.uns[i]? = some w := ⟨_, List.getElem?_eq_getElem hi⟩
      have hwm := ho.uns w (List.mem_of_getElem? hw)
      have hset := settle_ac (nro := nro) (γ := γ) hG0 hn (n := 256) (by omega) hw
      refine aw_ops (by kernel_rfl) (fun K hK => ?_)
      simp (disch := first | omega | (simp only [lnS]; try omega; done)) [-getElem?_pos, -getElem?_neg, h3, h0]
      refine ⟨by kernel_rfl, hset.mono ?_⟩
      rintro v G2 ⟨hG2, hf2⟩
      try simp (disch := first | omega | (simp only [lnS]; try omega; done)) [-getElem?_pos, -getElem?_neg]
      refine hK _ _ ?_; clear hK K
      have hll : (lateOf D1.firm (D1.uns.take i)).length = D1.firm.length := late_len _ _
      have hpe : DM.part { D1 with firm := lateOf D1.firm (D1.uns.take i) } w 256 = { D1 with firm := lateOf D1.firm (D1.uns.take (i + 1)) } := by
        unfold DM.part
        simp only
        rw [ext_allD hwm.2 (getD_size (rows_take ho i) (by omega)), late_take hw]
      rw [hpe] at hG2
      (refine aw_ops (by kernel_rfl) (fun K hK => ?_); simp (disch := first | omega | (simp only [lnS]; try omega; done)) [-getElem?_pos, -getElem?_neg, h3]; refine hK _ _ ?_; clear hK K)
      exact ⟨c - 1, by omega, i + 1, by omega, by (first | (simp [put_at, put_none, fr0_at]; done) | rfl), by (first | (simp [put_at, put_none, fr0_at, h0]; done) | rfl), hG2, hfG.trans hf2⟩
    · obtain rfl : i = D1.uns.length := by omega
      refine aw_f (by (first | (simp [eval_tmp, put_at]; done) | (simp [eval_tmp, put_at]; omega))) (by kernel_rfl) ?_
      refine aw_exit ?_
      have hcl := clear_ac (nro := nro) (γ := γ) hG0 hnp
      refine aw_seq ?_
      refine aw_ops (by kernel_rfl) (fun K hK => ?_)
      simp (disch := first | omega | (simp only [lnS]; try omega; done)) [-getElem?_pos, -getElem?_neg, h0]
      refine ⟨by kernel_rfl, hcl.mono ?_⟩
      rintro v G2 ⟨F', hG2, hf2⟩
      try simp (disch := first | omega | (simp only [lnS]; try omega; done)) [-getElem?_pos, -getElem?_neg]
      refine hK _ _ ?_; clear hK K
      refine aw_seq ?_
      (refine aw_ops (by kernel_rfl) (fun K hK => ?_); simp (disch := first | omega | (simp only [lnS]; try omega; done)) [-getElem?_pos, -getElem?_neg]; refine hK _ _ ?_; clear hK K)
      (refine aw_ret ?_; simp (disch := first | omega | (simp only [lnS]; try omega; done)) [-getElem?_pos, -getElem?_neg, thenQ_ret, scopeQ_ret, inBlockQ_ret, RQ, resL, resV, e1, e2])
      rw [List.take_length] at hG2
      exact ⟨F', hG2, hfr1.trans (hfG.trans hf2)⟩
theorem rcrash_ac (h : Rk H q F D) (hn : ∀ j ∈ F, nro ≤ j) {kv : Value} {ks : List Int} (hk : SlS H F kv (iv .u8 ks)) (hkb : By ks) :
    AC Tryz.prog nro γ 18 #[.pointer (some ⟨q, 0, none⟩), kv] H (fun v' H' => ∃ F', Rk H' q F' (D.crash ks) ∧ Fr H H' F F') := by
  have ho := h.1
  have hfew := ho.few
  have hnp := hn q (by obtain ⟨_, f, A, B, FA, FB, rfl, _⟩ := h; simp)
  refine ac_of_aw Tryz.func18 rfl Tryz.ntmps18 Tryz.results18 (by simp) ?_
  refine aw_seq ?_
  refine aw_seq ?_
  (refine aw_ops (by kernel_rfl) (fun K hK => ?_); simp (disch := first | omega | (simp only [lnS]; try omega; done)) [-getElem?_pos, -getElem?_neg]; refine hK _ _ ?_; clear hK K)
  refine aw_block ?_
  refine aw_loop (fun c α G => ∃ i : Nat, i + c = D.uns.length ∧ α 4 = .int .i64 (i : Nat) ∧ α 0 = .pointer (some ⟨q, 0, none⟩) ∧ α 1 = kv ∧ Rk G q F { D with firm := crF D.firm D.uns ks i } ∧ Fr H G F F) D.uns.length ?_ ?_
  · exact ⟨0, by omega, by (first | (simp [put_at, put_none, fr0_at]; done) | rfl), by (first | (simp [put_at, put_none, fr0_at]; done) | rfl), by (first | (simp [put_at, put_none, fr0_at]; done) | rfl), h, Fr.refl _ _⟩
  rintro c α G ⟨i, hic, h4, h0, h1, hG, hfG⟩
  have hG0 := hG
  obtain ⟨hoG, f', A', B', FA', FB', hFF, hG⟩ := hG
  have hgp := hG.hq
  have hxl := hG.hA.len (P := Tryz.prog) (t := 53) (n := D.uns.length) (by simp) (by simp) (by omega)
  have hkG := (hk.fr hfG).now
  have hkl := hkG.len (P := Tryz.prog) (t := 37) (e := 5) (by simp)
  rw [iv_length] at hkl
  obtain ⟨hll, hrl⟩ := crF_ok (ks := ks) ho.rows ho.uns i
  refine aw_seq ?_
  refine aw_seq ?_
  simp only at hgp
  (refine aw_ops (by kernel_rfl) (fun K hK => ?_); simp (disch := first | omega | (simp only [lnS]; try omega; done)) [-getElem?_pos, -getElem?_neg, h4, h0, hgp, -xlen, hxl]; refine hK _ _ ?_; clear hK K)
  by_cases hi : i < D.uns.length
  · refine aw_t (by (first | (simp [eval_tmp, put_at, hi]; done) | (simp [eval_tmp, put_at, hi]; omega))) (by kernel_rfl) ?_
    refine aw_skip ?_
    refine aw_seq ?_
    refine aw_block ?_
    obtain ⟨w, hw⟩ : ∃ w, D.uns[i]? = some w := ⟨_, List.getElem?_eq_getElem hi⟩
    have hwm := ho.uns w (List.mem_of_getElem? hw)
    have hcr : crF D.firm D.uns ks (i + 1) = (crF D.firm D.uns ks i).set w.1 (w.2.extract 0 (keptN ks i) ++ ((crF D.firm D.uns ks i).getD w.1 ⟨#[]⟩).extract (keptN ks i) 256) := by rw [crF, hw]
    refine aw_seq ?_
    (refine aw_ops (by kernel_rfl) (fun K hK => ?_); simp (disch := first | omega | (simp only [lnS]; try omega; done)) [-getElem?_pos, -getElem?_neg, h4, h1, -xlen, hkl]; refine hK _ _ ?_; clear hK K)
    have hkb2 := hkb.get i
    by_cases hik : i < ks.length
    · have hset := settle_ac (nro := nro) (γ := γ) hG0 hn (n := keptN ks i) (keptN_bd _ _) hw
      have hkne : keptN ks i = ((ks.getD i 0) % 5).toNat * 64 := by unfold keptN; rw [if_pos hik]
      obtain ⟨q1, hq1, hq2⟩ := hkG.cell (P := Tryz.prog) (t := 37) (e := 5) (i := i) (x := .int .u8 (ks.getD i 0)) (by simp) (by simp) (by simp [agI]) (by simp [okI]) (iv_getN _ _ _ hik)
      have hpe : DM.part { D with firm := crF D.firm D.uns ks i } w (keptN ks i) = { D with firm := crF D.firm D.uns ks (i + 1) } := by
        unfold DM.part
        simp only
        rw [← hcr]
      rw [hpe] at hset
      generalize ks.getD i 0 = kb at *
      have hkz : 64 * (kb % 5) = ((keptN ks i : Nat) : Int) := by omega
      have hkb5 : kb % 5 ≤ 4 := by omega
      have hkb6 : 0 ≤ kb % 5 := by omega
      have hkz0 : kb.tmod 5 = kb % 5 := tmodP (by omega)
      clear hkne
      refine aw_t (by (first | (simp [eval_tmp, put_at, hik]; done) | (simp [eval_tmp, put_at, hik]; omega))) (by kernel_rfl) ?_
      refine aw_ops (by kernel_rfl) (fun K hK => ?_)
      simp (disch := first | omega | (simp only [lnS]; try omega; done)) [-getElem?_pos, -getElem?_neg, h4, h1, h0, -xindexAddr, -xload, hq1, hq2, hkz0, hkz]
      refine ⟨by kernel_rfl, hset.mono ?_⟩
      rintro v G2 ⟨hG2, hf2⟩
      try simp (disch := first | omega | (simp only [lnS]; try omega; done)) [-getElem?_pos, -getElem?_neg]
      refine hK _ _ ?_; clear hK K
      (refine aw_ops (by kernel_rfl) (fun K hK => ?_); simp (disch := first | omega | (simp only [lnS]; try omega; done)) [-getElem?_pos, -getElem?_neg, h4]; refine hK _ _ ?_; clear hK K)
      exact ⟨c - 1, by omega, i + 1, by omega, by (first | (simp [put_at, put_none, fr0_at]; done) | rfl), by (first | (simp [put_at, put_none, fr0_at, h0]; done) | rfl), by (first | (simp [put_at, put_none, fr0_at, h1]; done) | rfl), hG2, hfG.trans hf2⟩
    · refine aw_f (by (first | (simp [eval_tmp, put_at, hik]; done) | (simp [eval_tmp, put_at, hik]; omega))) (by kernel_rfl) ?_
      refine aw_skip ?_
      have hkne : keptN ks i = 0 := by unfold keptN; rw [if_neg hik]
      rw [hkne, ext_none (getD_size hrl (by omega)), set_sameD (by omega)] at hcr
      (refine aw_ops (by kernel_rfl) (fun K hK => ?_); simp (disch := first | omega | (simp only [lnS]; try omega; done)) [-getElem?_pos, -getElem?_neg, h4]; refine hK _ _ ?_; clear hK K)
      refine ⟨c - 1, by omega, i + 1, by omega, by (first | (simp [put_at, put_none, fr0_at]; done) | rfl), by (first | (simp [put_at, put_none, fr0_at, h0]; done) | rfl), by (first | (simp [put_at, put_none, fr0_at, h1]; done) | rfl), ?_, hfG⟩
      rw [hcr]
      exact hG0
  · obtain rfl : i = D.uns.length := by omega
    refine aw_f (by (first | (simp [eval_tmp, put_at]; done) | (simp [eval_tmp, put_at]; omega))) (by kernel_rfl) ?_
    refine aw_exit ?_
    have hcl := clear_ac (nro := nro) (γ := γ) hG0 hnp
    refine aw_seq ?_
    refine aw_ops (by kernel_rfl) (fun K hK => ?_)
    simp (disch := first | omega | (simp only [lnS]; try omega; done)) [-getElem?_pos, -getElem?_neg, h0]
    refine ⟨by kernel_rfl, hcl.mono ?_⟩
    rintro v G2 ⟨F2, hG2, hf2⟩
    try simp (disch := first | omega | (simp only [lnS]; try omega; done)) [-getElem?_pos, -getElem?_neg]
    refine hK _ _ ?_; clear hK K
    obtain ⟨ho2, f2, A2, B2, FA2, FB2, hF2, hG2⟩ := hG2
    have hgp2 := hG2.hq
    have hpl2 := hget_lt hgp2
    simp only at hgp2
    have hup := hG2.upd (D' := D.crash ks) ho2 rfl rfl (by simp [DM.crash])
    refine aw_seq ?_
    (refine aw_ops (by kernel_rfl) (fun K hK => ?_); simp (disch := first | omega | (simp only [lnS]; try omega; done)) [-getElem?_pos, -getElem?_neg, h0, hgp2]; refine hK _ _ ?_; clear hK K)
    (refine aw_ops (by kernel_rfl) (fun K hK => ?_); simp (disch := first | omega | (simp only [lnS]; try omega; done)) [-getElem?_pos, -getElem?_neg, h0, hgp2, List.set_set]; refine hK _ _ ?_; clear hK K)
    refine ⟨_, _, rfl, rfl, F2, ?_, (hfG.trans hf2).trans (fr_set (by rw [hF2]; simp))⟩
    rw [hF2]
    exact hup
end
end
section
theorem zeros_u8 (n : Nat) : ((List.range n).map fun j => [Value.int .u8 0][j % 1]?.getD undef) = iv .u8 (zl n) := by
  have e : (fun j : Nat => [Value.int .u8 0][j % 1]?.getD undef) = fun _ => Value.int .u8 0 := by
    funext j
    rw [Nat.mod_one]; rfl
  rw [e, List.map_const', List.length_range]
  simp [iv, zl]
theorem shown_get (l : Nat) {H L : AH} {N : List Blk} {i j : Nat} {b : Blk} (h : Shown H.length N L (.slice (some ⟨i, 0, none⟩) l l)) (hi : i = H.length + j) (hb : N[j]? = some b) : hget (H ++ L) i = some b := by
  have := h j b hi hb
  rw [hi, hget_app]
  exact this
theorem hget_end (H : AH) : hget H H.length = none := by unfold hget; simp
theorem zs256 : strOfNums (zl 256) = zs 256 := by rw [← nums_zs, of_nums']
attribute [local simp] wb_bool wb_undef XL_nil XL_cons XLc_val XLc_call step1_eq stepW_t stepW_f stepC_n stepC_s stepX_s stepX_n stepN_s calleeX oneV xop_eq xopR_s xopR_n wantedA_eq wantedG_n wantedG_s plain1_int plain1_bool plain1_string bits_i64 bits_u64 bits_u32 bits_u16 bits_u8 xeqA xagg xcmp xarr allK_iv num_iv calleeOf xread xeff xbin xint xnil xun xstr xload xconv xpart xfield xfieldAddr xindexAddr xindex bnd asInt? xslice xlen xmin xmax xbuild xfill xappend xapp2 xappstr xappmk xcap xcopy xcells eval_tmp eval_const put_at put_none fr0_at cells_agg cells_int cells_bool cells_string cells_ptr cells_slice notTuple tab iv_all hget_app hget_app0 hget_cons0 hget_cons set_app set_app0 setR setR_one QL_nil QL_cons QLc_val stepQ_t stepQ_f stepQC_n stepQC_s stepQX_s SL_nil SL_cons SLc_val stepS_t stepS_f ltT ltF leT leF eqT eqF ltTn ltFn leTn leFn eqTn eqFn beqT beqF bneT bneF wi64 wu64 wu32 wu16 wu8 tmodP tdivP hgetL hgetNe hgetEq setL nums_def nums_len Nat.succ_le_of_lt List.getElem?_cons_zero List.getElem?_cons_succ Option.getD_some Int.toNat_add Int.toNat_mul agB agI agS agP agL agA okB okI okS okP okSl okA
section
variable {H : AH} {γ : Nat → Option Nat} {nro : Nat}
theorem rnew_ac (b : Int) (hnro : nro ≤ H.length) : AC Tryz.prog nro γ 7 #[.int .i64 b] H (fun v' H' => v' = .pointer (some ⟨H.length, 0, none⟩) ∧ ∃ F, Rk H' H.length F (newD b) ∧ Fr H H' [] F) := by
  have hbd := newN_bd b
  refine ac_of_aw Tryz.func7 rfl Tryz.ntmps7 Tryz.results7 (by simp) ?_
  refine aw_seq ?_
  (refine aw_ops (by kernel_rfl) (fun K hK => ?_); simp (disch := first | omega | (simp only [lnS]; try omega; done)) [-getElem?_pos, -getElem?_neg]; refine hK _ _ ?_; clear hK K)
  refine aw_seq ?_
  refine aw_cut (fun α G => α 0 = .int .i64 (if b < 1 then 1 else b) ∧ G = H) ?_ ?_
  · refine aw_seq ?_
    by_cases hc : b < 1
    · (refine aw_ops (by kernel_rfl) (fun K hK => ?_); simp (disch := first | omega | (simp only [lnS]; try omega; done)) [-getElem?_pos, -getElem?_neg, hc]; refine hK _ _ ?_; clear hK K)
      refine aw_t (by (first | (simp [eval_tmp, put_at, hc]; done) | (simp [eval_tmp, put_at, hc]; omega))) (by kernel_rfl) ?_
      (refine aw_ops (by kernel_rfl) (fun K hK => ?_); simp (disch := first | omega | (simp only [lnS]; try omega; done)) [-getElem?_pos, -getElem?_neg]; refine hK _ _ ?_; clear hK K)
      exact ⟨by simp [put_at, hc], rfl⟩
    · (refine aw_ops (by kernel_rfl) (fun K hK => ?_); simp (disch := first | omega | (simp only [lnS]; try omega; done)) [-getElem?_pos, -getElem?_neg, hc]; refine hK _ _ ?_; clear hK K)
      refine aw_f (by (first | (simp [eval_tmp, put_at, hc]; done) | (simp [eval_tmp, put_at, hc]; omega))) (by kernel_rfl) ?_
      refine aw_skip ?_
      exact ⟨by simp [put_at, hc, fr0_at], rfl⟩
  rintro α G ⟨h0, rfl⟩
  generalize hb1 : (if b < 1 then 1 else b) = b1 at h0
  refine aw_seq ?_
  refine aw_cut (fun α G2 => α 0 = .int .i64 (newN b : Nat) ∧ G2 = G) ?_ ?_
  · have hnb : (newN b : Int) = if b1 > 1024 then 1024 else b1 := by unfold newN; rw [hb1]; split <;> split at hb1 <;> omega
    refine aw_seq ?_
    by_cases hc : b1 > 1024
    · (refine aw_ops (by kernel_rfl) (fun K hK => ?_); simp (disch := first | omega | (simp only [lnS]; try omega; done)) [-getElem?_pos, -getElem?_neg, h0, hc]; refine hK _ _ ?_; clear hK K)
      refine aw_t (by (first | (simp [eval_tmp, put_at, hc]; done) | (simp [eval_tmp, put_at, hc]; omega))) (by kernel_rfl) ?_
      (refine aw_ops (by kernel_rfl) (fun K hK => ?_); simp (disch := first | omega | (simp only [lnS]; try omega; done)) [-getElem?_pos, -getElem?_neg]; refine hK _ _ ?_; clear hK K)
      exact ⟨by simp [put_at, hc, hnb], rfl⟩
    · (refine aw_ops (by kernel_rfl) (fun K hK => ?_); simp (disch := first | omega | (simp only [lnS]; try omega; done)) [-getElem?_pos, -getElem?_neg, h0, hc]; refine hK _ _ ?_; clear hK K)
      refine aw_f (by (first | (simp [eval_tmp, put_at, hc]; done) | (simp [eval_tmp, put_at, hc]; omega))) (by kernel_rfl) ?_
      refine aw_skip ?_
      exact ⟨by simp [put_at, hc, hnb, h0], rfl⟩
  clear h0
  rintro α G2 ⟨h0, rfl⟩
  refine aw_seq ?_
  (refine aw_ops (by kernel_rfl) (fun K hK => ?_); simp (disch := first | omega | (simp only [lnS]; try omega; done)) [-getElem?_pos, -getElem?_neg, plain_nil]; refine hK _ _ ?_; clear hK K)
  refine aw_seq ?_
  refine aw_seq ?_
  (refine aw_ops (by kernel_rfl) (fun K hK => ?_); simp (disch := first | omega | (simp only [lnS]; try omega; done)) [-getElem?_pos, -getElem?_neg]; refine hK _ _ ?_; clear hK K)
  refine aw_block ?_
  refine aw_loop (fun q α H' => ∃ i : Nat, i + q = newN b ∧ α 4 = .int .i64 (i : Nat) ∧ α 0 = .int .i64 (newN b : Nat) ∧ α 3 = .pointer (some ⟨G2.length, 0, none⟩) ∧ G2.length < H'.length ∧ (∀ j, j < G2.length → hget H' j = hget G2 j) ∧
    ∃ V FF, hget H' G2.length = some ⟨[V, .slice none 0 0, .slice none 0 0, .int .i64 (-1), .bool false], 55, none⟩ ∧ OwnF H' V 9 1 (List.replicate i (.string (zs 256))) FF ∧ ∀ j ∈ FF, G2.length < j) (newN b) ?_ ?_
  · exact ⟨0, by omega, by (first | (simp [put_at, put_none, fr0_at]; done) | rfl), by (first | (simp [put_at, put_none, fr0_at, h0]; done) | rfl), by (first | (simp [put_at, put_none, fr0_at]; done) | rfl), by simp, fun j hj => hget_left hj, .slice none 0 0, [], by rw [hget_app0]; rfl, .inl ⟨rfl, rfl, rfl⟩, by simp⟩
  clear h0
  rintro q α H' ⟨i, hiq, h4, h0, h3, hgl, hgo, V, FF, hgv, hV, hFF⟩
  refine aw_seq ?_
  refine aw_seq ?_
  (refine aw_ops (by kernel_rfl) (fun K hK => ?_); simp (disch := first | omega | (simp only [lnS]; try omega; done)) [-getElem?_pos, -getElem?_neg, h4, h0]; refine hK _ _ ?_; clear hK K)
  by_cases hi : i < newN b
  · refine aw_t (by (first | (simp [eval_tmp, put_at, hi]; done) | (simp [eval_tmp, put_at, hi]; omega))) (by kernel_rfl) ?_
    refine aw_skip ?_
    refine aw_seq ?_
    refine aw_block ?_
    obtain ⟨B1, hB1⟩ : ∃ B1, B1 = (some ⟨iv .u8 (zl 256), 5, some 1⟩ : Option Blk) := ⟨_, rfl⟩
    obtain ⟨B2, hB2⟩ : ∃ B2, B2 = (some ⟨[.string (zs 256)], 9, some 1⟩ : Option Blk) := ⟨_, rfl⟩
    obtain ⟨V2, H2, hap, hown, hlen2, hkeep⟩ := ownF_append (P := Tryz.prog) (nro := nro) (t := 36) (e := 9) (H := H' ++ [B1, B2]) (v := V) (x := .slice (some ⟨H'.length + 1, 0, none⟩) 1 1) (sz := 1)
        (cells := List.replicate i (.string (zs 256))) (news := [.string (zs 256)]) (F := FF) (by simp) (by simp) (by omega) (by simp) (hV.low (fun j hj => by rw [hget_left (hV.lt j hj)]))
        (fun j hj => by have := hFF j hj; omega) (fun s e => by cases e) (by simp [xcells, hB2, hget_app, hget_cons]) (by simp) (by simp) (by simp; omega) (by simp [maxLen]; omega)
    have hgl1 : (H' ++ [B1, B2]).length = H'.length + 2 := by simp
    rw [hgl1] at hown hlen2
    have hv2 : hget H2 G2.length = _ := (hkeep G2.length (by omega) (fun hm => by have := hFF _ hm; omega)).trans ((hget_left hgl).trans hgv)
    obtain ⟨len2, rfl⟩ := hown.new
    subst hB1 hB2
    have hvl2 := hget_lt hv2
    (refine aw_plan [] [0] [1, 2, 3, 4, 5, 6, 7] 8 4 (by kernel_rfl) (by kernel_rfl) (by kernel_rfl) (fun K hK => ?_)); simp only [sel, List.getElem?_cons_succ, List.getElem?_cons_zero, List.drop_succ_cons, List.drop_zero]; simp (disch := first | omega | (simp only [lnS]; try omega; done)) [-getElem?_pos, -getElem?_neg, -xappend, hap, h3, hgv, zeros_u8, maxLen, hget_end, PL_nil, PL_cons, PLc_val, PLc_new, stepP_t, stepP_f, stepPC_n, stepPC_s, stepPX_s, stepPX_n, stepPA_t, stepPA_c, stepPA_l, stepPN_s, allocOp, reloc_sl, reloc_ptr, List.map_cons, List.map_nil, List.nil_append, List.append_assoc, List.cons_append, Nat.add_assoc]
    refine PLc_conv (v := .string (zs 256)) (fun L hL => ?_) (by simp [pv_iv, pv_int, pv_bool, pv_string, pv_tup2, pv_tup3, iv_plain, p2_int, p2_bool, p2_string]) ?_
    · try simp only [eval_tmp] at hL ⊢
      try simp [put_at] at hL ⊢
      have := shown_get 256 (H := H') (j := 0) (by simpa using hL) (by simp) rfl
      have t256 : (iv .u8 (zl 256)).take 256 = iv .u8 (zl 256) := rfl
      rw [hget_app0] at this
      simp [this, t256, byteList_iv, zs256]
    simp (disch := first | omega | (simp only [lnS]; try omega; done)) [-getElem?_pos, -getElem?_neg, -xappend, hap, hv2, h3, PL_nil, PL_cons, PLc_val, PLc_new, stepP_t, stepP_f, stepPC_n, stepPC_s, stepPX_s, stepPX_n, stepPA_t, stepPA_c, stepPA_l, stepPN_s, allocOp, reloc_sl, reloc_ptr, List.map_cons, List.map_nil, List.nil_append, List.append_assoc, List.cons_append, Nat.add_assoc]
    refine hK _ _ ?_; clear hK K
    (refine aw_ops (by kernel_rfl) (fun K hK => ?_); simp (disch := first | omega | (simp only [lnS]; try omega; done)) [-getElem?_pos, -getElem?_neg, h4]; refine hK _ _ ?_; clear hK K)
    refine ⟨q - 1, by omega, i + 1, by omega, by (first | (simp [put_at, put_none, fr0_at]; done) | rfl), by (first | (simp [put_at, put_none, fr0_at, h0]; done) | rfl), by (first | (simp [put_at, put_none, fr0_at, h3]; done) | rfl), by simp; omega, fun j hj => ?_, _, [H'.length + 2], by rw [hget_set_eq hvl2], ?_, fun j hj => by rw [List.mem_singleton] at hj; omega⟩
    · rw [hget_set_ne (by omega), hkeep j (by omega) (fun hm => by have := hFF _ hm; omega), hget_left (by omega)]
      exact hgo j hj
    · rw [List.replicate_succ']
      exact hown.low (fun j hj => hget_set_ne (by rw [List.mem_singleton] at hj; omega))
  · obtain rfl : i = newN b := by omega
    refine aw_f (by (first | (simp [eval_tmp, put_at, hi]; done) | (simp [eval_tmp, put_at, hi]; omega))) (by kernel_rfl) ?_
    refine aw_exit ?_
    refine aw_seq ?_
    (refine aw_ops (by kernel_rfl) (fun K hK => ?_); simp (disch := first | omega | (simp only [lnS]; try omega; done)) [-getElem?_pos, -getElem?_neg, h3]; refine hK _ _ ?_; clear hK K)
    (refine aw_ret ?_; simp (disch := first | omega | (simp only [lnS]; try omega; done)) [-getElem?_pos, -getElem?_neg, thenQ_ret, scopeQ_ret, inBlockQ_ret, RQ, resL, resV])
    have hgvl := hget_lt hgv
    have hnl : (newD b).firm.length = newN b := by simp [newD]
    have hV2 : ∃ f, V = .slice (some ⟨f, 0, none⟩) (newN b) (newN b) ∧ hget H' f = some ⟨List.replicate (newN b) (.string (zs 256)), 9, some 1⟩ ∧ FF = [f] :=
      hV.slice (by intro e; have := congrArg List.length e; simp at this; omega) (by omega) (by simp)
    obtain ⟨f, rfl, hf, rfl⟩ := hV2
    have hff := hFF f (by simp)
    refine ⟨[G2.length, f], ⟨newD_ok b, f, .slice none 0 0, .slice none 0 0, [], [], rfl, ⟨by rw [hgv, hnl]; rfl, by rw [hf]; simp [newD], .inl ⟨rfl, rfl, rfl⟩, .inl ⟨rfl, rfl, rfl⟩, by omega, by simp, by simp, by simp⟩⟩, ⟨by omega, fun j hj _ => hgo j hj, fun j hj => ?_⟩⟩
    simp only [List.mem_cons, List.not_mem_nil, or_false] at hj
    right; omega
end
end
section
theorem u32_wrap_nat (n : Nat) (h : n < 4294967296) : IntKind.u32.wrap (n : Int) = n := by rw [wrapU32]; omega
theorem bv_bits (x : BitVec 32) : BitVec.ofInt 32 (IntKind.u32.wrap (x.toNat : Int)) = x := by
  rw [u32_wrap_nat _ x.isLt]
  simp
theorem or_bv (x y : Int) : BitVec.ofInt 32 (bitsOf .or .u32 x y) = BitVec.ofInt 32 x ||| BitVec.ofInt 32 y := bv_bits _
theorem and_bv (x y : Int) : BitVec.ofInt 32 (bitsOf .and .u32 x y) = BitVec.ofInt 32 x &&& BitVec.ofInt 32 y := bv_bits _
theorem xor_bv (x y : Int) : BitVec.ofInt 32 (bitsOf .xor .u32 x y) = BitVec.ofInt 32 x ^^^ BitVec.ofInt 32 y := bv_bits _
theorem or_def (x y : Int) : bitsOf .or .u32 x y = IntKind.u32.wrap ((BitVec.ofInt 32 x ||| BitVec.ofInt 32 y).toNat : Int) := rfl
theorem xor_def (x y : Int) : bitsOf .xor .u32 x y = IntKind.u32.wrap ((BitVec.ofInt 32 x ^^^ BitVec.ofInt 32 y).toNat : Int) := rfl
theorem or_comm32 (x y : Int) : bitsOf .or .u32 x y = bitsOf .or .u32 y x := by
  rw [or_def, or_def, BitVec.or_comm]
theorem ones_bv : BitVec.ofInt 32 4294967295 = BitVec.allOnes 32 := by decide
theorem or_xor (a b c d : Int) (h : BitVec.ofInt 32 a ||| BitVec.ofInt 32 b = BitVec.ofInt 32 c ^^^ BitVec.ofInt 32 d) : bitsOf .or .u32 a b = bitsOf .xor .u32 c d := by
  rw [or_def, xor_def, h]
/-- The choice: its two halves meet in no bit. -/
theorem ch_eq (e f g : Int) : bitsOf .or .u32 (bitsOf .and .u32 e f) (bitsOf .and .u32 (bitsOf .xor .u32 4294967295 e) g) = bitsOf .xor .u32 (bitsOf .and .u32 e f) (bitsOf .and .u32 (bitsOf .xor .u32 4294967295 e) g) := by
  apply or_xor
  simp only [and_bv, xor_bv, ones_bv]
  apply BitVec.eq_of_getLsbD_eq
  intro i hi
  simp only [BitVec.getLsbD_or, BitVec.getLsbD_and, BitVec.getLsbD_xor, BitVec.getLsbD_allOnes, hi, decide_true]
  cases (BitVec.ofInt 32 e).getLsbD i <;> cases (BitVec.ofInt 32 f).getLsbD i <;> cases (BitVec.ofInt 32 g).getLsbD i <;> rfl
/-- The most of three. -/
theorem maj_eq (a b c : Int) : bitsOf .or .u32 (bitsOf .or .u32 (bitsOf .and .u32 a b) (bitsOf .and .u32 a c)) (bitsOf .and .u32 b c) = bitsOf .xor .u32 (bitsOf .xor .u32 (bitsOf .and .u32 a b) (bitsOf .and .u32 a c)) (bitsOf .and .u32 b c) := by
  apply or_xor
  simp only [and_bv, xor_bv, or_bv]
  apply BitVec.eq_of_getLsbD_eq
  intro i hi
  simp
  cases (BitVec.ofInt 32 a).getLsbD i <;> cases (BitVec.ofInt 32 b).getLsbD i <;> cases (BitVec.ofInt 32 c).getLsbD i <;> simp
theorem or_nat (m n : Nat) (hm : m < 4294967296) (hn : n < 4294967296) : bitsOf .or .u32 (m : Int) (n : Int) = ((m ||| n : Nat) : Int) := by
  rw [or_def]
  have h : (BitVec.ofInt 32 (m : Int) ||| BitVec.ofInt 32 (n : Int)).toNat = m ||| n := by
    simp [BitVec.toNat_or]
    rw [Nat.mod_eq_of_lt hm, Nat.mod_eq_of_lt hn]
  rw [h]
  exact u32_wrap_nat _ (Nat.or_lt_two_pow (n := 32) hm hn)
theorem or_add (a b i : Nat) (h : b < 2 ^ i) : a * 2 ^ i ||| b = a * 2 ^ i + b := by
  have := Nat.shiftLeft_add_eq_or_of_lt (i := i) h a
  rw [Nat.shiftLeft_eq] at this
  exact this.symm
theorem w4_add (rs : List Int) (i : Nat) (hb : ∀ p, 0 ≤ rs.getD p 0 ∧ rs.getD p 0 ≤ 255) :
    w4 rs i = rs.getD (4 * i) 0 * 16777216 + rs.getD (4 * i + 1) 0 * 65536 + rs.getD (4 * i + 2) 0 * 256 + rs.getD (4 * i + 3) 0 := by
  unfold w4
  have b0 := hb (4 * i)
  have b1 := hb (4 * i + 1)
  have b2 := hb (4 * i + 2)
  have b3 := hb (4 * i + 3)
  obtain ⟨x0, h0⟩ := Int.eq_ofNat_of_zero_le b0.1
  obtain ⟨x1, h1⟩ := Int.eq_ofNat_of_zero_le b1.1
  obtain ⟨x2, h2⟩ := Int.eq_ofNat_of_zero_le b2.1
  obtain ⟨x3, h3⟩ := Int.eq_ofNat_of_zero_le b3.1
  rw [h0] at b0 ⊢
  rw [h1] at b1 ⊢
  rw [h2] at b2 ⊢
  rw [h3] at b3 ⊢
  have e0 : IntKind.u32.wrap ((x0 : Int) * 16777216) = ((x0 * 2 ^ 24 : Nat) : Int) := by rw [wrapU32]; omega
  have e1 : IntKind.u32.wrap ((x1 : Int) * 65536) = ((x1 * 2 ^ 16 : Nat) : Int) := by rw [wrapU32]; omega
  have e2 : IntKind.u32.wrap ((x2 : Int) * 256) = ((x2 * 2 ^ 8 : Nat) : Int) := by rw [wrapU32]; omega
  rw [e0, e1, e2, or_nat _ _ (by omega) (by omega)]
  have a1 : x0 * 2 ^ 24 ||| x1 * 2 ^ 16 = (x0 * 2 ^ 8 + x1) * 2 ^ 16 := by
    rw [or_add _ _ 24 (by omega)]; omega
  rw [a1, or_nat _ _ (by omega) (by omega)]
  have a2 : (x0 * 2 ^ 8 + x1) * 2 ^ 16 ||| x2 * 2 ^ 8 = (x0 * 2 ^ 16 + x1 * 2 ^ 8 + x2) * 2 ^ 8 := by
    rw [or_add _ _ 16 (by omega)]; omega
  rw [a2, or_nat _ _ (by omega) (by omega), or_add _ _ 8 (by omega)]
  omega
theorem gb_nums' (s : ByteArray) (i : Nat) : gb s i = (nums s).getD i 0 := by
  unfold gb nums
  rw [List.getD_eq_getElem?_getD, List.getD_eq_getElem?_getD, List.getElem?_map]
  cases s.data.toList[i]? <;> rfl
end
section
attribute [local simp] wb_bool wb_undef XL_nil XL_cons XLc_val XLc_call step1_eq stepW_t stepW_f stepC_n stepC_s stepX_s stepX_n stepN_s calleeX oneV xop_eq xopR_s xopR_n wantedA_eq wantedG_n wantedG_s plain1_int plain1_bool plain1_string bits_i64 bits_u64 bits_u32 bits_u16 bits_u8 xeqA xagg xcmp xarr allK_iv num_iv calleeOf xread xeff xbin xint xnil xun xstr xload xconv xpart xfield xfieldAddr xindexAddr xindex bnd asInt? xslice xlen xmin xmax xbuild xfill xappend xapp2 xappstr xappmk xcap xcopy xcells eval_tmp eval_const put_at put_none fr0_at cells_agg cells_int cells_bool cells_string cells_ptr cells_slice notTuple tab iv_all hget_app hget_app0 hget_cons0 hget_cons set_app set_app0 setR setR_one QL_nil QL_cons QLc_val stepQ_t stepQ_f stepQC_n stepQC_s stepQX_s SL_nil SL_cons SLc_val stepS_t stepS_f ltT ltF leT leF eqT eqF ltTn ltFn leTn leFn eqTn eqFn beqT beqF bneT bneF wi64 wu64 wu32 wu16 wu8 tmodP tdivP hgetL hgetNe hgetEq setL nums_def nums_len Nat.succ_le_of_lt List.getElem?_cons_zero List.getElem?_cons_succ Option.getD_some Int.toNat_add Int.toNat_mul agB agI agS agP agL agA okB okI okS okP okSl okA
theorem right_vc (x n : Int) (hn : 1 ≤ n ∧ n ≤ 31) : VC Tryz.prog 97 #[.int .u32 x, .int .u64 n] (.int .u32 (rr x n)) := by
  refine vc_of_ac (by simp [pv_iv, pv_int, pv_bool, pv_string, pv_tup2, pv_tup3, iv_plain, p2_int, p2_bool, p2_string]) (by simp [pv_iv, pv_int, pv_bool, pv_string, pv_tup2, pv_tup3, iv_plain, p2_int, p2_bool, p2_string]) ?_
  refine ac_of_aw Tryz.func97 rfl Tryz.ntmps97 Tryz.results97 (by simp) ?_
  have hr : rr x n = bitsOf .or .u32 (x.fdiv (2 ^ (min n.toNat 32))) (IntKind.u32.wrap (x * 2 ^ (min (32 - n).toNat 32))) := by rw [rr, or_comm32]
  rw [hr]
  refine aw_seq ?_
  (refine aw_ops (by kernel_rfl) (fun K hK => ?_); simp (disch := first | omega | (simp only [lnS]; try omega; done)) [-getElem?_pos, -getElem?_neg]; refine hK _ _ ?_; clear hK K)
  refine aw_seq ?_
  (refine aw_ops (by kernel_rfl) (fun K hK => ?_); simp (disch := first | omega | (simp only [lnS]; try omega; done)) [-getElem?_pos, -getElem?_neg]; refine hK _ _ ?_; clear hK K)
  (refine aw_ret ?_; simp [thenQ_ret, inBlockQ_ret, RQ, resL, resV, xload, tab, okD, isAggD, hget_app, hget_app0, hget_cons0, hget_cons, notTuple, put_at, put_none])
  rw [show min n.toNat 32 = n.toNat by omega, show min (32 - n).toNat 32 = (32 - n).toNat by omega]
theorem rounds_rc {H : AH} {γ : Nat → Option Nat} : AC Tryz.prog H.length γ 98 #[] H (fun v' _ => v' = .agg (iv .u32 roundL).toArray) := by
  refine ac_of_aw Tryz.func98 rfl Tryz.ntmps98 Tryz.results98 (by simp) ?_
  refine aw_seq ?_
  (refine aw_ops (by kernel_rfl) (fun K hK => ?_); simp (disch := first | omega | (simp only [lnS]; try omega; done)) [-getElem?_pos, -getElem?_neg]; refine hK _ _ ?_; clear hK K)
  refine aw_seq ?_
  refine aw_ops (by kernel_rfl) (fun K hK => ?_)
  simp (disch := first | omega | (simp only [lnS]; try omega; done)) [-getElem?_pos, -getElem?_neg]
  refine hK _ _ ?_; clear hK K
  (refine aw_ret ?_; simp [thenQ_ret, inBlockQ_ret, RQ, resL, resV, xload, tab, okD, isAggD, hget_app, hget_app0, hget_cons0, hget_cons, notTuple, put_at, put_none])
  rfl
def blockF (st rs : List Int) : List Int := ad st (rn st (w64 rs 48) 64) 8
theorem ad8 (a b c d e f g h a' b' c' d' e' f' g' h' : Int) : ad [a, b, c, d, e, f, g, h] [a', b', c', d', e', f', g', h'] 8 = [w32 (a + a'), w32 (b + b'), w32 (c + c'), w32 (d + d'), w32 (e + e'), w32 (f + f'), w32 (g + g'), w32 (h + h')] := rfl
theorem nums_get_bd (b : ByteArray) (p : Nat) : 0 ≤ (nums b).getD p 0 ∧ (nums b).getD p 0 ≤ 255 := By.get (nums_bd b) p
theorem spr10 (x : Int) : sprF x 17 19 10 = bitsOf .xor .u32 (bitsOf .xor .u32 (rr x 17) (rr x 19)) (x.fdiv 1024) := rfl
theorem spr3 (x : Int) : sprF x 7 18 3 = bitsOf .xor .u32 (bitsOf .xor .u32 (rr x 7) (rr x 18)) (x.fdiv 8) := rfl
theorem rt_eq (e s5 s6 s7 k w : Int) : rt e s5 s6 s7 k w = IntKind.u32.wrap (IntKind.u32.wrap (IntKind.u32.wrap (IntKind.u32.wrap (s7 + bitsOf .xor .u32 (bitsOf .xor .u32 (rr e 6) (rr e 11)) (rr e 25)) + bitsOf .or .u32 (bitsOf .and .u32 e s5) (bitsOf .and .u32 (bitsOf .xor .u32 4294967295 e) s6)) + k) + w) := by
  rw [ch_eq]; rfl
theorem ru_eq (a b c : Int) : ru a b c = IntKind.u32.wrap (bitsOf .xor .u32 (bitsOf .xor .u32 (rr a 2) (rr a 13)) (rr a 22) + bitsOf .or .u32 (bitsOf .or .u32 (bitsOf .and .u32 a b) (bitsOf .and .u32 a c)) (bitsOf .and .u32 b c)) := by
  rw [maj_eq]; rfl
attribute [local irreducible] w16 w64 w4 rn ad zl sprF sigF roundL rt ru rr
theorem block_rc {H : AH} {γ : Nat → Option Nat} (st : List Int) (b : ByteArray) (hs : st.length = 8) (hb : b.size = 64) : AC Tryz.prog H.length γ 81 #[.agg (iv .u32 st).toArray, .string b] H (fun v' _ => v' = .agg (iv .u32 (blockF st (nums b))).toArray) := by
  refine ac_of_aw Tryz.func81 rfl Tryz.ntmps81 Tryz.results81 (by simp) ?_
  refine aw_seq ?_
  (refine aw_ops (by kernel_rfl) (fun K hK => ?_); simp (disch := first | omega | (simp only [lnS]; try omega; done)) [-getElem?_pos, -getElem?_neg]; refine hK _ _ ?_; clear hK K)
  refine aw_seq ?_
  (refine aw_ops (by kernel_rfl) (fun K hK => ?_); simp (disch := first | omega | (simp only [lnS]; try omega; done)) [-getElem?_pos, -getElem?_neg]; refine hK _ _ ?_; clear hK K)
  refine aw_seq ?_
  refine aw_seq ?_
  (refine aw_ops (by kernel_rfl) (fun K hK => ?_); simp (disch := first | omega | (simp only [lnS]; try omega; done)) [-getElem?_pos, -getElem?_neg]; refine hK _ _ ?_; clear hK K)
  refine aw_block ?_
  refine aw_loop (fun q α H' => ∃ i : Nat, i + q = 16 ∧ α 6 = .int .i64 (i : Nat) ∧ α 1 = .string b ∧ α 2 = .pointer (some ⟨H.length, 0, none⟩) ∧ α 4 = .pointer (some ⟨H.length + 1, 0, none⟩) ∧ α 5 = .pointer (some ⟨H.length + 2, 0, none⟩) ∧
    H' = H ++ [some ⟨iv .u32 st, 132, none⟩, some ⟨iv .u32 (zl 8), 132, none⟩, some ⟨iv .u32 (w16 (nums b) i), 149, none⟩]) 16 ?_ ?_
  · refine ⟨0, rfl, by (first | (simp [put_at, put_none, fr0_at]; done) | rfl), by (first | (simp [put_at, put_none, fr0_at]; done) | rfl), by (first | (simp [put_at, put_none, fr0_at]; done) | rfl), by (first | (simp [put_at, put_none, fr0_at]; done) | rfl), by (first | (simp [put_at, put_none, fr0_at]; done) | rfl), by unfold w16; rfl⟩
  rintro q α H' ⟨i, hi, h6, h1, h2, h4, h5, rfl⟩
  refine aw_seq ?_
  refine aw_seq ?_
  (refine aw_ops (by kernel_rfl) (fun K hK => ?_); simp (disch := first | omega | (simp only [lnS]; try omega; done)) [-getElem?_pos, -getElem?_neg, h6]; refine hK _ _ ?_; clear hK K)
  by_cases hlt : (i : Int) < 16
  · refine aw_t (by (first | (simp [eval_tmp, put_at, hlt]; done) | (simp [eval_tmp, put_at, hlt]; omega))) (by kernel_rfl) ?_
    refine aw_skip ?_
    refine aw_seq ?_
    refine aw_block ?_
    obtain ⟨o, ho⟩ : ∃ o : Nat, o = 4 * i := ⟨_, rfl⟩
    have ho' : (4 : Int) * (i : Int) = (o : Int) := by omega
    have hwl := w16_len (nums b) i
    have hws := w16_succ (nums b) i
    have hw4 := w4_add (nums b) i (nums_get_bd b)
    rw [← ho, ← gb_nums', ← gb_nums', ← gb_nums', ← gb_nums'] at hw4
    have b0 := gb_bd b o
    have b1 := gb_bd b (o + 1)
    have b2 := gb_bd b (o + 2)
    have b3 := gb_bd b (o + 3)
    obtain ⟨x0, hx0⟩ : ∃ x, x = gb b o := ⟨_, rfl⟩
    obtain ⟨x1, hx1⟩ : ∃ x, x = gb b (o + 1) := ⟨_, rfl⟩
    obtain ⟨x2, hx2⟩ : ∃ x, x = gb b (o + 2) := ⟨_, rfl⟩
    obtain ⟨x3, hx3⟩ : ∃ x, x = gb b (o + 3) := ⟨_, rfl⟩
    rw [← hx0, ← hx1, ← hx2, ← hx3] at hw4
    rw [← hx0] at b0
    rw [← hx1] at b1
    rw [← hx2] at b2
    rw [← hx3] at b3
    (refine aw_tail 30 (by kernel_rfl) (by kernel_rfl) (by kernel_rfl) (fun K hK => ?_); simp (disch := first | omega | (simp only [lnS]; try omega; done)) [-getElem?_pos, -getElem?_neg, h6, h1, h5, ho', hb, ← hx0, ← hx1, ← hx2, ← hx3, hwl, iv_set, ← hw4, ← hws]; refine hK _ _ ?_; clear hK K)
    (refine aw_ops (by kernel_rfl) (fun K hK => ?_); simp (disch := first | omega | (simp only [lnS]; try omega; done)) [-getElem?_pos, -getElem?_neg, h6]; refine hK _ _ ?_; clear hK K)
    exact ⟨q - 1, by omega, i + 1, by omega, by (first | (simp [put_at, put_none, fr0_at]; done) | rfl), by (first | (simp [put_at, put_none, fr0_at, h1]; done) | rfl), by (first | (simp [put_at, put_none, fr0_at, h2]; done) | rfl), by (first | (simp [put_at, put_none, fr0_at, h4]; done) | rfl), by (first | (simp [put_at, put_none, fr0_at, h5]; done) | rfl), rfl⟩
  · refine aw_f (by (first | (simp [eval_tmp, put_at, hlt]; done) | (simp [eval_tmp, put_at, hlt]; omega))) (by kernel_rfl) ?_
    obtain rfl : i = 16 := by omega
    refine aw_exit ?_
    refine aw_seq ?_
    refine aw_seq ?_
    (refine aw_ops (by kernel_rfl) (fun K hK => ?_); simp (disch := first | omega | (simp only [lnS]; try omega; done)) [-getElem?_pos, -getElem?_neg]; refine hK _ _ ?_; clear hK K)
    refine aw_block ?_
    rw [← w64_zero]
    refine aw_loop (fun q α H' => ∃ j i : Nat, j + q = 48 ∧ i = 16 + j ∧ α 7 = .int .i64 (i : Nat) ∧ α 2 = .pointer (some ⟨H.length, 0, none⟩) ∧ α 4 = .pointer (some ⟨H.length + 1, 0, none⟩) ∧ α 5 = .pointer (some ⟨H.length + 2, 0, none⟩) ∧
      H' = H ++ [some ⟨iv .u32 st, 132, none⟩, some ⟨iv .u32 (zl 8), 132, none⟩, some ⟨iv .u32 (w64 (nums b) j), 149, none⟩]) 48 ?_ ?_
    · refine ⟨0, 16, rfl, rfl, by (first | (simp [put_at, put_none, fr0_at]; done) | rfl), by (first | (simp [put_at, put_none, fr0_at, h2]; done) | rfl), by (first | (simp [put_at, put_none, fr0_at, h4]; done) | rfl), by (first | (simp [put_at, put_none, fr0_at, h5]; done) | rfl), rfl⟩
    clear h6 h1 h2 h4 h5 hlt hi
    rintro q α H' ⟨j, i, hj, hi, h7, h2, h4, h5, rfl⟩
    have hwl := w64_len (nums b) j
    refine aw_seq ?_
    refine aw_seq ?_
    (refine aw_ops (by kernel_rfl) (fun K hK => ?_); simp (disch := first | omega | (simp only [lnS]; try omega; done)) [-getElem?_pos, -getElem?_neg, h7]; refine hK _ _ ?_; clear hK K)
    by_cases hlt : (i : Int) < 64
    · refine aw_t (by (first | (simp [eval_tmp, put_at, hlt]; done) | (simp [eval_tmp, put_at, hlt]; omega))) (by kernel_rfl) ?_
      refine aw_skip ?_
      refine aw_seq ?_
      refine aw_block ?_
      have hws := w64_succ (nums b) j
      rw [← hi] at hws
      obtain ⟨p2, hp2⟩ : ∃ p : Nat, p = 14 + j := ⟨_, rfl⟩
      obtain ⟨p7, hp7⟩ : ∃ p : Nat, p = 9 + j := ⟨_, rfl⟩
      obtain ⟨p15, hp15⟩ : ∃ p : Nat, p = 1 + j := ⟨_, rfl⟩
      rw [← hp2, ← hp7, ← hp15] at hws
      have g2 : (iv .u32 (w64 (nums b) j))[p2]? = some (.int .u32 ((w64 (nums b) j).getD p2 0)) := iv_get _ _ _ (by omega)
      have g7 : (iv .u32 (w64 (nums b) j))[p7]? = some (.int .u32 ((w64 (nums b) j).getD p7 0)) := iv_get _ _ _ (by omega)
      have g15 : (iv .u32 (w64 (nums b) j))[p15]? = some (.int .u32 ((w64 (nums b) j).getD p15 0)) := iv_get _ _ _ (by omega)
      have g16 : (iv .u32 (w64 (nums b) j))[j]? = some (.int .u32 ((w64 (nums b) j).getD j 0)) := iv_get _ _ _ (by omega)
      have i2 : (i : Int) - 2 = (p2 : Int) := by omega
      have i7 : (i : Int) - 7 = (p7 : Int) := by omega
      have i15 : (i : Int) - 15 = (p15 : Int) := by omega
      have i16 : (i : Int) - 16 = (j : Int) := by omega
      generalize (w64 (nums b) j).getD p2 0 = x2 at *
      generalize (w64 (nums b) j).getD p7 0 = x7 at *
      generalize (w64 (nums b) j).getD p15 0 = x15 at *
      generalize (w64 (nums b) j).getD j 0 = x16 at *
      refine aw_seq ?_
      (refine aw_quiet (by kernel_rfl) (by kernel_rfl) (by kernel_rfl) (fun K hK => ?_); simp (disch := first | omega | (simp only [lnS]; try omega; done)) [-getElem?_pos, -getElem?_neg, h7, h5, i15, i2, g15, g2]; refine hK _ ?_; clear hK K)
      (refine aw_floatQ [] [0, 1, 2, 3, 4, 5, 6, 7, 8, 9, 10, 11, 12, 13, 14, 15, 16, 17, 18, 19, 20, 21, 22, 23, 24, 25, 26, 27] 28 1 (by kernel_rfl) (by kernel_rfl) (by kernel_rfl) (fun K hK => ?_)); simp only [sel, List.getElem?_cons_succ, List.getElem?_cons_zero, List.drop_succ_cons, List.drop_zero]; simp (disch := first | omega | (simp only [lnS]; try omega; done)) [-getElem?_pos, -getElem?_neg, h7, h5, g2, g7, g15, g16, i2, i7, i15, i16, hwl, iv_set, QM_nil, QM_cons, QMc_val]
      refine QMc_call (by kernel_rfl) (ac_of_vc (by simp [pv_iv, pv_int, pv_bool, pv_string, pv_tup2, pv_tup3, iv_plain, p2_int, p2_bool, p2_string]) (right_vc x2 17 (by omega)) rfl) rfl ?_
      try simp (disch := first | omega | (simp only [lnS]; try omega; done)) [-getElem?_pos, -getElem?_neg, h7, h5, g2, g7, g15, g16, i2, i7, i15, i16, hwl, iv_set, QM_nil, QM_cons, QMc_val]
      refine QMc_call (by kernel_rfl) (ac_of_vc (by simp [pv_iv, pv_int, pv_bool, pv_string, pv_tup2, pv_tup3, iv_plain, p2_int, p2_bool, p2_string]) (right_vc x2 19 (by omega)) rfl) rfl ?_
      try simp (disch := first | omega | (simp only [lnS]; try omega; done)) [-getElem?_pos, -getElem?_neg, h7, h5, g2, g7, g15, g16, i2, i7, i15, i16, hwl, iv_set, QM_nil, QM_cons, QMc_val]
      refine QMc_call (by kernel_rfl) (ac_of_vc (by simp [pv_iv, pv_int, pv_bool, pv_string, pv_tup2, pv_tup3, iv_plain, p2_int, p2_bool, p2_string]) (right_vc x15 7 (by omega)) rfl) rfl ?_
      try simp (disch := first | omega | (simp only [lnS]; try omega; done)) [-getElem?_pos, -getElem?_neg, h7, h5, g2, g7, g15, g16, i2, i7, i15, i16, hwl, iv_set, QM_nil, QM_cons, QMc_val]
      refine QMc_call (by kernel_rfl) (ac_of_vc (by simp [pv_iv, pv_int, pv_bool, pv_string, pv_tup2, pv_tup3, iv_plain, p2_int, p2_bool, p2_string]) (right_vc x15 18 (by omega)) rfl) rfl ?_
      try simp (disch := first | omega | (simp only [lnS]; try omega; done)) [-getElem?_pos, -getElem?_neg, h7, h5, g2, g7, g15, g16, i2, i7, i15, i16, hwl, iv_set, QM_nil, QM_cons, QMc_val]
      refine hK _ _ ?_; clear hK K
      (refine aw_ops (by kernel_rfl) (fun K hK => ?_); simp (disch := first | omega | (simp only [lnS]; try omega; done)) [-getElem?_pos, -getElem?_neg, h7]; refine hK _ _ ?_; clear hK K)
      refine ⟨q - 1, by omega, j + 1, i + 1, by omega, by omega, by (first | (simp [put_at, put_none, fr0_at]; done) | rfl), by (first | (simp [put_at, put_none, fr0_at, h2]; done) | rfl), by (first | (simp [put_at, put_none, fr0_at, h4]; done) | rfl), by (first | (simp [put_at, put_none, fr0_at, h5]; done) | rfl), ?_⟩
      rw [hws, spr10, spr3]
    · refine aw_f (by (first | (simp [eval_tmp, put_at, hlt]; done) | (simp [eval_tmp, put_at, hlt]; omega))) (by kernel_rfl) ?_
      obtain rfl : j = 48 := by omega
      refine aw_exit ?_
      refine aw_seq ?_
      clear h7 hlt hj hi
      have hbf : blockF st (nums b) = ad st (rn st (w64 (nums b) 48) 64) 8 := rfl
      rw [hbf]
      generalize w64 (nums b) 48 = ws at *
      have hrl := roundL_len
      have hsx : setR (iv .u32 (zl 64)) 0 (iv .u32 roundL) = iv .u32 roundL := setR_all _ _ (by simp [hrl])
      refine aw_ops (by kernel_rfl) (fun K hK => ?_)
      simp (disch := first | omega | (simp only [lnS]; try omega; done)) [-getElem?_pos, -getElem?_neg]
      refine ⟨by kernel_rfl, ac_of_rc rounds_rc (by simp [pv_iv, pv_int, pv_bool, pv_string, pv_tup2, pv_tup3, iv_plain, p2_int, p2_bool, p2_string]) ?_⟩
      simp (disch := first | omega | (simp only [lnS]; try omega; done)) [-getElem?_pos, -getElem?_neg, hrl, hsx]
      refine hK _ _ ?_; clear hK K
      obtain ⟨s0, s1, s2, s3, s4, s5, s6, s7, rfl⟩ := list8 _ hs
      have hiv8 : iv .u32 [s0, s1, s2, s3, s4, s5, s6, s7] = [.int .u32 s0, .int .u32 s1, .int .u32 s2, .int .u32 s3, .int .u32 s4, .int .u32 s5, .int .u32 s6, .int .u32 s7] := rfl
      refine aw_seq ?_
      (refine aw_quiet (by kernel_rfl) (by kernel_rfl) (by kernel_rfl) (fun K hK => ?_); simp (disch := first | omega | (simp only [lnS]; try omega; done)) [-getElem?_pos, -getElem?_neg, h2, hiv8]; refine hK _ ?_; clear hK K)
      refine aw_seq ?_
      (refine aw_quiet (by kernel_rfl) (by kernel_rfl) (by kernel_rfl) (fun K hK => ?_); simp (disch := first | omega | (simp only [lnS]; try omega; done)) [-getElem?_pos, -getElem?_neg, h2, hiv8]; refine hK _ ?_; clear hK K)
      refine aw_seq ?_
      refine aw_seq ?_
      (refine aw_ops (by kernel_rfl) (fun K hK => ?_); simp (disch := first | omega | (simp only [lnS]; try omega; done)) [-getElem?_pos, -getElem?_neg]; refine hK _ _ ?_; clear hK K)
      refine aw_block ?_
      refine aw_loop (fun q α H' => ∃ (i : Nat) (a b' c d e f g h : Int), i + q = 64 ∧ rn [s0, s1, s2, s3, s4, s5, s6, s7] ws i = [a, b', c, d, e, f, g, h] ∧ α 19 = .int .i64 (i : Nat) ∧ α 11 = .int .u32 a ∧ α 12 = .int .u32 b' ∧ α 13 = .int .u32 c ∧ α 14 = .int .u32 d ∧ α 15 = .int .u32 e ∧ α 16 = .int .u32 f ∧ α 17 = .int .u32 g ∧ α 18 = .int .u32 h ∧
        α 2 = .pointer (some ⟨H.length, 0, none⟩) ∧ α 4 = .pointer (some ⟨H.length + 1, 0, none⟩) ∧ α 5 = .pointer (some ⟨H.length + 2, 0, none⟩) ∧ α 10 = .pointer (some ⟨H.length + 3, 0, none⟩) ∧
        H' = H ++ [some ⟨iv .u32 [s0, s1, s2, s3, s4, s5, s6, s7], 132, none⟩, some ⟨iv .u32 (zl 8), 132, none⟩, some ⟨iv .u32 ws, 149, none⟩, some ⟨iv .u32 roundL, 149, none⟩]) 64 ?_ ?_
      · refine ⟨0, s0, s1, s2, s3, s4, s5, s6, s7, rfl, by unfold rn; rfl, by (first | (simp [put_at, put_none, fr0_at]; done) | rfl), by (first | (simp [put_at, put_none, fr0_at]; done) | rfl), by (first | (simp [put_at, put_none, fr0_at]; done) | rfl), by (first | (simp [put_at, put_none, fr0_at]; done) | rfl), by (first | (simp [put_at, put_none, fr0_at]; done) | rfl), by (first | (simp [put_at, put_none, fr0_at]; done) | rfl), by (first | (simp [put_at, put_none, fr0_at]; done) | rfl), by (first | (simp [put_at, put_none, fr0_at]; done) | rfl), by (first | (simp [put_at, put_none, fr0_at]; done) | rfl), by (first | (simp [put_at, put_none, fr0_at, h2]; done) | rfl), by (first | (simp [put_at, put_none, fr0_at, h4]; done) | rfl), by (first | (simp [put_at, put_none, fr0_at, h5]; done) | rfl), by (first | (simp [put_at, put_none, fr0_at]; done) | rfl), rfl⟩
      clear h2 h4 h5
      rintro q α H' ⟨i, a, b', c, d, e, f, g, h, hi, hrn, h19, h11, h12, h13, h14, h15, h16, h17, h18, h2, h4, h5, h10, rfl⟩
      refine aw_seq ?_
      refine aw_seq ?_
      (refine aw_ops (by kernel_rfl) (fun K hK => ?_); simp (disch := first | omega | (simp only [lnS]; try omega; done)) [-getElem?_pos, -getElem?_neg, h19]; refine hK _ _ ?_; clear hK K)
      by_cases hlt : (i : Int) < 64
      · refine aw_t (by (first | (simp [eval_tmp, put_at, hlt]; done) | (simp [eval_tmp, put_at, hlt]; omega))) (by kernel_rfl) ?_
        refine aw_skip ?_
        refine aw_seq ?_
        refine aw_block ?_
        have hrs := rn_succ [s0, s1, s2, s3, s4, s5, s6, s7] ws i
        rw [hrn] at hrs
        have gw : (iv .u32 ws)[i]? = some (.int .u32 (ws.getD i 0)) := iv_get _ _ _ (by omega)
        have gk : (iv .u32 roundL)[i]? = some (.int .u32 (roundL.getD i 0)) := iv_get _ _ _ (by omega)
        generalize roundL.getD i 0 = kk at *
        generalize ws.getD i 0 = wv at *
        have hmax : IntKind.u32.max = 4294967295 := rfl
        have hsg : IntKind.u32.signed = false := rfl
        obtain ⟨t, ht⟩ : ∃ t, t = rt e f g h kk wv := ⟨_, rfl⟩
        obtain ⟨u, hu⟩ : ∃ u, u = ru a b' c := ⟨_, rfl⟩
        have ht' := ht
        have hu' := hu
        rw [rt_eq] at ht'
        rw [ru_eq] at hu'
        refine aw_seq ?_
        refine aw_quietM (by kernel_rfl) (by kernel_rfl) (by kernel_rfl) (fun K hK => ?_)
        simp (disch := first | omega | (simp only [lnS]; try omega; done)) [-getElem?_pos, -getElem?_neg, h19, h15, h16, h17, h18, h5, h10, gk, gw, hwl, hrl, hmax, hsg, QM_nil, QM_cons, QMc_val]
        refine QMc_call (by kernel_rfl) (ac_of_vc (by simp [pv_iv, pv_int, pv_bool, pv_string, pv_tup2, pv_tup3, iv_plain, p2_int, p2_bool, p2_string]) (right_vc e 6 (by omega)) rfl) rfl ?_
        try simp (disch := first | omega | (simp only [lnS]; try omega; done)) [-getElem?_pos, -getElem?_neg, h19, h15, h16, h17, h18, h5, h10, gk, gw, hwl, hrl, hmax, hsg, QM_nil, QM_cons, QMc_val]
        refine QMc_call (by kernel_rfl) (ac_of_vc (by simp [pv_iv, pv_int, pv_bool, pv_string, pv_tup2, pv_tup3, iv_plain, p2_int, p2_bool, p2_string]) (right_vc e 11 (by omega)) rfl) rfl ?_
        try simp (disch := first | omega | (simp only [lnS]; try omega; done)) [-getElem?_pos, -getElem?_neg, h19, h15, h16, h17, h18, h5, h10, gk, gw, hwl, hrl, hmax, hsg, QM_nil, QM_cons, QMc_val]
        refine QMc_call (by kernel_rfl) (ac_of_vc (by simp [pv_iv, pv_int, pv_bool, pv_string, pv_tup2, pv_tup3, iv_plain, p2_int, p2_bool, p2_string]) (right_vc e 25 (by omega)) rfl) rfl ?_
        try simp (disch := first | omega | (simp only [lnS]; try omega; done)) [-getElem?_pos, -getElem?_neg, h19, h15, h16, h17, h18, h5, h10, gk, gw, hwl, hrl, hmax, hsg, ← ht', QM_nil, QM_cons, QMc_val]
        refine hK _ ?_; clear hK K
        refine aw_seq ?_
        refine aw_ops (by kernel_rfl) (fun K hK => ?_)
        simp (disch := first | omega | (simp only [lnS]; try omega; done)) [-getElem?_pos, -getElem?_neg, h11, h12, h13]
        refine ⟨by kernel_rfl, ac_of_vc (by simp [pv_iv, pv_int, pv_bool, pv_string, pv_tup2, pv_tup3, iv_plain, p2_int, p2_bool, p2_string]) (right_vc a 2 (by omega)) ?_⟩
        try simp (disch := first | omega | (simp only [lnS]; try omega; done)) [-getElem?_pos, -getElem?_neg, h11, h12, h13]
        refine ⟨by kernel_rfl, ac_of_vc (by simp [pv_iv, pv_int, pv_bool, pv_string, pv_tup2, pv_tup3, iv_plain, p2_int, p2_bool, p2_string]) (right_vc a 13 (by omega)) ?_⟩
        try simp (disch := first | omega | (simp only [lnS]; try omega; done)) [-getElem?_pos, -getElem?_neg, h11, h12, h13]
        refine ⟨by kernel_rfl, ac_of_vc (by simp [pv_iv, pv_int, pv_bool, pv_string, pv_tup2, pv_tup3, iv_plain, p2_int, p2_bool, p2_string]) (right_vc a 22 (by omega)) ?_⟩
        try simp (disch := first | omega | (simp only [lnS]; try omega; done)) [-getElem?_pos, -getElem?_neg, h11, h12, h13, ← hu']
        refine hK _ _ ?_; clear hK K
        refine aw_seq ?_
        (refine aw_ops (by kernel_rfl) (fun K hK => ?_); simp (disch := first | omega | (simp only [lnS]; try omega; done)) [-getElem?_pos, -getElem?_neg, h17]; refine hK _ _ ?_; clear hK K)
        refine aw_seq ?_
        (refine aw_ops (by kernel_rfl) (fun K hK => ?_); simp (disch := first | omega | (simp only [lnS]; try omega; done)) [-getElem?_pos, -getElem?_neg, h16]; refine hK _ _ ?_; clear hK K)
        refine aw_seq ?_
        (refine aw_ops (by kernel_rfl) (fun K hK => ?_); simp (disch := first | omega | (simp only [lnS]; try omega; done)) [-getElem?_pos, -getElem?_neg, h15]; refine hK _ _ ?_; clear hK K)
        refine aw_seq ?_
        (refine aw_ops (by kernel_rfl) (fun K hK => ?_); simp (disch := first | omega | (simp only [lnS]; try omega; done)) [-getElem?_pos, -getElem?_neg, h14]; refine hK _ _ ?_; clear hK K)
        refine aw_seq ?_
        (refine aw_ops (by kernel_rfl) (fun K hK => ?_); simp (disch := first | omega | (simp only [lnS]; try omega; done)) [-getElem?_pos, -getElem?_neg, h13]; refine hK _ _ ?_; clear hK K)
        refine aw_seq ?_
        (refine aw_ops (by kernel_rfl) (fun K hK => ?_); simp (disch := first | omega | (simp only [lnS]; try omega; done)) [-getElem?_pos, -getElem?_neg, h12]; refine hK _ _ ?_; clear hK K)
        refine aw_seq ?_
        (refine aw_ops (by kernel_rfl) (fun K hK => ?_); simp (disch := first | omega | (simp only [lnS]; try omega; done)) [-getElem?_pos, -getElem?_neg, h11]; refine hK _ _ ?_; clear hK K)
        (refine aw_ops (by kernel_rfl) (fun K hK => ?_); simp (disch := first | omega | (simp only [lnS]; try omega; done)) [-getElem?_pos, -getElem?_neg]; refine hK _ _ ?_; clear hK K)
        (refine aw_ops (by kernel_rfl) (fun K hK => ?_); simp (disch := first | omega | (simp only [lnS]; try omega; done)) [-getElem?_pos, -getElem?_neg, h19]; refine hK _ _ ?_; clear hK K)
        have hr' : rn [s0, s1, s2, s3, s4, s5, s6, s7] ws (i + 1) = [IntKind.u32.wrap (t + u), a, b', c, IntKind.u32.wrap (d + t), e, f, g] := by
          rw [hrs, ht, hu]; simp [rnd, w32]
        refine ⟨q - 1, by omega, i + 1, _, _, _, _, _, _, _, _, by omega, hr', by (first | (simp [put_at, put_none, fr0_at]; done) | rfl), by (first | (simp [put_at, put_none, fr0_at]; done) | rfl), by (first | (simp [put_at, put_none, fr0_at, h11]; done) | rfl), by (first | (simp [put_at, put_none, fr0_at, h12]; done) | rfl), by (first | (simp [put_at, put_none, fr0_at, h13]; done) | rfl), by (first | (simp [put_at, put_none, fr0_at]; done) | rfl), by (first | (simp [put_at, put_none, fr0_at, h15]; done) | rfl), by (first | (simp [put_at, put_none, fr0_at, h16]; done) | rfl), by (first | (simp [put_at, put_none, fr0_at, h17]; done) | rfl), by (first | (simp [put_at, put_none, fr0_at, h2]; done) | rfl), by (first | (simp [put_at, put_none, fr0_at, h4]; done) | rfl), by (first | (simp [put_at, put_none, fr0_at, h5]; done) | rfl), by (first | (simp [put_at, put_none, fr0_at, h10]; done) | rfl), rfl⟩
      · refine aw_f (by (first | (simp [eval_tmp, put_at, hlt]; done) | (simp [eval_tmp, put_at, hlt]; omega))) (by kernel_rfl) ?_
        obtain rfl : i = 64 := by omega
        refine aw_exit ?_
        rw [hrn, ad8]
        refine aw_seq ?_
        (refine aw_ops (by kernel_rfl) (fun K hK => ?_); simp (disch := first | omega | (simp only [lnS]; try omega; done)) [-getElem?_pos, -getElem?_neg, h2, h4, hiv8, h11, h12, h13, h14, h15, h16, h17, h18]; refine hK _ _ ?_; clear hK K)
        (refine aw_ret ?_; simp [thenQ_ret, inBlockQ_ret, RQ, resL, resV, xload, tab, okD, isAggD, hget_app, hget_app0, hget_cons0, hget_cons, notTuple, put_at, put_none, h4])
        unfold zl
        rfl
end
end Go.Proofs.YtgamobjfeaeddaaGreatDoor
