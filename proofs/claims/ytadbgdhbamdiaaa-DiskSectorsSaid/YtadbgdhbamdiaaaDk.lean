/-
  The law DiskSectors, walked.
-/
import Derived.Test.YtadbgdhbamdiaaaDg
import Derived.Test.YtadbgdhbamdiaaaDl
namespace Go.Proofs.Ytadbgdhbamdiaaa
open Go Go.RowKit
set_option linter.unusedVariables false
set_option linter.unusedSimpArgs false
set_option maxRecDepth 100000
set_option maxHeartbeats 16000000
theorem newD3_good : Good (newD 3) (fun _ => [0]) := by
  refine ⟨fun b r hr j hj => ⟨0, by simp, fun n hn => ?_⟩, fun w hw => (by cases hw)⟩
  unfold newD at hr
  simp only at hr
  rw [List.eq_of_mem_replicate (List.mem_of_getElem? hr), gb_zs]
def wr (b : Int) (t : Nat) : Int := IntKind.u8.wrap (b + (t : Nat))
/-- The table, some rounds on. -/
def lsI (Ls : Nat → List Int) (t : Nat) : Nat → List Int := fun k => if k < t then [0] else Ls k
def lsS (L : List ByteArray) (Ls : Nat → List Int) (t : Nat) : Nat → List Int := fun k => if k < t then [gb (L.getD (k / 4) ⟨#[]⟩) (k % 4 * 64)] else Ls k
def lsW (a3 : Nat) (b : Int) (Ls : Nat → List Int) (t : Nat) : Nat → List Int := fun k => if 4 * a3 ≤ k ∧ k < 4 * a3 + t then Ls k ++ [wr b (k - 4 * a3)] else Ls k
theorem lsI_next (Ls : Nat → List Int) (t : Nat) (k : Nat) : upd (lsI Ls t) t [0] k = lsI Ls (t + 1) k := by
  unfold upd lsI
  by_cases e : k = t
  · subst e; simp
  · rw [if_neg e]; by_cases h : k < t
    · rw [if_pos h, if_pos (by omega)]
    · rw [if_neg h, if_neg (by omega)]
theorem lsS_next (L : List ByteArray) (Ls : Nat → List Int) (t : Nat) (k : Nat) : upd (lsS L Ls t) t [gb (L.getD (t / 4) ⟨#[]⟩) (t % 4 * 64)] k = lsS L Ls (t + 1) k := by
  unfold upd lsS
  by_cases e : k = t
  · subst e; simp
  · rw [if_neg e]; by_cases h : k < t
    · rw [if_pos h, if_pos (by omega)]
    · rw [if_neg h, if_neg (by omega)]
theorem lsW_next (a3 : Nat) (b : Int) (Ls : Nat → List Int) (t : Nat) (k : Nat) : upd (lsW a3 b Ls t) (4 * a3 + t) (lsW a3 b Ls t (4 * a3 + t) ++ [wr b t]) k = lsW a3 b Ls (t + 1) k := by
  unfold upd lsW
  by_cases e : k = 4 * a3 + t
  · subst e
    rw [if_pos rfl, if_neg (by omega), if_pos (by omega), show 4 * a3 + t - 4 * a3 = t by omega]
  · rw [if_neg e]; by_cases h : 4 * a3 ≤ k ∧ k < 4 * a3 + t
    · rw [if_pos h, if_pos (by omega)]
    · rw [if_neg h, if_neg (by omega)]
theorem lsS_len {L : List ByteArray} {Ls : Nat → List Int} {t n : Nat} (h : ∀ k, (Ls k).length ≤ n) : ∀ k, (lsS L Ls t k).length ≤ n + 1 := fun k => by
  unfold lsS
  split
  · simp
  · have := h k; omega
theorem lsW_len {a3 : Nat} {b : Int} {Ls : Nat → List Int} {t n : Nat} (h : ∀ k, (Ls k).length ≤ n) : ∀ k, (lsW a3 b Ls t k).length ≤ n + 1 := fun k => by
  unfold lsW
  split
  · have := h k; simp; exact this
  · have := h k; omega
theorem lsW_good {D : DM} {Ls : Nat → List Int} (h : Good D Ls) {a3 : Nat} {b : Int} : Good (D.put (a3 : Nat) (datS b 0)) (lsW a3 b Ls 4) := by
  have sub : ∀ k, ∀ x ∈ Ls k, x ∈ lsW a3 b Ls 4 k := fun k x hx => by
    unfold lsW
    split
    · exact List.mem_append_left _ hx
    · exact hx
  refine ⟨fun b' r hr j hj => (h.firm b' r hr j hj).sub (sub _), fun w hw j hj => ?_⟩
  unfold DM.put at hw
  simp only at hw
  rcases List.mem_append.1 hw with hw | hw
  · exact (h.uns w hw j hj).sub (sub _)
  · rw [List.mem_singleton] at hw
    subst hw
    simp only [Int.toNat_natCast]
    refine sec_dat b hj ?_
    unfold lsW
    rw [if_pos (by omega), show 4 * a3 + j - 4 * a3 = j by omega]
    exact List.mem_append_right _ (by simp [wr])
theorem lsS_good {D : DM} (ho : D.Ok) {Ls : Nat → List Int} (h : Good D Ls) (hn : D.firm.length = 3) : Good { D with firm := D.late, uns := [] } (lsS D.late Ls 12) := by
  refine ⟨fun b r hr j hj => ?_, fun w hw => (by cases hw)⟩
  obtain ⟨x, hx, hx2⟩ := h.late b r hr j hj
  have hb : b < 3 := by
    have h1 := (List.getElem?_eq_some_iff.1 hr).1
    have h2 : D.late.length = D.firm.length := late_len _ _
    simp only at h1; omega
  have hg : D.late.getD ((4 * b + j) / 4) ⟨#[]⟩ = r := by
    rw [show (4 * b + j) / 4 = b by omega, List.getD_eq_getElem?_getD]
    simp only at hr
    rw [hr]; rfl
  unfold lsS
  rw [if_pos (by omega), hg, show (4 * b + j) % 4 * 64 = 64 * j + 0 by omega]
  exact ⟨gb r (64 * j + 0), by simp, fun n hn' => by rw [hx2 n hn', hx2 0 (by omega)]⟩
attribute [local irreducible] aD1 aD2 newD datS lsI lsS lsW wr
attribute [local simp] wb_bool wb_undef XL_nil XL_cons XLc_val XLc_call step1_eq stepW_t stepW_f stepC_n stepC_s stepX_s xop_eq xopR_s xopR_n wantedA_eq wantedG_n wantedG_s plain1_int plain1_bool plain1_string bits_i64 bits_u64 bits_u32 bits_u16 bits_u8 xeqA xarr allK_iv num_iv calleeOf xread xeff xbin xint xnil xun xstr xload xconv xpart xfield xfieldAddr xindexAddr xindex bnd asInt? xslice xlen xmin xmax xbuild xfill xappend xcopy xcells eval_tmp eval_const put_at put_none fr0_at cells_agg cells_int cells_bool cells_string cells_ptr cells_slice notTuple tab iv_all hget_app hget_app0 hget_cons0 hget_cons set_app set_app0 setR setR_one QL_nil QL_cons QLc_val stepQ_t stepQ_f stepQC_n stepQC_s stepQX_s SL_nil SL_cons SLc_val stepS_t stepS_f ltT ltF leT leF eqT eqF ltTn ltFn leTn leFn eqTn eqFn beqT beqF bneT bneF wi64 wu64 wu32 wu16 wu8 tmodP tdivP hgetL hgetNe hgetEq setL nums_def nums_len Nat.succ_le_of_lt List.getElem?_cons_zero List.getElem?_cons_succ Option.getD_some Int.toNat_add Int.toNat_mul agB agI agS agP agL agA okB okI okS okP okSl okA
theorem sectors_law {H : AH} {γ : Nat → Option Nat} {v kv : Value} {rows : List (List FD)} {ks : List Int} (hv : SlR 6 H v rows) (hok : RowsOk rows) (hlen : rows.length ≤ maxLen) (hkv : SlV H kv (iv .u8 ks)) (hkb : By ks) :
    AC Try.prog H.length γ 5 #[v, kv] H (fun v' _ => v' = .bool true) := by
  simp only [maxLen] at hlen
  have hno : notTuple v = true := by rcases hv with ⟨a, rfl, _⟩ | ⟨j, k, rfl, _⟩ <;> rfl
  have hnk : notTuple kv = true := by rcases hkv with ⟨a, rfl, _⟩ | ⟨j, off, k, rfl, _⟩ <;> rfl
  have hxl := hv.len (P := Try.prog) (t := 22) (e := 31) (by simp)
  refine ac_of_aw Try.func5 rfl Try.ntmps5 Try.results5 (by simp) ?_
  refine aw_seq ?_
  (refine aw_ops (by kernel_rfl) (fun K hK => ?_); simp (disch := first | omega | (simp only [List.length_set, List.length_append, List.length_cons, List.length_nil, iv_length, zl_length]; try omega; done)) [-getElem?_pos, -getElem?_neg]; refine hK _ _ ?_; clear hK K)
  refine aw_seq ?_
  refine aw_seq ?_
  refine aw_ops (by kernel_rfl) (fun K hK => ?_)
  simp (disch := first | omega | (simp only [List.length_set, List.length_append, List.length_cons, List.length_nil, iv_length, zl_length]; try omega; done)) [-getElem?_pos, -getElem?_neg]
  refine ⟨by kernel_rfl, ac_of_vc (by simp [pv_iv, pv_int, pv_bool, pv_string, pv_tup2, pv_tup3, iv_plain, p2_int, p2_bool, p2_string]) alive_vc ?_⟩
  simp (disch := first | omega | (simp only [List.length_set, List.length_append, List.length_cons, List.length_nil, iv_length, zl_length]; try omega; done)) [-getElem?_pos, -getElem?_neg]
  refine hK _ _ ?_; clear hK K
  refine aw_f (by (first | (simp [eval_tmp, put_at]; done) | (simp [eval_tmp, put_at]; omega))) (by kernel_rfl) ?_
  refine aw_skip ?_
  refine aw_seq ?_
  refine aw_ops (by kernel_rfl) (fun K hK => ?_)
  have hm0 : Many (fun j => decide (j < H.length)) H H.length H [] := ⟨fun i x h => by simp at h, fun i x h => by simp at h, fun i i' x y _ h => by simp at h, fun j hj => ⟨by simpa using hj, fun i x h => by simp at h, rfl⟩, Nat.le_refl _⟩
  simp (disch := first | omega | (simp only [List.length_set, List.length_append, List.length_cons, List.length_nil, iv_length, zl_length]; try omega; done)) [-getElem?_pos, -getElem?_neg]
  refine ⟨by kernel_rfl, (new_ac 3 (Nat.le_refl _)).mono ?_⟩
  rintro v1 H1 ⟨rfl, hd1, L1, hL1⟩
  have hm1 := hm0.new (L := L1) (hL1 ▸ hd1) (fun j hj => by simp only [List.mem_cons, List.not_mem_nil, or_false] at hj; omega)
  rw [← hL1] at hm1
  try simp (disch := first | omega | (simp only [List.length_set, List.length_append, List.length_cons, List.length_nil, iv_length, zl_length]; try omega; done)) [-getElem?_pos, -getElem?_neg]
  refine hK _ _ ?_; clear hK K
  obtain ⟨p, hp⟩ : ∃ p, H.length + 2 = p := ⟨_, rfl⟩
  have hm1' : Many (fun j => decide (j < H.length)) H H.length H1 [(p, [p, H.length, H.length + 1], newD 3)] := by rw [← hp]; exact hm1
  have hfi := newD_fine 3
  have hn3 := newD3_len
  have hu3 := newD3_uns
  have hg3 := newD3_good
  rw [hp]
  clear hm0 hm1 hd1
  generalize newD 3 = D0 at *
  generalize [p, H.length, H.length + 1] = F1 at *
  have hmx := hm1'.more (some ⟨(List.range 12).map (fun _ => .slice none 0 0), 51, none⟩)
  obtain ⟨mb, hmb⟩ : ∃ mb, mb = H1.length := ⟨_, rfl⟩
  have hsta0 : Sta H.length (fun j => decide (j < H.length)) H mb p (H1 ++ [some ⟨(List.range 12).map (fun _ => .slice none 0 0), 51, none⟩]) (fun _ => []) D0 := by
    have hle := hm1'.len
    refine ⟨fun _ => .slice none 0 0, fun _ => [], F1, H1 ++ [some ⟨(List.range 12).map (fun _ => .slice none 0 0), 51, none⟩], ⟨by rw [hmb, hget_app0]; rfl, fun k hk => .inl ⟨rfl, rfl, rfl⟩, fun k k' _ _ _ j hj => (by cases hj), fun k _ hj => (by cases hj)⟩, hmx.less (fun j hj => ⟨?_, rfl⟩), ⟨by omega, fun k _ j hj => (by cases hj), by simp; omega, fun k _ j hj => (by cases hj)⟩, fun j hj => ?_⟩
    · rcases mayS_cases hj with h1 | rfl | ⟨k', _, h1⟩
      · simp only [h1, Bool.true_or]
      · simp [hmb]
      · cases h1
    · have := hm1'.st j hj
      rw [hget_left this.1]; exact this.2.2
  have hrep : [Value.slice none 0 0, .slice none 0 0, .slice none 0 0, .slice none 0 0, .slice none 0 0, .slice none 0 0, .slice none 0 0, .slice none 0 0, .slice none 0 0, .slice none 0 0, .slice none 0 0, .slice none 0 0] = (List.range 12).map (fun _ => .slice none 0 0) := rfl
  refine aw_seq ?_
  (refine aw_ops (by kernel_rfl) (fun K hK => ?_); simp (disch := first | omega | (simp only [List.length_set, List.length_append, List.length_cons, List.length_nil, iv_length, zl_length]; try omega; done)) [-getElem?_pos, -getElem?_neg, plain_nil, hrep]; refine hK _ _ ?_; clear hK K)
  rw [← hmb]
  generalize H1 ++ [some ⟨(List.range 12).map (fun _ => Value.slice none 0 0), 51, none⟩] = G0 at *
  refine aw_seq ?_
  refine aw_seq ?_
  (refine aw_ops (by kernel_rfl) (fun K hK => ?_); simp (disch := first | omega | (simp only [List.length_set, List.length_append, List.length_cons, List.length_nil, iv_length, zl_length]; try omega; done)) [-getElem?_pos, -getElem?_neg]; refine hK _ _ ?_; clear hK K)
  refine aw_block ?_
  refine aw_loop (fun c α G => ∃ t : Nat, t + c = 12 ∧ α 7 = .int .i64 (t : Nat) ∧ α 0 = v ∧ α 1 = kv ∧ α 5 = .pointer (some ⟨p, 0, none⟩) ∧ α 6 = .pointer (some ⟨mb, 0, none⟩) ∧ Sta H.length (fun j => decide (j < H.length)) H mb p G (lsI (fun _ => []) t) D0) 12 ?_ ?_
  · exact ⟨0, by omega, by (first | (simp [put_at, put_none, fr0_at]; done) | rfl), by (first | (simp [put_at, put_none, fr0_at]; done) | rfl), by (first | (simp [put_at, put_none, fr0_at]; done) | rfl), by (first | (simp [put_at, put_none, fr0_at]; done) | rfl), by (first | (simp [put_at, put_none, fr0_at]; done) | rfl), hsta0.congr (fun k _ => by unfold lsI; rw [if_neg (by omega)])⟩
  clear hsta0 hmx hm1'
  rintro c α G ⟨t, htc, h7, h0, h1, h5, h6, hsta⟩
  obtain ⟨Ms, Fs, F, HL, hM, hm, hlo, hT⟩ := hsta
  have hcells := hM.cells
  have hmbl := hget_lt hcells
  have hlen0 := hm.len
  have hmle := hlo.le
  refine aw_seq ?_
  refine aw_seq ?_
  by_cases ht : t < 12
  · (refine aw_ops (by kernel_rfl) (fun K hK => ?_); simp (disch := first | omega | (simp only [List.length_set, List.length_append, List.length_cons, List.length_nil, iv_length, zl_length]; try omega; done)) [-getElem?_pos, -getElem?_neg, h7, ht]; refine hK _ _ ?_; clear hK K)
    refine aw_t (by (first | (simp [eval_tmp, put_at, ht]; done) | (simp [eval_tmp, put_at, ht]; omega))) (by kernel_rfl) ?_
    refine aw_skip ?_
    refine aw_seq ?_
    refine aw_block ?_
    obtain ⟨cs, hcs⟩ : ∃ cs, cs = (List.range 12).map Ms := ⟨_, rfl⟩
    have hcl : cs.length = 12 := by rw [hcs]; simp
    have hset := range_set Ms t (.slice (some ⟨G.length, 0, none⟩) 1 1)
    rw [← hcs] at hset hcells
    (refine aw_ops (by kernel_rfl) (fun K hK => ?_); simp (disch := first | omega | (simp only [List.length_set, List.length_append, List.length_cons, List.length_nil, iv_length, zl_length]; try omega; done)) [-getElem?_pos, -getElem?_neg, h7, h6, hcells, hcl, hset]; refine hK _ _ ?_; clear hK K)
    have hput := Sta.put (G' := G ++ [some ⟨[.int .u8 0], 5, some 1⟩]) hM hm hlo hT (k := t) ht (v := .slice (some ⟨G.length, 0, none⟩) 1 1) (l := [0]) (b := G.length) (by simp) (fun j hj _ => hget_left hj) (Nat.le_refl _) (.inr ⟨G.length, 1, rfl, by rw [hget_app0]; rfl, rfl, rfl⟩)
    rw [List.set_append_left _ _ hmbl] at hput
    (refine aw_ops (by kernel_rfl) (fun K hK => ?_); simp (disch := first | omega | (simp only [List.length_set, List.length_append, List.length_cons, List.length_nil, iv_length, zl_length]; try omega; done)) [-getElem?_pos, -getElem?_neg, h7]; refine hK _ _ ?_; clear hK K)
    exact ⟨c - 1, by omega, t + 1, by omega, by (first | (simp [put_at, put_none, fr0_at]; done) | rfl), by (first | (simp [put_at, put_none, fr0_at, h0]; done) | rfl), by (first | (simp [put_at, put_none, fr0_at, h1]; done) | rfl), by (first | (simp [put_at, put_none, fr0_at, h5]; done) | rfl), by (first | (simp [put_at, put_none, fr0_at, h6]; done) | rfl), hput.congr (fun k _ => lsI_next _ t k)⟩
  · obtain rfl : t = 12 := by omega
    (refine aw_ops (by kernel_rfl) (fun K hK => ?_); simp (disch := first | omega | (simp only [List.length_set, List.length_append, List.length_cons, List.length_nil, iv_length, zl_length]; try omega; done)) [-getElem?_pos, -getElem?_neg, h7, ht]; refine hK _ _ ?_; clear hK K)
    refine aw_f (by (first | (simp [eval_tmp, put_at]; done) | (simp [eval_tmp, put_at]; omega))) (by kernel_rfl) ?_
    refine aw_exit ?_
    have hsta : Sta H.length (fun j => decide (j < H.length)) H mb p G (fun _ => [0]) D0 := Sta.congr ⟨Ms, Fs, F, HL, hM, hm, hlo, hT⟩ (fun k hk => by unfold lsI; rw [if_pos hk])
    clear hM hm hlo hT hcells hmbl hlen0 hmle h7
    refine aw_seq ?_
    refine aw_seq ?_
    (refine aw_ops (by kernel_rfl) (fun K hK => ?_); simp (disch := first | omega | (simp only [List.length_set, List.length_append, List.length_cons, List.length_nil, iv_length, zl_length]; try omega; done)) [-getElem?_pos, -getElem?_neg]; refine hK _ _ ?_; clear hK K)
    refine aw_block ?_
    refine aw_loop (fun c α G => ∃ i : Nat, i + c = rows.length ∧ i ≤ 60 ∧ α 8 = .int .i64 (i : Nat) ∧ α 0 = v ∧ α 1 = kv ∧ α 5 = .pointer (some ⟨p, 0, none⟩) ∧ α 6 = .pointer (some ⟨mb, 0, none⟩) ∧
      ∃ Ls D, Sta H.length (fun j => decide (j < H.length)) H mb p G Ls D ∧ Good D Ls ∧ D.Fine ∧ D.firm.length = 3 ∧ D.uns.length ≤ i ∧ ∀ k, (Ls k).length ≤ i + 1) rows.length ?_ ?_
    · exact ⟨0, by omega, by omega, by (first | (simp [put_at, put_none, fr0_at]; done) | rfl), by (first | (simp [put_at, put_none, fr0_at, h0]; done) | rfl), by (first | (simp [put_at, put_none, fr0_at, h1]; done) | rfl), by (first | (simp [put_at, put_none, fr0_at, h5]; done) | rfl), by (first | (simp [put_at, put_none, fr0_at, h6]; done) | rfl), _, _, hsta, hg3, hfi, hn3, by rw [hu3]; simp, by simp⟩
    clear hsta hg3 hfi hn3 hu3 h0 h1 h5 h6
    rintro c2 α G2 ⟨i, hic, hi60, h8, h0, h1, h5, h6, Ls, D, hsta, hgood, hfine, hn3, huns, hll⟩
    refine aw_seq ?_
    refine aw_seq ?_
    refine aw_cut (fun α' G' => α' 37 = .bool (decide (i < rows.length ∧ i < 60)) ∧ α' 8 = .int .i64 (i : Nat) ∧ α' 0 = v ∧ α' 1 = kv ∧ α' 5 = .pointer (some ⟨p, 0, none⟩) ∧ α' 6 = .pointer (some ⟨mb, 0, none⟩) ∧ G' = G2) ?_ ?_
    · by_cases hi : i < rows.length
      · by_cases hi6 : i < 60
        · (refine aw_ops (by kernel_rfl) (fun K hK => ?_); simp (disch := first | omega | (simp only [List.length_set, List.length_append, List.length_cons, List.length_nil, iv_length, zl_length]; try omega; done)) [-getElem?_pos, -getElem?_neg, h8, h0, -xlen, hxl, hi, hi6]; refine hK _ _ ?_; clear hK K)
          exact ⟨by simp [put_at, hi, hi6], by (first | (simp [put_at, put_none, fr0_at, h8]; done) | rfl), by (first | (simp [put_at, put_none, fr0_at, h0]; done) | rfl), by (first | (simp [put_at, put_none, fr0_at, h1]; done) | rfl), by (first | (simp [put_at, put_none, fr0_at, h5]; done) | rfl), by (first | (simp [put_at, put_none, fr0_at, h6]; done) | rfl), rfl⟩
        · (refine aw_ops (by kernel_rfl) (fun K hK => ?_); simp (disch := first | omega | (simp only [List.length_set, List.length_append, List.length_cons, List.length_nil, iv_length, zl_length]; try omega; done)) [-getElem?_pos, -getElem?_neg, h8, h0, -xlen, hxl, hi, hi6]; refine hK _ _ ?_; clear hK K)
          exact ⟨by simp [put_at, hi, hi6], by (first | (simp [put_at, put_none, fr0_at, h8]; done) | rfl), by (first | (simp [put_at, put_none, fr0_at, h0]; done) | rfl), by (first | (simp [put_at, put_none, fr0_at, h1]; done) | rfl), by (first | (simp [put_at, put_none, fr0_at, h5]; done) | rfl), by (first | (simp [put_at, put_none, fr0_at, h6]; done) | rfl), rfl⟩
      · (refine aw_ops (by kernel_rfl) (fun K hK => ?_); simp (disch := first | omega | (simp only [List.length_set, List.length_append, List.length_cons, List.length_nil, iv_length, zl_length]; try omega; done)) [-getElem?_pos, -getElem?_neg, h8, h0, -xlen, hxl, hi]; refine hK _ _ ?_; clear hK K)
        exact ⟨by simp [put_at, hi], by (first | (simp [put_at, put_none, fr0_at, h8]; done) | rfl), by (first | (simp [put_at, put_none, fr0_at, h0]; done) | rfl), by (first | (simp [put_at, put_none, fr0_at, h1]; done) | rfl), by (first | (simp [put_at, put_none, fr0_at, h5]; done) | rfl), by (first | (simp [put_at, put_none, fr0_at, h6]; done) | rfl), rfl⟩
    clear h8 h0 h1 h5 h6
    rintro α G3 ⟨h37, h8, h0, h1, h5, h6, rfl⟩
    by_cases hc : i < rows.length ∧ i < 60
    · refine aw_t (by (first | (simp [eval_tmp, put_at, h37, hc]; done) | (simp [eval_tmp, put_at, h37, hc]; omega))) (by kernel_rfl) ?_
      obtain ⟨hi, hi6⟩ := hc
      refine aw_skip ?_
      refine aw_seq ?_
      refine aw_block ?_
      obtain ⟨jv, kb, kv2, rfl, hjl, hkb2, hkl, hrow, _, _, hkeep, bk, ba, bn, bb, bl, _⟩ := act_at hv hok hi
      have hnk2 : notTuple kv2 = true := by rcases hkeep with ⟨a, rfl, _⟩ | ⟨j, off, k, rfl, _⟩ <;> rfl
      have hlow : ∀ j, j < H.length → hget G3 j = hget H j := by
        obtain ⟨_, _, _, _, _, _, _, hT⟩ := hsta
        exact fun j hj => hT j (by simpa using hj)
      have hgl : H.length ≤ G3.length := by
        obtain ⟨_, _, _, _, _, hm, _, _⟩ := hsta
        exact hm.len
      have hgk : hget G3 jv = some kb := (hlow jv hjl).trans hkb2
      generalize aKind rows i = kd at *
      generalize aAt rows i = at_ at *
      generalize aN rows i = fn at *
      generalize aB rows i = b0 at *
      generalize aLong rows i = lg at *
      refine aw_seq ?_
      (refine aw_ops (by kernel_rfl) (fun K hK => ?_); simp (disch := first | omega | (simp only [List.length_set, List.length_append, List.length_cons, List.length_nil, iv_length, zl_length]; try omega; done)) [-getElem?_pos, -getElem?_neg, h0, h8, hgk, hrow, plain_nil, hgl]; refine hK _ _ ?_; clear hK K)
      obtain ⟨A9, hA9⟩ : ∃ A9, A9 = (some ⟨[.int .i64 kd, .int .i64 at_, .int .i64 fn, .int .u8 b0, .int .i8 lg, kv2], 31, none⟩ : Option Blk) := ⟨_, rfl⟩
      have hsta9 := hsta.more A9
      obtain ⟨a9, ha9⟩ : ∃ a9, a9 = G3.length := ⟨_, rfl⟩
      rw [← ha9] at hsta9
      have hga9 : hget (G3 ++ [A9]) a9 = A9 := by rw [ha9, hget_app0]; rfl
      have hlow9 : ∀ j, j < H.length → hget (G3 ++ [A9]) j = hget H j := fun j hj => (hget_left (by omega)).trans (hlow j hj)
      have hback : ∀ {G5 : AH} {Ls' : Nat → List Int} {D' : DM}, Sta H.length (fun j => decide (j < H.length) || j == a9) (G3 ++ [A9]) mb p G5 Ls' D' → Sta H.length (fun j => decide (j < H.length)) H mb p G5 Ls' D' := fun h => h.less (fun j hj => by
        have hj' : j < H.length := by simpa using hj
        exact ⟨by simp [hj'], hlow9 j hj'⟩)
      rw [← hA9]
      generalize G3 ++ [A9] = G4 at *
      have ho9 : D.Ok := by
        obtain ⟨_, _, _, _, _, hm, _, _⟩ := hsta9
        exact (hm.dk 0 _ rfl).1
      have hDl : D.late.length = 3 := by unfold DM.late; rw [late_len, hn3]
      have hDr : ∀ r ∈ D.late, r.size = 256 := late_rows ho9.rows (fun w hw => (ho9.uns w hw).2)
      refine aw_seq ?_
      refine aw_seq ?_
      by_cases hk : kd.tmod 5 = 1
      · have hk' : (kd.tmod 5 == 1) = true := by simp [hk]
        (refine aw_ops (by kernel_rfl) (fun K hK => ?_); simp (disch := first | omega | (simp only [List.length_set, List.length_append, List.length_cons, List.length_nil, iv_length, zl_length]; try omega; done)) [-getElem?_pos, -getElem?_neg, ← ha9, hga9, hA9, hk, hk', -tmodP]; refine hK _ _ ?_; clear hK K)
        refine aw_t (by (first | (simp [eval_tmp, put_at, hk, hk']; done) | (simp [eval_tmp, put_at, hk, hk']; omega))) (by kernel_rfl) ?_
        obtain ⟨es1, es2⟩ := fine_sync hfine
        obtain ⟨Ms, Fs, F, HL, hM, hm, hlo, hT⟩ := hsta9
        have sb := sync_ac (nro := H.length) (γ := γ) (hm.dk 0 _ rfl) (hm.lo1 0 _ rfl) hm.len
        simp only [es1, es2] at sb
        refine aw_seq ?_
        refine aw_seq ?_
        refine aw_ops (by kernel_rfl) (fun K hK => ?_)
        simp (disch := first | omega | (simp only [List.length_set, List.length_append, List.length_cons, List.length_nil, iv_length, zl_length]; try omega; done)) [-getElem?_pos, -getElem?_neg, h5]
        refine ⟨by kernel_rfl, sb.mono ?_⟩
        rintro v2 G5 ⟨rfl, F', hd5, hf5⟩
        have hsta5 := hback (Sta.disk hM hm hlo hT hf5 hd5)
        try simp (disch := first | omega | (simp only [List.length_set, List.length_append, List.length_cons, List.length_nil, iv_length, zl_length]; try omega; done)) [-getElem?_pos, -getElem?_neg]
        refine hK _ _ ?_; clear hK K
        refine aw_f (by (first | (simp [eval_tmp, put_at]; done) | (simp [eval_tmp, put_at]; omega))) (by kernel_rfl) ?_
        refine aw_skip ?_
        have hgood' := lsS_good ho9 hgood hn3
        have hfin' : ({ D with firm := D.late, uns := [] } : DM).Fine := hfine
        have hn' : ({ D with firm := D.late, uns := [] } : DM).firm.length = 3 := hDl
        have hu' : ({ D with firm := D.late, uns := [] } : DM).uns.length = 0 := rfl
        have hl' : ({ D with firm := D.late, uns := [] } : DM).late = D.late := rfl
        clear hM hm hlo hT sb hd5 hf5
        generalize ({ D with firm := D.late, uns := [] } : DM) = D2 at *
        refine aw_seq ?_
        refine aw_seq ?_
        (refine aw_ops (by kernel_rfl) (fun K hK => ?_); simp (disch := first | omega | (simp only [List.length_set, List.length_append, List.length_cons, List.length_nil, iv_length, zl_length]; try omega; done)) [-getElem?_pos, -getElem?_neg]; refine hK _ _ ?_; clear hK K)
        refine aw_block ?_
        refine aw_loop (fun c α G => ∃ t : Nat, t + c = 12 ∧ α 10 = .int .i64 (t : Nat) ∧ α 8 = .int .i64 (i : Nat) ∧ α 0 = .slice (some ⟨jv, 0, none⟩) rows.length rows.length ∧ α 1 = kv ∧ α 5 = .pointer (some ⟨p, 0, none⟩) ∧ α 6 = .pointer (some ⟨mb, 0, none⟩) ∧ Sta H.length (fun j => decide (j < H.length)) H mb p G (lsS D.late Ls t) D2) 12 ?_ ?_
        · exact ⟨0, by omega, by (first | (simp [put_at, put_none, fr0_at]; done) | rfl), by (first | (simp [put_at, put_none, fr0_at, h8]; done) | rfl), by (first | (simp [put_at, put_none, fr0_at, h0]; done) | rfl), by (first | (simp [put_at, put_none, fr0_at, h1]; done) | rfl), by (first | (simp [put_at, put_none, fr0_at, h5]; done) | rfl), by (first | (simp [put_at, put_none, fr0_at, h6]; done) | rfl), hsta5.congr (fun k _ => by unfold lsS; rw [if_neg (by omega)])⟩
        clear hsta5 h8 h0 h1 h5 h6 h37
        rintro c3 α G ⟨t, htc, h10, h8, h0, h1, h5, h6, hsta6⟩
        refine aw_seq ?_
        refine aw_seq ?_
        by_cases ht : t < 12
        · (refine aw_ops (by kernel_rfl) (fun K hK => ?_); simp (disch := first | omega | (simp only [List.length_set, List.length_append, List.length_cons, List.length_nil, iv_length, zl_length]; try omega; done)) [-getElem?_pos, -getElem?_neg, h10, ht]; refine hK _ _ ?_; clear hK K)
          refine aw_t (by (first | (simp [eval_tmp, put_at, ht]; done) | (simp [eval_tmp, put_at, ht]; omega))) (by kernel_rfl) ?_
          refine aw_skip ?_
          refine aw_seq ?_
          refine aw_block ?_
          obtain ⟨r, hr⟩ : ∃ r, D.late[t / 4]? = some r := ⟨_, List.getElem?_eq_getElem (by omega)⟩
          have hrs := hDr r (List.mem_of_getElem? hr)
          have hrs' : (r.size : Int) = 256 := by omega
          have hh : hasB 3 ((t / 4 : Nat) : Int) = true := by simp [hasB]; omega
          have hrv : readV D.late ((t / 4 : Nat) : Int) = r := by unfold readV; rw [hDl, if_pos hh, Int.toNat_natCast, List.getD_eq_getElem?_getD, hr]; rfl
          have hgD : D.late.getD (t / 4) ⟨#[]⟩ = r := by rw [List.getD_eq_getElem?_getD, hr]; rfl
          have hnext := lsS_next D.late Ls t
          rw [hgD] at hnext
          obtain ⟨Ms, Fs, F, HL, hM, hm, hlo, hT⟩ := hsta6
          have hrd := read_ac (nro := H.length) (γ := γ) (hm.dk 0 _ rfl) ((t / 4 : Nat) : Int)
          simp only [hl', hn', hrv, hh, if_true] at hrd
          have hk4 : (t : Int) / 4 = ((t / 4 : Nat) : Int) := by omega
          have hkm : (t : Int) % 4 * 64 = ((t % 4 * 64 : Nat) : Int) := by omega
          have hixl : t % 4 * 64 < 256 := by omega
          generalize t % 4 * 64 = ix at *
          have hixi : (ix : Int) < 256 := by omega
          generalize ((t / 4 : Nat) : Int) = t4 at *
          have hcells := hM.cells
          have hmbl := hget_lt hcells
          have hlen0 := hm.len
          have hmle := hlo.le
          refine aw_seq ?_
          refine aw_ops (by kernel_rfl) (fun K hK => ?_)
          simp (disch := first | omega | (simp only [List.length_set, List.length_append, List.length_cons, List.length_nil, iv_length, zl_length]; try omega; done)) [-getElem?_pos, -getElem?_neg, h5, h10, hk4]
          refine ⟨by kernel_rfl, hrd.mono ?_⟩
          rintro v2 G5 ⟨rfl, rfl⟩
          try simp (disch := first | omega | (simp only [List.length_set, List.length_append, List.length_cons, List.length_nil, iv_length, zl_length]; try omega; done)) [-getElem?_pos, -getElem?_neg]
          refine hK _ _ ?_; clear hK K
          obtain ⟨cs, hcs⟩ : ∃ cs, cs = (List.range 12).map Ms := ⟨_, rfl⟩
          have hcl : cs.length = 12 := by rw [hcs]; simp
          have hset := range_set Ms t (.slice (some ⟨G5.length, 0, none⟩) 1 1)
          rw [← hcs] at hset hcells
          (refine aw_ops (by kernel_rfl) (fun K hK => ?_); simp (disch := first | omega | (simp only [List.length_set, List.length_append, List.length_cons, List.length_nil, iv_length, zl_length]; try omega; done)) [-getElem?_pos, -getElem?_neg, h10, h6, hcells, hcl, hset, hkm, hrs, hrs', hixi]; refine hK _ _ ?_; clear hK K)
          have hput := Sta.put (G' := G5 ++ [some ⟨[.int .u8 (gb r ix)], 5, some 1⟩]) hM hm hlo hT (k := t) ht (v := .slice (some ⟨G5.length, 0, none⟩) 1 1) (l := [gb r ix]) (b := G5.length) (by simp) (fun j hj _ => hget_left hj) (Nat.le_refl _) (.inr ⟨G5.length, 1, rfl, by rw [hget_app0]; rfl, rfl, rfl⟩)
          rw [List.set_append_left _ _ hmbl] at hput
          (refine aw_ops (by kernel_rfl) (fun K hK => ?_); simp (disch := first | omega | (simp only [List.length_set, List.length_append, List.length_cons, List.length_nil, iv_length, zl_length]; try omega; done)) [-getElem?_pos, -getElem?_neg, h10]; refine hK _ _ ?_; clear hK K)
          exact ⟨c3 - 1, by omega, t + 1, by omega, by (first | (simp [put_at, put_none, fr0_at]; done) | rfl), by (first | (simp [put_at, put_none, fr0_at, h8]; done) | rfl), by (first | (simp [put_at, put_none, fr0_at, h0]; done) | rfl), by (first | (simp [put_at, put_none, fr0_at, h1]; done) | rfl), by (first | (simp [put_at, put_none, fr0_at, h5]; done) | rfl), by (first | (simp [put_at, put_none, fr0_at, h6]; done) | rfl), hput.congr (fun k _ => hnext k)⟩
        · obtain rfl : t = 12 := by omega
          (refine aw_ops (by kernel_rfl) (fun K hK => ?_); simp (disch := first | omega | (simp only [List.length_set, List.length_append, List.length_cons, List.length_nil, iv_length, zl_length]; try omega; done)) [-getElem?_pos, -getElem?_neg, h10, ht]; refine hK _ _ ?_; clear hK K)
          refine aw_f (by (first | (simp [eval_tmp, put_at]; done) | (simp [eval_tmp, put_at]; omega))) (by kernel_rfl) ?_
          refine aw_exit ?_
          refine aw_exit ?_
          (refine aw_ops (by kernel_rfl) (fun K hK => ?_); simp (disch := first | omega | (simp only [List.length_set, List.length_append, List.length_cons, List.length_nil, iv_length, zl_length]; try omega; done)) [-getElem?_pos, -getElem?_neg, h8]; refine hK _ _ ?_; clear hK K)
          exact ⟨c2 - 1, by omega, i + 1, by omega, by omega, by (first | (simp [put_at, put_none, fr0_at]; done) | rfl), by (first | (simp [put_at, put_none, fr0_at, h0]; done) | rfl), by (first | (simp [put_at, put_none, fr0_at, h1]; done) | rfl), by (first | (simp [put_at, put_none, fr0_at, h5]; done) | rfl), by (first | (simp [put_at, put_none, fr0_at, h6]; done) | rfl), _, _, hsta6, hgood', hfin', hn', by omega, lsS_len hll⟩
      · have hk' : (kd.tmod 5 == 1) = false := by simp [hk]
        (refine aw_ops (by kernel_rfl) (fun K hK => ?_); simp (disch := first | omega | (simp only [List.length_set, List.length_append, List.length_cons, List.length_nil, iv_length, zl_length]; try omega; done)) [-getElem?_pos, -getElem?_neg, ← ha9, hga9, hA9, hk, hk', -tmodP]; refine hK _ _ ?_; clear hK K)
        refine aw_f (by (first | (simp [eval_tmp, put_at, hk, hk']; done) | (simp [eval_tmp, put_at, hk, hk']; omega))) (by kernel_rfl) ?_
        refine aw_skip ?_
        obtain ⟨u, hu⟩ := u64_nat at_
        obtain ⟨a3, ha3, ha3l⟩ : ∃ a3 : Nat, (u : Int) % 3 = (a3 : Nat) ∧ a3 < 3 := ⟨u % 3, by omega, by omega⟩
        refine aw_seq ?_
        (refine aw_ops (by kernel_rfl) (fun K hK => ?_); simp (disch := first | omega | (simp only [List.length_set, List.length_append, List.length_cons, List.length_nil, iv_length, zl_length]; try omega; done)) [-getElem?_pos, -getElem?_neg, ← ha9, hga9, hA9, hu, ha3]; refine hK _ _ ?_; clear hK K)
        have hsz := datS_size b0 0 (by omega)
        have hsz2 : (datS b0 0).size = 256 := by omega
        have hokD : okW D (a3 : Nat) (datS b0 0) = true := by simp [okW, hasB, hn3, hsz2]; omega
        obtain ⟨c1, c2', c3'⟩ := fine_write hfine hokD
        have cu : (D.put (a3 : Nat) (datS b0 0)).uns.length ≤ i + 1 := by simp [DM.put]; omega
        have cn : (D.put (a3 : Nat) (datS b0 0)).firm.length = 3 := hn3
        have hgood' := lsW_good hgood (a3 := a3) (b := b0)
        refine aw_seq ?_
        refine aw_seq ?_
        refine aw_ops (by kernel_rfl) (fun K hK => ?_)
        simp (disch := first | omega | (simp only [List.length_set, List.length_append, List.length_cons, List.length_nil, iv_length, zl_length]; try omega; done)) [-getElem?_pos, -getElem?_neg, h5, ← ha9, hga9, hA9]
        have hlen4 : H.length ≤ G4.length := by
          obtain ⟨_, _, _, _, _, hm, _, _⟩ := hsta9
          exact hm.len
        refine ⟨by kernel_rfl, (data_ac bb (by omega) hlen4).mono ?_⟩
        rintro v2 G5 ⟨rfl, L5, hL5⟩
        have hsta10 := hsta9.push L5
        rw [← hL5] at hsta10
        obtain ⟨Ms, Fs, F, HL, hM, hm, hlo, hT⟩ := hsta10
        have wc := write_ac (nro := H.length) (γ := γ) (hm.dk 0 _ rfl) (hm.lo1 0 _ rfl) (by simp only; omega) (a3 : Nat) (datS b0 0)
        simp only [c1, c2'] at wc
        try simp (disch := first | omega | (simp only [List.length_set, List.length_append, List.length_cons, List.length_nil, iv_length, zl_length]; try omega; done)) [-getElem?_pos, -getElem?_neg, h5]
        refine ⟨by kernel_rfl, wc.mono ?_⟩
        rintro v3 G6 ⟨rfl, F', hd6, hf6⟩
        have hsta11 := Sta.disk hM hm hlo hT hf6 hd6
        try simp (disch := first | omega | (simp only [List.length_set, List.length_append, List.length_cons, List.length_nil, iv_length, zl_length]; try omega; done)) [-getElem?_pos, -getElem?_neg]
        refine hK _ _ ?_; clear hK K
        clear hM hm hlo hT wc hd6 hf6
        generalize D.put (a3 : Nat) (datS b0 0) = D2 at *
        generalize datS b0 0 = TT at *
        refine aw_f (by (first | (simp [eval_tmp, put_at]; done) | (simp [eval_tmp, put_at]; omega))) (by kernel_rfl) ?_
        refine aw_skip ?_
        refine aw_seq ?_
        (refine aw_ops (by kernel_rfl) (fun K hK => ?_); simp (disch := first | omega | (simp only [List.length_set, List.length_append, List.length_cons, List.length_nil, iv_length, zl_length]; try omega; done)) [-getElem?_pos, -getElem?_neg]; refine hK _ _ ?_; clear hK K)
        refine aw_block ?_
        refine aw_loop (fun c α G => ∃ t : Nat, t + c = 4 ∧ α 14 = .int .i64 (t : Nat) ∧ α 13 = .int .i64 (a3 : Nat) ∧ α 9 = .pointer (some ⟨a9, 0, none⟩) ∧ α 8 = .int .i64 (i : Nat) ∧ α 0 = .slice (some ⟨jv, 0, none⟩) rows.length rows.length ∧ α 1 = kv ∧ α 5 = .pointer (some ⟨p, 0, none⟩) ∧ α 6 = .pointer (some ⟨mb, 0, none⟩) ∧ Sta H.length (fun j => decide (j < H.length) || j == a9) G4 mb p G (lsW a3 b0 Ls t) D2) 4 ?_ ?_
        · exact ⟨0, by omega, by (first | (simp [put_at, put_none, fr0_at]; done) | rfl), by (first | (simp [put_at, put_none, fr0_at]; done) | rfl), by simp [put_at, ha9], by (first | (simp [put_at, put_none, fr0_at, h8]; done) | rfl), by (first | (simp [put_at, put_none, fr0_at, h0]; done) | rfl), by (first | (simp [put_at, put_none, fr0_at, h1]; done) | rfl), by (first | (simp [put_at, put_none, fr0_at, h5]; done) | rfl), by (first | (simp [put_at, put_none, fr0_at, h6]; done) | rfl), hsta11.congr (fun k _ => by unfold lsW; rw [if_neg (by omega)])⟩
        clear hsta11 h8 h0 h1 h5 h6 h37
        rintro c3 α G ⟨t, htc, h14, h13, h9, h8, h0, h1, h5, h6, hsta6⟩
        refine aw_seq ?_
        refine aw_seq ?_
        by_cases ht : t < 4
        · (refine aw_ops (by kernel_rfl) (fun K hK => ?_); simp (disch := first | omega | (simp only [List.length_set, List.length_append, List.length_cons, List.length_nil, iv_length, zl_length]; try omega; done)) [-getElem?_pos, -getElem?_neg, h14, ht]; refine hK _ _ ?_; clear hK K)
          refine aw_t (by (first | (simp [eval_tmp, put_at, ht]; done) | (simp [eval_tmp, put_at, ht]; omega))) (by kernel_rfl) ?_
          refine aw_skip ?_
          refine aw_seq ?_
          refine aw_block ?_
          obtain ⟨k0, hk0, hk0n⟩ : ∃ k0 : Nat, 4 * (a3 : Int) + (t : Int) = (k0 : Nat) ∧ k0 = 4 * a3 + t := ⟨4 * a3 + t, by omega, rfl⟩
          have hk12 : k0 < 12 := by omega
          have hwr : IntKind.u8.wrap (b0 + (t : Int)) = wr b0 t := by unfold wr; rfl
          have hnext := lsW_next a3 b0 Ls t
          rw [← hk0n] at hnext
          have hlk : (lsW a3 b0 Ls t k0).length ≤ i + 1 := by unfold lsW; rw [if_neg (by omega)]; exact hll k0
          obtain ⟨Ms, Fs, F, HL, hM, hm, hlo, hT⟩ := hsta6
          have hg9 : hget G a9 = _ := ((hT a9 (by simp)).trans hga9).trans hA9
          have hcells := hM.cells
          have hmbl := hget_lt hcells
          have hlen0 := hm.len
          have hmle := hlo.le
          obtain ⟨cs, hcs⟩ : ∃ cs, cs = (List.range 12).map Ms := ⟨_, rfl⟩
          have hcl : cs.length = 12 := by rw [hcs]; simp
          have hck : cs[k0]? = some (Ms k0) := by rw [hcs, List.getElem?_map, List.getElem?_range hk12]; rfl
          obtain ⟨B, hB⟩ : ∃ B, B = (some ⟨[.int .u8 (wr b0 t)], 5, some 1⟩ : Option Blk) := ⟨_, rfl⟩
          obtain ⟨v2, G7, hap, hown, hlen2, hkeep2⟩ := ownF_append (P := Try.prog) (nro := H.length) (t := 29) (e := 5) (H := G ++ [B]) (v := Ms k0) (x := .slice (some ⟨G.length, 0, none⟩) 1 1) (sz := 1)
              (cells := iv .u8 (lsW a3 b0 Ls t k0)) (news := [.int .u8 (wr b0 t)]) (F := Fs k0) (by simp) (by simp) (by omega) (by simp) ((hM.own k0 hk12).low (fun j hj => by rw [hget_left ((hM.own k0 hk12).lt j hj)]))
              (hlo.fs k0 hk12) (fun s e => by cases e) (by simp [xcells, hB]) (by simp) (by simp) (by simp; omega) (by simp [maxLen]; omega)
          have hgl1 : (G ++ [B]).length = G.length + 1 := by simp
          rw [hgl1] at hown hlen2
          have hkeep3 : ∀ j, j < G.length → j ∉ Fs k0 → hget G7 j = hget G j := fun j hj hn => by
            rw [hkeep2 j (by omega) hn, hget_left hj]
          have hc7 : hget G7 mb = _ := (hkeep3 mb hmbl (hM.mb k0 hk12)).trans hcells
          obtain ⟨len2, rfl⟩ := hown.new
          have hset := range_set Ms k0 (.slice (some ⟨G.length + 1, 0, none⟩) len2 len2)
          rw [← hcs] at hset hcells hc7
          have hput := Sta.put hM hm hlo hT (k := k0) hk12 (b := G.length + 1) (by omega) hkeep3 (by omega) (l := lsW a3 b0 Ls t k0 ++ [wr b0 t]) (by rw [iv_append]; exact hown)
          have hnm : notTuple (Ms k0) = true := by rcases hM.own k0 hk12 with ⟨e, _⟩ | ⟨j, len, e, _⟩ <;> rw [e] <;> rfl
          subst hB
          have hmb7 := hget_lt hc7
          generalize Ms k0 = w0 at *
          (refine aw_plan [] [0, 1, 2, 3] [4, 5, 6, 7, 8, 9, 10, 11, 12, 13, 14, 15] 16 3 (by kernel_rfl) (by kernel_rfl) (by kernel_rfl) (fun K hK => ?_)); simp only [sel, List.getElem?_cons_succ, List.getElem?_cons_zero, List.drop_succ_cons, List.drop_zero]; simp (disch := first | omega | (simp only [List.length_set, List.length_append, List.length_cons, List.length_nil, iv_length, zl_length]; try omega; done)) [-getElem?_pos, -getElem?_neg, -xappend, hap, h13, h14, h9, h6, hcells, hc7, hcl, hck, hk0, hg9, hwr, hset, PL_nil, PL_cons, PLc_val, PLc_new, stepP_t, stepP_f, stepPC_n, stepPC_s, stepPX_s, stepPX_n, stepPA_t, stepPA_c, stepPA_l, stepPN_s, allocOp, reloc_sl, reloc_ptr, List.map_cons, List.map_nil, List.nil_append, List.append_assoc, List.cons_append, Nat.add_assoc]
          refine hK _ _ ?_; clear hK K
          (refine aw_ops (by kernel_rfl) (fun K hK => ?_); simp (disch := first | omega | (simp only [List.length_set, List.length_append, List.length_cons, List.length_nil, iv_length, zl_length]; try omega; done)) [-getElem?_pos, -getElem?_neg, h14]; refine hK _ _ ?_; clear hK K)
          exact ⟨c3 - 1, by omega, t + 1, by omega, by (first | (simp [put_at, put_none, fr0_at]; done) | rfl), by (first | (simp [put_at, put_none, fr0_at, h13]; done) | rfl), by (first | (simp [put_at, put_none, fr0_at, h9]; done) | rfl), by (first | (simp [put_at, put_none, fr0_at, h8]; done) | rfl), by (first | (simp [put_at, put_none, fr0_at, h0]; done) | rfl), by (first | (simp [put_at, put_none, fr0_at, h1]; done) | rfl), by (first | (simp [put_at, put_none, fr0_at, h5]; done) | rfl), by (first | (simp [put_at, put_none, fr0_at, h6]; done) | rfl), hput.congr (fun k _ => hnext k)⟩
        · obtain rfl : t = 4 := by omega
          (refine aw_ops (by kernel_rfl) (fun K hK => ?_); simp (disch := first | omega | (simp only [List.length_set, List.length_append, List.length_cons, List.length_nil, iv_length, zl_length]; try omega; done)) [-getElem?_pos, -getElem?_neg, h14, ht]; refine hK _ _ ?_; clear hK K)
          refine aw_f (by (first | (simp [eval_tmp, put_at]; done) | (simp [eval_tmp, put_at]; omega))) (by kernel_rfl) ?_
          refine aw_exit ?_
          (refine aw_ops (by kernel_rfl) (fun K hK => ?_); simp (disch := first | omega | (simp only [List.length_set, List.length_append, List.length_cons, List.length_nil, iv_length, zl_length]; try omega; done)) [-getElem?_pos, -getElem?_neg, h8]; refine hK _ _ ?_; clear hK K)
          exact ⟨c2 - 1, by omega, i + 1, by omega, by omega, by (first | (simp [put_at, put_none, fr0_at]; done) | rfl), by (first | (simp [put_at, put_none, fr0_at, h0]; done) | rfl), by (first | (simp [put_at, put_none, fr0_at, h1]; done) | rfl), by (first | (simp [put_at, put_none, fr0_at, h5]; done) | rfl), by (first | (simp [put_at, put_none, fr0_at, h6]; done) | rfl), _, _, hback hsta6, hgood', c3', cn, cu, lsW_len hll⟩
    · refine aw_f (by (first | (simp [eval_tmp, put_at, h37, hc]; done) | (simp [eval_tmp, put_at, h37, hc]; omega))) (by kernel_rfl) ?_
      refine aw_exit ?_
      obtain ⟨Ms, Fs, F, HL, hM, hm, hlo, hT⟩ := hsta
      have hoD := (hm.dk 0 _ rfl).1
      simp only at hoD
      have hkG : SlV G3 kv (iv .u8 ks) := hkv.keep (fun j hj => hT j (by simpa using hj))
      have hks : SlS G3 F kv (iv .u8 ks) := by
        rcases hkv with ⟨a, ha, hcc⟩ | ⟨jk, off, kk, he, hg, _⟩
        · exact fun G2 _ => .inl ⟨a, ha, hcc⟩
        · have hjk := hget_lt hg
          exact hkG.stable (fun j off k e => by rw [he] at e; cases e; exact (hm.st jk (mayS_lo (by simpa using hjk))).2.1 0 _ rfl)
      have cc := crash_ac (nro := H.length) (γ := γ) (hm.dk 0 _ rfl) (hm.lo1 0 _ rfl) hm.len hks hkb
      have hcg : ∀ (b : Nat) (r : ByteArray), (D.crash ks).firm[b]? = some r → ∀ j, j < 4 → Sec r j (Ls (4 * b + j)) := crash_good hoD hgood hkb _
      have hcn : (D.crash ks).firm.length = 3 := by
        have := (crF_ok (ks := ks) hoD.rows hoD.uns D.uns.length).1
        rw [← hn3, ← this]; rfl
      have hcr : ∀ r ∈ (D.crash ks).firm, r.size = 256 := (crF_ok (ks := ks) hoD.rows hoD.uns D.uns.length).2
      refine aw_seq ?_
      refine aw_ops (by kernel_rfl) (fun K hK => ?_)
      simp (disch := first | omega | (simp only [List.length_set, List.length_append, List.length_cons, List.length_nil, iv_length, zl_length]; try omega; done)) [-getElem?_pos, -getElem?_neg, h5, h1]
      refine ⟨by kernel_rfl, cc.mono ?_⟩
      rintro v2 G5 ⟨F', hd5, hf5⟩
      have hsta5 := Sta.disk hM hm hlo hT hf5 hd5
      try simp (disch := first | omega | (simp only [List.length_set, List.length_append, List.length_cons, List.length_nil, iv_length, zl_length]; try omega; done)) [-getElem?_pos, -getElem?_neg]
      refine hK _ _ ?_; clear hK K
      clear hM hm hlo hT cc hd5 hf5
      generalize D.crash ks = D2 at *
      obtain ⟨Ms, Fs, F, HL, hM, hm, hlo, hT⟩ := hsta5
      have hcells := hM.cells
      refine aw_seq ?_
      refine aw_seq ?_
      (refine aw_ops (by kernel_rfl) (fun K hK => ?_); simp (disch := first | omega | (simp only [List.length_set, List.length_append, List.length_cons, List.length_nil, iv_length, zl_length]; try omega; done)) [-getElem?_pos, -getElem?_neg]; refine hK _ _ ?_; clear hK K)
      refine aw_block ?_
      refine aw_loop (fun c α G => ∃ k : Nat, k + c = 12 ∧ α 15 = .int .i64 (k : Nat) ∧ α 5 = .pointer (some ⟨p, 0, none⟩) ∧ α 6 = .pointer (some ⟨mb, 0, none⟩) ∧ G = G5) 12 ?_ ?_
      · exact ⟨0, by omega, by (first | (simp [put_at, put_none, fr0_at]; done) | rfl), by (first | (simp [put_at, put_none, fr0_at, h5]; done) | rfl), by (first | (simp [put_at, put_none, fr0_at, h6]; done) | rfl), rfl⟩
      clear h8 h0 h1 h5 h6 h37
      rintro c3 α G6 ⟨k, hkc, h15, h5, h6, rfl⟩
      refine aw_seq ?_
      refine aw_seq ?_
      by_cases hk : k < 12
      case neg =>
        (refine aw_ops (by kernel_rfl) (fun K hK => ?_); simp (disch := first | omega | (simp only [List.length_set, List.length_append, List.length_cons, List.length_nil, iv_length, zl_length]; try omega; done)) [-getElem?_pos, -getElem?_neg, h15, hk]; refine hK _ _ ?_; clear hK K)
        refine aw_f (by (first | (simp [eval_tmp, put_at, hk]; done) | (simp [eval_tmp, put_at, hk]; omega))) (by kernel_rfl) ?_
        refine aw_exit ?_
        refine aw_seq ?_
        refine aw_ops (by kernel_rfl) (fun K hK => ?_)
        simp (disch := first | omega | (simp only [List.length_set, List.length_append, List.length_cons, List.length_nil, iv_length, zl_length]; try omega; done)) [-getElem?_pos, -getElem?_neg]
        refine ⟨by kernel_rfl, ac_of_vc (by simp [pv_iv, pv_int, pv_bool, pv_string, pv_tup2, pv_tup3, iv_plain, p2_int, p2_bool, p2_string]) alive_vc ?_⟩
        try simp (disch := first | omega | (simp only [List.length_set, List.length_append, List.length_cons, List.length_nil, iv_length, zl_length]; try omega; done)) [-getElem?_pos, -getElem?_neg]
        refine hK _ _ ?_; clear hK K
        (refine aw_ret ?_; simp (disch := first | omega | (simp only [List.length_set, List.length_append, List.length_cons, List.length_nil, iv_length, zl_length]; try omega; done)) [-getElem?_pos, -getElem?_neg, thenQ_ret, inBlockQ_ret, RQ, resL, resV])
      (refine aw_ops (by kernel_rfl) (fun K hK => ?_); simp (disch := first | omega | (simp only [List.length_set, List.length_append, List.length_cons, List.length_nil, iv_length, zl_length]; try omega; done)) [-getElem?_pos, -getElem?_neg, h15, hk]; refine hK _ _ ?_; clear hK K)
      refine aw_t (by (first | (simp [eval_tmp, put_at, hk]; done) | (simp [eval_tmp, put_at, hk]; omega))) (by kernel_rfl) ?_
      refine aw_skip ?_
      refine aw_seq ?_
      refine aw_block ?_
      obtain ⟨r, hr⟩ : ∃ r, D2.firm[k / 4]? = some r := ⟨_, List.getElem?_eq_getElem (by omega)⟩
      have hrs := hcr r (List.mem_of_getElem? hr)
      have hrs' : (r.size : Int) = 256 := by omega
      obtain ⟨x, hx, hx2⟩ := hcg (k / 4) r hr (k % 4) (by omega)
      rw [show 4 * (k / 4) + k % 4 = k by omega] at hx
      have hh3 : hasB 3 ((k / 4 : Nat) : Int) = true := by simp [hasB]; omega
      have hrv : readV D2.firm ((k / 4 : Nat) : Int) = r := by unfold readV; rw [hcn, if_pos hh3, Int.toNat_natCast, List.getD_eq_getElem?_getD, hr]; rfl
      have hse := settled_ac (nro := H.length) (γ := γ) (hm.dk 0 _ rfl) ((k / 4 : Nat) : Int)
      simp only [hrv] at hse
      have hk4 : (k : Int) / 4 = ((k / 4 : Nat) : Int) := by omega
      have hkm : (k : Int) % 4 * 64 = ((k % 4 * 64 : Nat) : Int) := by omega
      have hixl : k % 4 * 64 ≤ 192 := by omega
      rw [show 64 * (k % 4) = k % 4 * 64 by omega] at hx2
      generalize k % 4 * 64 = ix at *
      have hixi : (ix : Int) ≤ 192 := by omega
      generalize ((k / 4 : Nat) : Int) = t4 at *
      have hownk := hM.own k hk
      obtain ⟨cs, hcs⟩ : ∃ cs, cs = (List.range 12).map Ms := ⟨_, rfl⟩
      have hcl : cs.length = 12 := by rw [hcs]; simp
      have hck : cs[k]? = some (Ms k) := by rw [hcs, List.getElem?_map, List.getElem?_range hk]; rfl
      rw [← hcs] at hcells
      have hlk := hll k
      have hxlk := hownk.len (P := Try.prog) (t := 29) (n := (Ls k).length) (by simp) (by simp) (by omega)
      obtain ⟨bk, hbk, hbg, _⟩ := hownk.slice (n := (Ls k).length) (by intro e; have := congrArg List.length e; simp at this; rw [this] at hx; cases hx) (by omega) (by simp)
      have hnm : notTuple (Ms k) = true := by rw [hbk]; rfl
      refine aw_seq ?_
      refine aw_ops (by kernel_rfl) (fun K hK => ?_)
      simp (disch := first | omega | (simp only [List.length_set, List.length_append, List.length_cons, List.length_nil, iv_length, zl_length]; try omega; done)) [-getElem?_pos, -getElem?_neg, h5, h15, hk4]
      refine ⟨by kernel_rfl, hse.mono ?_⟩
      rintro v2 G7 ⟨rfl, rfl⟩
      try simp (disch := first | omega | (simp only [List.length_set, List.length_append, List.length_cons, List.length_nil, iv_length, zl_length]; try omega; done)) [-getElem?_pos, -getElem?_neg]
      refine hK _ _ ?_; clear hK K
      refine aw_seq ?_
      (refine aw_ops (by kernel_rfl) (fun K hK => ?_); simp (disch := first | omega | (simp only [List.length_set, List.length_append, List.length_cons, List.length_nil, iv_length, zl_length]; try omega; done)) [-getElem?_pos, -getElem?_neg]; refine hK _ _ ?_; clear hK K)
      refine aw_seq ?_
      refine aw_seq ?_
      (refine aw_ops (by kernel_rfl) (fun K hK => ?_); simp (disch := first | omega | (simp only [List.length_set, List.length_append, List.length_cons, List.length_nil, iv_length, zl_length]; try omega; done)) [-getElem?_pos, -getElem?_neg]; refine hK _ _ ?_; clear hK K)
      refine aw_block ?_
      have hgx : gb r ix = x := hx2 0 (by omega)
      refine aw_loop (fun c α G => ∃ n : Nat, n + c = (Ls k).length ∧ α 18 = .int .i64 (n : Nat) ∧ α 17 = .bool (((Ls k).take n).any fun y => y == gb r ix) ∧ α 16 = .string r ∧ α 15 = .int .i64 (k : Nat) ∧ α 5 = .pointer (some ⟨p, 0, none⟩) ∧ α 6 = .pointer (some ⟨mb, 0, none⟩) ∧ G = G7) (Ls k).length ?_ ?_
      · exact ⟨0, by omega, by (first | (simp [put_at, put_none, fr0_at]; done) | rfl), by simp [put_at], by (first | (simp [put_at, put_none, fr0_at]; done) | rfl), by (first | (simp [put_at, put_none, fr0_at, h15]; done) | rfl), by (first | (simp [put_at, put_none, fr0_at, h5]; done) | rfl), by (first | (simp [put_at, put_none, fr0_at, h6]; done) | rfl), rfl⟩
      clear h15 h5 h6
      rintro c4 α G8 ⟨n, hnc, h18, h17, h16, h15, h5, h6, rfl⟩
      refine aw_seq ?_
      refine aw_seq ?_
      by_cases hn : n < (Ls k).length
      · (refine aw_ops (by kernel_rfl) (fun K hK => ?_); simp (disch := first | omega | (simp only [List.length_set, List.length_append, List.length_cons, List.length_nil, iv_length, zl_length]; try omega; done)) [-getElem?_pos, -getElem?_neg, h18, h15, h6, hcells, hck, -xlen, hxlk, hn]; refine hK _ _ ?_; clear hK K)
        refine aw_t (by (first | (simp [eval_tmp, put_at, hn]; done) | (simp [eval_tmp, put_at, hn]; omega))) (by kernel_rfl) ?_
        refine aw_skip ?_
        refine aw_seq ?_
        refine aw_block ?_
        have hcy := iv_getN .u8 (Ls k) n hn
        have hnx : (((Ls k).take (n + 1)).any fun y => y == gb r ix) = ((((Ls k).take n).any fun y => y == gb r ix) || ((Ls k).getD n 0 == gb r ix)) := by
          rw [List.take_add_one, List.any_append, List.getElem?_eq_getElem hn, List.getD_eq_getElem?_getD, List.getElem?_eq_getElem hn]
          simp
        generalize (Ls k).getD n 0 = y at *
        cases hin : ((Ls k).take n).any fun y => y == gb r ix with
        | true =>
          rw [hin] at h17 hnx
          (refine aw_plan [] [] [0, 1, 2, 3, 4, 5, 6, 7, 8, 9, 10, 11, 12, 13, 14, 15] 16 0 (by kernel_rfl) (by kernel_rfl) (by kernel_rfl) (fun K hK => ?_)); simp only [sel, List.getElem?_cons_succ, List.getElem?_cons_zero, List.drop_succ_cons, List.drop_zero]; simp (disch := first | omega | (simp only [List.length_set, List.length_append, List.length_cons, List.length_nil, iv_length, zl_length]; try omega; done)) [-getElem?_pos, -getElem?_neg, h17, PL_nil, PL_cons, PLc_val, PLc_new, stepP_t, stepP_f, stepPC_n, stepPC_s, stepPX_s, stepPX_n, stepPA_t, stepPA_c, stepPA_l, stepPN_s, allocOp, reloc_sl, reloc_ptr, List.map_cons, List.map_nil, List.nil_append, List.append_assoc, List.cons_append, Nat.add_assoc]
          refine hK _ _ ?_; clear hK K
          (refine aw_ops (by kernel_rfl) (fun K hK => ?_); simp (disch := first | omega | (simp only [List.length_set, List.length_append, List.length_cons, List.length_nil, iv_length, zl_length]; try omega; done)) [-getElem?_pos, -getElem?_neg, h18]; refine hK _ _ ?_; clear hK K)
          exact ⟨c4 - 1, by omega, n + 1, by omega, by (first | (simp [put_at, put_none, fr0_at]; done) | rfl), by rw [hnx]; simp [put_at], by (first | (simp [put_at, put_none, fr0_at, h16]; done) | rfl), by (first | (simp [put_at, put_none, fr0_at, h15]; done) | rfl), by (first | (simp [put_at, put_none, fr0_at, h5]; done) | rfl), by (first | (simp [put_at, put_none, fr0_at, h6]; done) | rfl), rfl⟩
        | false =>
          rw [hin] at h17 hnx
          rw [hbk] at hck
          (refine aw_plan [] [] [0, 1, 2, 3, 4, 5, 6, 7, 8, 9, 10, 11, 12, 13, 14, 15] 16 0 (by kernel_rfl) (by kernel_rfl) (by kernel_rfl) (fun K hK => ?_)); simp only [sel, List.getElem?_cons_succ, List.getElem?_cons_zero, List.drop_succ_cons, List.drop_zero]; simp (disch := first | omega | (simp only [List.length_set, List.length_append, List.length_cons, List.length_nil, iv_length, zl_length]; try omega; done)) [-getElem?_pos, -getElem?_neg, h17, h18, h15, h16, h6, hcells, hck, hbg, hcy, hkm, hrs, hrs', hixi, PL_nil, PL_cons, PLc_val, PLc_new, stepP_t, stepP_f, stepPC_n, stepPC_s, stepPX_s, stepPX_n, stepPA_t, stepPA_c, stepPA_l, stepPN_s, allocOp, reloc_sl, reloc_ptr, List.map_cons, List.map_nil, List.nil_append, List.append_assoc, List.cons_append, Nat.add_assoc]
          refine hK _ _ ?_; clear hK K
          (refine aw_ops (by kernel_rfl) (fun K hK => ?_); simp (disch := first | omega | (simp only [List.length_set, List.length_append, List.length_cons, List.length_nil, iv_length, zl_length]; try omega; done)) [-getElem?_pos, -getElem?_neg, h18]; refine hK _ _ ?_; clear hK K)
          exact ⟨c4 - 1, by omega, n + 1, by omega, by (first | (simp [put_at, put_none, fr0_at]; done) | rfl), by rw [hnx]; simp [put_at], by (first | (simp [put_at, put_none, fr0_at, h16]; done) | rfl), by (first | (simp [put_at, put_none, fr0_at, h15]; done) | rfl), by (first | (simp [put_at, put_none, fr0_at, h5]; done) | rfl), by (first | (simp [put_at, put_none, fr0_at, h6]; done) | rfl), rfl⟩
      · obtain rfl : n = (Ls k).length := by omega
        (refine aw_ops (by kernel_rfl) (fun K hK => ?_); simp (disch := first | omega | (simp only [List.length_set, List.length_append, List.length_cons, List.length_nil, iv_length, zl_length]; try omega; done)) [-getElem?_pos, -getElem?_neg, h18, h15, h6, hcells, hck, -xlen, hxlk, hn]; refine hK _ _ ?_; clear hK K)
        refine aw_f (by (first | (simp [eval_tmp, put_at, hn]; done) | (simp [eval_tmp, put_at, hn]; omega))) (by kernel_rfl) ?_
        refine aw_exit ?_
        have htrue : (((Ls k).take (Ls k).length).any fun y => y == gb r ix) = true := by
          rw [List.take_length, List.any_eq_true]
          exact ⟨x, hx, by simp [hgx]⟩
        rw [htrue] at h17
        refine aw_seq ?_
        refine aw_seq ?_
        (refine aw_ops (by kernel_rfl) (fun K hK => ?_); simp (disch := first | omega | (simp only [List.length_set, List.length_append, List.length_cons, List.length_nil, iv_length, zl_length]; try omega; done)) [-getElem?_pos, -getElem?_neg]; refine hK _ _ ?_; clear hK K)
        refine aw_block ?_
        refine aw_loop (fun c α G => ∃ n : Nat, n + c = 64 ∧ α 19 = .int .i64 (n : Nat) ∧ α 17 = .bool true ∧ α 16 = .string r ∧ α 15 = .int .i64 (k : Nat) ∧ α 5 = .pointer (some ⟨p, 0, none⟩) ∧ α 6 = .pointer (some ⟨mb, 0, none⟩) ∧ G = G8) 64 ?_ ?_
        · exact ⟨0, by omega, by (first | (simp [put_at, put_none, fr0_at]; done) | rfl), by (first | (simp [put_at, put_none, fr0_at, h17]; done) | rfl), by (first | (simp [put_at, put_none, fr0_at, h16]; done) | rfl), by (first | (simp [put_at, put_none, fr0_at, h15]; done) | rfl), by (first | (simp [put_at, put_none, fr0_at, h5]; done) | rfl), by (first | (simp [put_at, put_none, fr0_at, h6]; done) | rfl), rfl⟩
        clear h18 h17 h16 h15 h5 h6
        rintro c5 α G9 ⟨m, hmc, h19, h17, h16, h15, h5, h6, rfl⟩
        refine aw_seq ?_
        refine aw_seq ?_
        by_cases hm64 : m < 64
        · (refine aw_ops (by kernel_rfl) (fun K hK => ?_); simp (disch := first | omega | (simp only [List.length_set, List.length_append, List.length_cons, List.length_nil, iv_length, zl_length]; try omega; done)) [-getElem?_pos, -getElem?_neg, h19, hm64]; refine hK _ _ ?_; clear hK K)
          refine aw_t (by (first | (simp [eval_tmp, put_at, hm64]; done) | (simp [eval_tmp, put_at, hm64]; omega))) (by kernel_rfl) ?_
          refine aw_skip ?_
          refine aw_seq ?_
          refine aw_block ?_
          have hxm := hx2 m hm64
          have him : (ix : Int) + (m : Int) = ((ix + m : Nat) : Int) := by omega
          have himl : ix + m < 256 := by omega
          generalize ix + m = im at *
          have himi : (im : Int) < 256 := by omega
          (refine aw_plan [] [] [0, 1, 2, 3, 4, 5, 6, 7, 8, 9, 10, 11, 12, 13, 14, 15, 16] 17 0 (by kernel_rfl) (by kernel_rfl) (by kernel_rfl) (fun K hK => ?_)); simp only [sel, List.getElem?_cons_succ, List.getElem?_cons_zero, List.drop_succ_cons, List.drop_zero]; simp (disch := first | omega | (simp only [List.length_set, List.length_append, List.length_cons, List.length_nil, iv_length, zl_length]; try omega; done)) [-getElem?_pos, -getElem?_neg, h17, h19, h15, h16, hkm, hrs, hrs', hixi, him, himi, hxm, hgx, beq_self_eq_true, PL_nil, PL_cons, PLc_val, PLc_new, stepP_t, stepP_f, stepPC_n, stepPC_s, stepPX_s, stepPX_n, stepPA_t, stepPA_c, stepPA_l, stepPN_s, allocOp, reloc_sl, reloc_ptr, List.map_cons, List.map_nil, List.nil_append, List.append_assoc, List.cons_append, Nat.add_assoc]
          refine hK _ _ ?_; clear hK K
          (refine aw_ops (by kernel_rfl) (fun K hK => ?_); simp (disch := first | omega | (simp only [List.length_set, List.length_append, List.length_cons, List.length_nil, iv_length, zl_length]; try omega; done)) [-getElem?_pos, -getElem?_neg, h19]; refine hK _ _ ?_; clear hK K)
          exact ⟨c5 - 1, by omega, m + 1, by omega, by (first | (simp [put_at, put_none, fr0_at]; done) | rfl), by (first | (simp [put_at, put_none, fr0_at]; done) | rfl), by (first | (simp [put_at, put_none, fr0_at, h16]; done) | rfl), by (first | (simp [put_at, put_none, fr0_at, h15]; done) | rfl), by (first | (simp [put_at, put_none, fr0_at, h5]; done) | rfl), by (first | (simp [put_at, put_none, fr0_at, h6]; done) | rfl), rfl⟩
        · obtain rfl : m = 64 := by omega
          (refine aw_ops (by kernel_rfl) (fun K hK => ?_); simp (disch := first | omega | (simp only [List.length_set, List.length_append, List.length_cons, List.length_nil, iv_length, zl_length]; try omega; done)) [-getElem?_pos, -getElem?_neg, h19, hm64]; refine hK _ _ ?_; clear hK K)
          refine aw_f (by (first | (simp [eval_tmp, put_at, hm64]; done) | (simp [eval_tmp, put_at, hm64]; omega))) (by kernel_rfl) ?_
          refine aw_exit ?_
          refine aw_seq ?_
          (refine aw_ops (by kernel_rfl) (fun K hK => ?_); simp (disch := first | omega | (simp only [List.length_set, List.length_append, List.length_cons, List.length_nil, iv_length, zl_length]; try omega; done)) [-getElem?_pos, -getElem?_neg, h17]; refine hK _ _ ?_; clear hK K)
          refine aw_f (by (first | (simp [eval_tmp, put_at]; done) | (simp [eval_tmp, put_at]; omega))) (by kernel_rfl) ?_
          refine aw_skip ?_
          (refine aw_ops (by kernel_rfl) (fun K hK => ?_); simp (disch := first | omega | (simp only [List.length_set, List.length_append, List.length_cons, List.length_nil, iv_length, zl_length]; try omega; done)) [-getElem?_pos, -getElem?_neg, h15]; refine hK _ _ ?_; clear hK K)
          exact ⟨c3 - 1, by omega, k + 1, by omega, by (first | (simp [put_at, put_none, fr0_at]; done) | rfl), by (first | (simp [put_at, put_none, fr0_at, h5]; done) | rfl), by (first | (simp [put_at, put_none, fr0_at, h6]; done) | rfl), rfl⟩
end Go.Proofs.Ytadbgdhbamdiaaa
