/-
  A disk's fuse, and writing, walked.
-/
import Derived.Test.YtadbgdhbamdiaaaDs
namespace Go.Proofs.Ytadbgdhbamdiaaa
open Go Go.RowKit
set_option linter.unusedVariables false
set_option linter.unusedSimpArgs false
set_option maxRecDepth 100000
set_option maxHeartbeats 4000000

def DM.burn (D : DM) : DM := if D.fuse = 0 then { D with dead := true } else if 0 < D.fuse then { D with fuse := D.fuse - 1 } else D
def DM.burnV (D : DM) : Int := if D.fuse = 0 then 7 else 0
theorem burn_firm (D : DM) : D.burn.firm = D.firm := by unfold DM.burn; split <;> (try split) <;> rfl
theorem burn_uns (D : DM) : D.burn.uns = D.uns := by unfold DM.burn; split <;> (try split) <;> rfl
theorem DM.Ok.upd {D D' : DM} (h : D.Ok) (hf : D'.firm = D.firm) (hu : D'.uns = D.uns) (hz : -1 ≤ D'.fuse ∧ D'.fuse ≤ 9223372036854775807) : D'.Ok :=
  ⟨by rw [hf]; exact h.one, by rw [hf]; exact h.most, by rw [hf]; exact h.rows, by rw [hf, hu]; exact h.uns, hz, by rw [hu]; exact h.few⟩
theorem fr_set {H : AH} {F : List Nat} {p : Nat} {x : Option Blk} (hp : p ∈ F) : Fr H (H.set p x) F F :=
  ⟨by simp, fun j hj hn => hget_set_ne (fun e => hn (e ▸ hp)), fun j h => .inl h⟩
theorem fr_push (H L : AH) (F : List Nat) : Fr H (H ++ L) F F := ⟨by simp, fun j hj _ => hget_left hj, fun j h => .inl h⟩
theorem DkR.upd {H : AH} {p s l : Nat} {U : Value} {FU : List Nat} {D D' : DM} (h : DkR H p s l U FU D) (ho : D.Ok) (hf : D'.firm = D.firm) (hu : D'.uns = D.uns) (hz : -1 ≤ D'.fuse ∧ D'.fuse ≤ 9223372036854775807) :
    Dk (H.set p (some ⟨[.slice (some ⟨s, 0, none⟩) D.firm.length D.firm.length, .slice (some ⟨l, 0, none⟩) D.firm.length D.firm.length, U, .int .i64 D'.fuse, .bool D'.dead], 59, none⟩)) p (p :: s :: l :: FU) D' := by
  have hl : D'.late = D.late := by unfold DM.late; rw [hf, hu]
  have hpl := hget_lt h.hp
  refine ⟨ho.upd hf hu hz, s, l, U, FU, rfl, ⟨by rw [hget_set_eq hpl, hf], by rw [hget_set_ne h.ps, hf]; exact h.hs, by rw [hget_set_ne h.pl, hl]; exact h.hl, ?_, h.ps, h.pl, h.sl, h.fu⟩⟩
  rw [hu]
  exact h.hu.low (fun j hj => hget_set_ne (fun e => h.fu.1 (e ▸ hj)))
attribute [local simp] wb_bool wb_undef XL_nil XL_cons XLc_val XLc_call step1_eq stepW_t stepW_f stepC_n stepC_s stepX_s xop_eq xopR_s xopR_n wantedA_eq wantedG_n wantedG_s plain1_int plain1_bool plain1_string bits_i64 bits_u64 bits_u32 bits_u16 bits_u8 xeqA xarr allK_iv num_iv calleeOf xread xeff xbin xint xnil xun xstr xload xconv xpart xfield xfieldAddr xindexAddr xindex bnd asInt? xslice xlen xmin xmax xbuild xfill xappend xcopy xcells eval_tmp eval_const put_at put_none fr0_at cells_agg cells_int cells_bool cells_string cells_ptr cells_slice notTuple tab iv_all hget_app hget_app0 hget_cons0 hget_cons set_app set_app0 setR setR_one QL_nil QL_cons QLc_val stepQ_t stepQ_f stepQC_n stepQC_s stepQX_s SL_nil SL_cons SLc_val stepS_t stepS_f ltT ltF leT leF eqT eqF ltTn ltFn leTn leFn eqTn eqFn beqT beqF bneT bneF wi64 wu64 wu32 wu16 wu8 tmodP tdivP hgetL hgetNe hgetEq setL nums_def nums_len Nat.succ_le_of_lt List.getElem?_cons_zero List.getElem?_cons_succ Option.getD_some Int.toNat_add Int.toNat_mul agB agI agS agP agL agA okB okI okS okP okSl okA

section
variable {H : AH} {γ : Nat → Option Nat} {nro p : Nat} {F : List Nat} {D : DM}
theorem burn_ac (h : Dk H p F D) (hn : nro ≤ p) : AC Try.prog nro γ 26 #[.pointer (some ⟨p, 0, none⟩)] H (fun v' H' => v' = .int .i64 D.burnV ∧ Dk H' p F D.burn ∧ Fr H H' F F) := by
  obtain ⟨ho, s, l, U, FU, rfl, h⟩ := h
  have hp := h.hp
  have hpl := hget_lt hp
  have hz := ho.fuse
  refine ac_of_aw Try.func26 rfl Try.ntmps26 Try.results26 (by simp) ?_
  refine aw_seq ?_
  (refine aw_ops (by kernel_rfl) (fun K hK => ?_); simp (disch := first | omega | (simp only [List.length_set, List.length_append, List.length_cons, List.length_nil, iv_length, zl_length]; try omega; done)) [-getElem?_pos, -getElem?_neg]; refine hK _ _ ?_; clear hK K)
  refine aw_seq ?_
  refine aw_block ?_
  refine aw_seq ?_
  by_cases h0 : D.fuse = 0
  · (refine aw_ops (by kernel_rfl) (fun K hK => ?_); simp (disch := first | omega | (simp only [List.length_set, List.length_append, List.length_cons, List.length_nil, iv_length, zl_length]; try omega; done)) [-getElem?_pos, -getElem?_neg, hp, h0]; refine hK _ _ ?_; clear hK K)
    refine aw_t (by (first | (simp [eval_tmp, put_at, h0]; done) | (simp [eval_tmp, put_at, h0]; omega))) (by kernel_rfl) ?_
    refine aw_seq ?_
    (refine aw_ops (by kernel_rfl) (fun K hK => ?_); simp (disch := first | omega | (simp only [List.length_set, List.length_append, List.length_cons, List.length_nil, iv_length, zl_length]; try omega; done)) [-getElem?_pos, -getElem?_neg, hp, h0]; refine hK _ _ ?_; clear hK K)
    refine aw_seq ?_
    (refine aw_ops (by kernel_rfl) (fun K hK => ?_); simp (disch := first | omega | (simp only [List.length_set, List.length_append, List.length_cons, List.length_nil, iv_length, zl_length]; try omega; done)) [-getElem?_pos, -getElem?_neg]; refine hK _ _ ?_; clear hK K)
    (refine aw_ret ?_; simp (disch := first | omega | (simp only [List.length_set, List.length_append, List.length_cons, List.length_nil, iv_length, zl_length]; try omega; done)) [-getElem?_pos, -getElem?_neg, thenQ_ret, inBlockQ_ret, RQ, resL, resV])
    have hb : D.burn = { D with dead := true } := by simp [DM.burn, h0]
    refine ⟨by simp [DM.burnV, h0], ?_, fr_set (by simp)⟩
    rw [hb]
    have := h.upd (D' := { D with dead := true }) ho rfl rfl hz
    simpa only [h0] using this
  · (refine aw_ops (by kernel_rfl) (fun K hK => ?_); simp (disch := first | omega | (simp only [List.length_set, List.length_append, List.length_cons, List.length_nil, iv_length, zl_length]; try omega; done)) [-getElem?_pos, -getElem?_neg, hp, h0]; refine hK _ _ ?_; clear hK K)
    refine aw_f (by (first | (simp [eval_tmp, put_at, h0]; done) | (simp [eval_tmp, put_at, h0]; omega))) (by kernel_rfl) ?_
    refine aw_seq ?_
    by_cases h1 : 0 < D.fuse
    · (refine aw_ops (by kernel_rfl) (fun K hK => ?_); simp (disch := first | omega | (simp only [List.length_set, List.length_append, List.length_cons, List.length_nil, iv_length, zl_length]; try omega; done)) [-getElem?_pos, -getElem?_neg, hp, h1]; refine hK _ _ ?_; clear hK K)
      refine aw_t (by (first | (simp [eval_tmp, put_at, h1]; done) | (simp [eval_tmp, put_at, h1]; omega))) (by kernel_rfl) ?_
      (refine aw_ops (by kernel_rfl) (fun K hK => ?_); simp (disch := first | omega | (simp only [List.length_set, List.length_append, List.length_cons, List.length_nil, iv_length, zl_length]; try omega; done)) [-getElem?_pos, -getElem?_neg, hp]; refine hK _ _ ?_; clear hK K)
      refine aw_seq ?_
      (refine aw_ops (by kernel_rfl) (fun K hK => ?_); simp (disch := first | omega | (simp only [List.length_set, List.length_append, List.length_cons, List.length_nil, iv_length, zl_length]; try omega; done)) [-getElem?_pos, -getElem?_neg]; refine hK _ _ ?_; clear hK K)
      (refine aw_ret ?_; simp (disch := first | omega | (simp only [List.length_set, List.length_append, List.length_cons, List.length_nil, iv_length, zl_length]; try omega; done)) [-getElem?_pos, -getElem?_neg, thenQ_ret, inBlockQ_ret, RQ, resL, resV])
      have hb : D.burn = { D with fuse := D.fuse - 1 } := by simp [DM.burn, h0, h1]
      refine ⟨by simp [DM.burnV, h0], ?_, fr_set (by simp)⟩
      rw [hb]
      exact h.upd (D' := { D with fuse := D.fuse - 1 }) ho rfl rfl (by simp only; omega)
    · (refine aw_ops (by kernel_rfl) (fun K hK => ?_); simp (disch := first | omega | (simp only [List.length_set, List.length_append, List.length_cons, List.length_nil, iv_length, zl_length]; try omega; done)) [-getElem?_pos, -getElem?_neg, hp, h1]; refine hK _ _ ?_; clear hK K)
      refine aw_f (by (first | (simp [eval_tmp, put_at, h1]; done) | (simp [eval_tmp, put_at, h1]; omega))) (by kernel_rfl) ?_
      refine aw_skip ?_
      refine aw_seq ?_
      (refine aw_ops (by kernel_rfl) (fun K hK => ?_); simp (disch := first | omega | (simp only [List.length_set, List.length_append, List.length_cons, List.length_nil, iv_length, zl_length]; try omega; done)) [-getElem?_pos, -getElem?_neg]; refine hK _ _ ?_; clear hK K)
      (refine aw_ret ?_; simp (disch := first | omega | (simp only [List.length_set, List.length_append, List.length_cons, List.length_nil, iv_length, zl_length]; try omega; done)) [-getElem?_pos, -getElem?_neg, thenQ_ret, inBlockQ_ret, RQ, resL, resV])
      have hb : D.burn = D := by simp [DM.burn, h0, h1]
      rw [hb]
      exact ⟨by simp [DM.burnV, h0], ⟨ho, s, l, U, FU, rfl, h⟩, Fr.refl _ _⟩
theorem fuse_ac (h : Dk H p F D) (hn : nro ≤ p) {n : Int} (hnb : n ≤ 9223372036854775807) : AC Try.prog nro γ 15 #[.pointer (some ⟨p, 0, none⟩), .int .i64 n] H (fun v' H' => Dk H' p F { D with fuse := if n < -1 then -1 else n } ∧ Fr H H' F F) := by
  obtain ⟨ho, s, l, U, FU, rfl, h⟩ := h
  have hp := h.hp
  have hpl := hget_lt hp
  have hz := ho.fuse
  refine ac_of_aw Try.func15 rfl Try.ntmps15 Try.results15 (by simp) ?_
  have hm := h.upd (D' := { D with fuse := if n < -1 then -1 else n }) ho rfl rfl (by simp only; split <;> omega)
  simp only at hm
  refine aw_seq ?_
  (refine aw_ops (by kernel_rfl) (fun K hK => ?_); simp (disch := first | omega | (simp only [List.length_set, List.length_append, List.length_cons, List.length_nil, iv_length, zl_length]; try omega; done)) [-getElem?_pos, -getElem?_neg]; refine hK _ _ ?_; clear hK K)
  refine aw_t (by (first | (simp [eval_tmp, put_at]; done) | (simp [eval_tmp, put_at]; omega))) (by kernel_rfl) ?_
  have hmx : (if (-1 : Int) > n then (-1 : Int) else n) = if n < -1 then -1 else n := by by_cases hc : n < -1 <;> simp [hc]
  (refine aw_ops (by kernel_rfl) (fun K hK => ?_); simp (disch := first | omega | (simp only [List.length_set, List.length_append, List.length_cons, List.length_nil, iv_length, zl_length]; try omega; done)) [-getElem?_pos, -getElem?_neg, hp, hmx]; refine hK _ _ ?_; clear hK K)
  refine ⟨_, _, rfl, rfl, hm, fr_set (by simp)⟩
theorem fuse_nil {n : Int} : AC Try.prog nro γ 15 #[.pointer none, .int .i64 n] H (fun v' H' => H' = H) := by
  refine ac_of_aw Try.func15 rfl Try.ntmps15 Try.results15 (by simp) ?_
  refine aw_seq ?_
  (refine aw_ops (by kernel_rfl) (fun K hK => ?_); simp (disch := first | omega | (simp only [List.length_set, List.length_append, List.length_cons, List.length_nil, iv_length, zl_length]; try omega; done)) [-getElem?_pos, -getElem?_neg]; refine hK _ _ ?_; clear hK K)
  refine aw_f (by (first | (simp [eval_tmp, put_at]; done) | (simp [eval_tmp, put_at]; omega))) (by kernel_rfl) ?_
  refine aw_skip ?_
  exact ⟨_, _, rfl, rfl, rfl⟩
/-- Writing. -/
def okW (D : DM) (at_ : Int) (t : ByteArray) : Bool := hasB D.firm.length at_ && decide (t.size = 256)
def DM.put (D : DM) (at_ : Int) (t : ByteArray) : DM := { D with uns := D.uns ++ [(at_.toNat, t)] }
def DM.write (D : DM) (at_ : Int) (t : ByteArray) : DM := if okW D at_ t = true ∧ D.dead = false then (D.put at_ t).burn else D
def DM.writeV (D : DM) (at_ : Int) (t : ByteArray) : Int := if okW D at_ t = true then (if D.dead = true then 7 else (D.put at_ t).burnV) else 1
theorem write_ac (h : Dk H p F D) (hn : ∀ j ∈ F, nro ≤ j) (hfew : D.uns.length < 1000) (at_ : Int) (t : ByteArray) :
    AC Try.prog nro γ 10 #[.pointer (some ⟨p, 0, none⟩), .int .i64 at_, .string t] H (fun v' H' => v' = .int .i64 (D.writeV at_ t) ∧ ∃ F', Dk H' p F' (D.write at_ t) ∧ Fr H H' F F') := by
  have hdk := h
  have hh := has_ac (nro := nro) (γ := γ) h at_
  obtain ⟨ho, s, l, U, FU, rfl, h⟩ := h
  have hp := h.hp
  have hpl := hget_lt hp
  have hnp : nro ≤ p := hn p (by simp)
  have hnl : nro ≤ l := hn l (by simp)
  refine ac_of_aw Try.func10 rfl Try.ntmps10 Try.results10 (by simp) ?_
  refine aw_seq ?_
  (refine aw_ops (by kernel_rfl) (fun K hK => ?_); simp (disch := first | omega | (simp only [List.length_set, List.length_append, List.length_cons, List.length_nil, iv_length, zl_length]; try omega; done)) [-getElem?_pos, -getElem?_neg]; refine hK _ _ ?_; clear hK K)
  refine aw_seq ?_
  refine aw_seq ?_
  refine aw_ops (by kernel_rfl) (fun K hK => ?_)
  simp (disch := first | omega | (simp only [List.length_set, List.length_append, List.length_cons, List.length_nil, iv_length, zl_length]; try omega; done)) [-getElem?_pos, -getElem?_neg]
  refine ⟨by kernel_rfl, hh.mono ?_⟩
  rintro v H' ⟨rfl, rfl⟩
  cases hok : okW D at_ t with
  | false =>
    have hww : D.writeV at_ t = 1 := by simp [DM.writeV, hok]
    have hwd : D.write at_ t = D := by simp [DM.write, hok]
    cases hb : hasB D.firm.length at_ with
    | false =>
      simp (disch := first | omega | (simp only [List.length_set, List.length_append, List.length_cons, List.length_nil, iv_length, zl_length]; try omega; done)) [-getElem?_pos, -getElem?_neg, hb]
      refine hK _ _ ?_; clear hK K
      refine aw_t (by (first | (simp [eval_tmp, put_at]; done) | (simp [eval_tmp, put_at]; omega))) (by kernel_rfl) ?_
      refine aw_seq ?_
      (refine aw_ops (by kernel_rfl) (fun K hK => ?_); simp (disch := first | omega | (simp only [List.length_set, List.length_append, List.length_cons, List.length_nil, iv_length, zl_length]; try omega; done)) [-getElem?_pos, -getElem?_neg]; refine hK _ _ ?_; clear hK K)
      (refine aw_ret ?_; simp (disch := first | omega | (simp only [List.length_set, List.length_append, List.length_cons, List.length_nil, iv_length, zl_length]; try omega; done)) [-getElem?_pos, -getElem?_neg, thenQ_ret, inBlockQ_ret, RQ, resL, resV, hww, hwd])
      exact ⟨_, hdk, Fr.refl _ _⟩
    | true =>
      have hs : t.size ≠ 256 := by intro e; simp [okW, hb, e] at hok
      have hs' : ¬ (t.size : Int) = 256 := by omega
      simp (disch := first | omega | (simp only [List.length_set, List.length_append, List.length_cons, List.length_nil, iv_length, zl_length]; try omega; done)) [-getElem?_pos, -getElem?_neg, hb, hs, hs']
      refine hK _ _ ?_; clear hK K
      refine aw_t (by (first | (simp [eval_tmp, put_at, hs, hs']; done) | (simp [eval_tmp, put_at, hs, hs']; omega))) (by kernel_rfl) ?_
      refine aw_seq ?_
      (refine aw_ops (by kernel_rfl) (fun K hK => ?_); simp (disch := first | omega | (simp only [List.length_set, List.length_append, List.length_cons, List.length_nil, iv_length, zl_length]; try omega; done)) [-getElem?_pos, -getElem?_neg]; refine hK _ _ ?_; clear hK K)
      (refine aw_ret ?_; simp (disch := first | omega | (simp only [List.length_set, List.length_append, List.length_cons, List.length_nil, iv_length, zl_length]; try omega; done)) [-getElem?_pos, -getElem?_neg, thenQ_ret, inBlockQ_ret, RQ, resL, resV, hww, hwd])
      exact ⟨_, hdk, Fr.refl _ _⟩
  | true =>
    have hokk := hok
    simp only [okW, Bool.and_eq_true, decide_eq_true_eq] at hokk
    obtain ⟨hb, hs⟩ := hokk
    have hs' : (t.size : Int) = 256 := by omega
    simp (disch := first | omega | (simp only [List.length_set, List.length_append, List.length_cons, List.length_nil, iv_length, zl_length]; try omega; done)) [-getElem?_pos, -getElem?_neg, hb, hs, hs']
    refine hK _ _ ?_; clear hK K
    refine aw_f (by (first | (simp [eval_tmp, put_at]; done) | (simp [eval_tmp, put_at]; omega))) (by kernel_rfl) ?_
    refine aw_skip ?_
    refine aw_seq ?_
    refine aw_seq ?_
    (refine aw_ops (by kernel_rfl) (fun K hK => ?_); simp (disch := first | omega | (simp only [List.length_set, List.length_append, List.length_cons, List.length_nil, iv_length, zl_length]; try omega; done)) [-getElem?_pos, -getElem?_neg, hp]; refine hK _ _ ?_; clear hK K)
    cases hd : D.dead with
    | true =>
      have hww : D.writeV at_ t = 7 := by simp [DM.writeV, hok, hd]
      have hwd : D.write at_ t = D := by simp [DM.write, hok, hd]
      refine aw_t (by (first | (simp [eval_tmp, put_at, hd]; done) | (simp [eval_tmp, put_at, hd]; omega))) (by kernel_rfl) ?_
      refine aw_seq ?_
      (refine aw_ops (by kernel_rfl) (fun K hK => ?_); simp (disch := first | omega | (simp only [List.length_set, List.length_append, List.length_cons, List.length_nil, iv_length, zl_length]; try omega; done)) [-getElem?_pos, -getElem?_neg]; refine hK _ _ ?_; clear hK K)
      (refine aw_ret ?_; simp (disch := first | omega | (simp only [List.length_set, List.length_append, List.length_cons, List.length_nil, iv_length, zl_length]; try omega; done)) [-getElem?_pos, -getElem?_neg, thenQ_ret, inBlockQ_ret, RQ, resL, resV, hww, hwd])
      exact ⟨_, hdk, Fr.refl _ _⟩
    | false =>
      have hww : D.writeV at_ t = (D.put at_ t).burnV := by simp [DM.writeV, hok, hd]
      have hwd : D.write at_ t = (D.put at_ t).burn := by simp [DM.write, hok, hd]
      refine aw_f (by (first | (simp [eval_tmp, put_at, hd]; done) | (simp [eval_tmp, put_at, hd]; omega))) (by kernel_rfl) ?_
      refine aw_skip ?_
      have hbb := hb
      simp only [hasB, Bool.and_eq_true, decide_eq_true_eq] at hbb
      obtain ⟨i, rfl⟩ : ∃ i : Nat, at_ = (i : Nat) := ⟨at_.toNat, by omega⟩
      have hi : i < D.firm.length := by omega
      have hlr : ∀ r ∈ D.late, r.size = 256 := late_rows ho.rows (fun w hw => (ho.uns w hw).2)
      have hll : D.late.length = D.firm.length := late_len _ _
      have hhl := h.hl
      have hfl := fc_len hlr
      have hfs := fc_set hlr (by omega) hs (k := i)
      have hsv : iv .u8 (nums t) = sv t := rfl
      have hst : (sv t).take 256 = sv t := List.take_of_length_le (by simp [hs])
      have hsl : (sv t).length = 256 := by simp [hs]
      have hpt : D.put (i : Nat) t = { D with uns := D.uns ++ [(i, t)] } := by simp [DM.put]
      have hset : ∀ x : Value, setR (x :: iv .u8 (zl 256)) 1 (sv t) = x :: sv t := fun x => by
        have := setR_right [x] (iv .u8 (zl 256)) (sv t) 0 (by simp [hs])
        rw [setR_all _ _ (by simp [hs])] at this
        exact this
      have hset0 : ∀ x : Value, setR (x :: iv .u8 (zl 256)) 1 (iv .u8 (zl 256)) = x :: iv .u8 (zl 256) := fun x => by
        have := setR_right [x] (iv .u8 (zl 256)) (iv .u8 (zl 256)) 0 (by simp)
        rw [setR_all _ _ (by simp)] at this
        exact this
      have hlt : ∀ j ∈ FU, j < H'.length := fun j hj => hdk.lt j (by simp [hj])
      have hll' := hget_lt hhl
      have hss' := hget_lt h.hs
      have hps := h.ps
      have hpl2 := h.pl
      have hsl2 := h.sl
      have hfu := h.fu
      refine aw_seq ?_
      (refine aw_ops (by kernel_rfl) (fun K hK => ?_); simp (disch := first | omega | (simp only [List.length_set, List.length_append, List.length_cons, List.length_nil, iv_length, zl_length]; try omega; done)) [-getElem?_pos, -getElem?_neg, hp, hset0]; refine hK _ _ ?_; clear hK K)
      refine aw_seq ?_
      (refine aw_ops (by kernel_rfl) (fun K hK => ?_); simp (disch := first | omega | (simp only [List.length_set, List.length_append, List.length_cons, List.length_nil, iv_length, zl_length]; try omega; done)) [-getElem?_pos, -getElem?_neg, hsv, hst, hset, hsl, hs]; refine hK _ _ ?_; clear hK K)
      refine aw_seq ?_
      (refine aw_plan [] [] [0, 1, 2, 3, 4, 5, 6, 7] 8 1 (by kernel_rfl) (by kernel_rfl) (by kernel_rfl) (fun K hK => ?_)); simp only [sel, List.getElem?_cons_succ, List.getElem?_cons_zero, List.drop_succ_cons, List.drop_zero]; simp (disch := first | omega | (simp only [List.length_set, List.length_append, List.length_cons, List.length_nil, iv_length, zl_length]; try omega; done)) [-getElem?_pos, -getElem?_neg, hp, hhl, hst, hset, hsl, hs, hfl, hfs, PL_nil, PL_cons, PLc_val, PLc_new, stepP_t, stepP_f, stepPC_n, stepPC_s, stepPX_s, stepPX_n, stepPA_t, stepPA_c, stepPA_l, stepPN_s, allocOp, reloc_sl, reloc_ptr, List.map_cons, List.map_nil, List.nil_append, List.append_assoc, List.cons_append, Nat.add_assoc]
      refine hK _ _ ?_; clear hK K
      obtain ⟨X, hX⟩ : ∃ X, X = (some ⟨fc (D.late.set i t), 61, some 256⟩ : Option Blk) := ⟨_, rfl⟩
      obtain ⟨W, hW⟩ : ∃ W, W = (some ⟨.int .i64 (i : Nat) :: sv t, 63, none⟩ : Option Blk) := ⟨_, rfl⟩
      obtain ⟨B, hB⟩ : ∃ B, B = (some ⟨.int .i64 (i : Nat) :: sv t, 63, some 257⟩ : Option Blk) := ⟨_, rfl⟩
      obtain ⟨v2, H2, hap, hown, hlen2, hkeep⟩ := ownF_append (P := Try.prog) (nro := nro) (t := 57) (e := 63) (H := H'.set l X ++ [W, B]) (v := U) (x := .slice (some ⟨H'.length + 1, 0, none⟩) 1 1) (sz := 257)
        (cells := uc D.uns) (news := .int .i64 (i : Nat) :: sv t) (F := FU) (by simp) (by simp) (by omega) (by simp) (h.hu.low (fun j hj => by rw [hget_left (by rw [List.length_set]; exact hlt j hj), hget_set_ne (fun e : l = j => hfu.2.2 (by rw [e]; exact hj))]))
        (fun j hj => hn j (by simp [hj])) (fun s e => by cases e) (by simp [xcells, hB, hsl, hst, hga]) (by simp) (by simp [hs]) (by rw [uc_len (fun w hw => (ho.uns w hw).2)]; simp [hs]; omega) (by rw [uc_len (fun w hw => (ho.uns w hw).2)]; simp [hs, maxLen]; omega)
      have hgl : (H'.set l X ++ [W, B]).length = H'.length + 2 := by simp
      have hp2 : hget H2 p = some ⟨[.slice (some ⟨s, 0, none⟩) D.firm.length D.firm.length, .slice (some ⟨l, 0, none⟩) D.firm.length D.firm.length, U, .int .i64 D.fuse, .bool D.dead], 59, none⟩ := by
        rw [hkeep p (by omega) hfu.1, hget_left (by rw [List.length_set]; exact hpl), hget_set_ne (fun e => hpl2 e.symm)]; exact hp
      have hs2 : hget H2 s = some ⟨fc D.firm, 61, some 256⟩ := by
        rw [hkeep s (by omega) hfu.2.1, hget_left (by rw [List.length_set]; exact hss'), hget_set_ne (fun e => hsl2 e.symm)]; exact h.hs
      have hl2 : hget H2 l = some ⟨fc (D.late.set i t), 61, some 256⟩ := by
        rw [hkeep l (by omega) hfu.2.2, hget_left (by rw [List.length_set]; exact hll'), hget_set_eq hll', hX]
      have hpl3 : p < H2.length := by omega
      have hzr : setR (((List.range 257).map fun j => ((Value.int .i64 0 :: iv .u8 (zl 256))[j % 257]?).getD undef).set 0 (.int .i64 (i : Nat))) 1 (sv t) = .int .i64 (i : Nat) :: sv t := setR_all (List.map _ (List.range 257)) (.int .i64 (i : Nat) :: sv t) (by simp [hs])
      have hpln : ∀ x ∈ sv t, plain1 x = true := fun x hx => List.all_eq_true.1 (sv_plain t) x hx
      obtain ⟨len2, rfl⟩ := hown.new
      subst hX hW hB
      refine aw_seq ?_
      (refine aw_plan [] [0] [1, 2, 3, 4, 5, 6] 7 4 (by kernel_rfl) (by kernel_rfl) (by kernel_rfl) (fun K hK => ?_)); simp only [sel, List.getElem?_cons_succ, List.getElem?_cons_zero, List.drop_succ_cons, List.drop_zero]; simp (disch := first | omega | (simp only [List.length_set, List.length_append, List.length_cons, List.length_nil, iv_length, zl_length]; try omega; done)) [-getElem?_pos, -getElem?_neg, -xappend, hap, hp, hst, hsl, hs, hp2, hzr, hga, hga0, PL_nil, PL_cons, PLc_val, PLc_new, stepP_t, stepP_f, stepPC_n, stepPC_s, stepPX_s, stepPX_n, stepPA_t, stepPA_c, stepPA_l, stepPN_s, allocOp, reloc_sl, reloc_ptr, List.map_cons, List.map_nil, List.nil_append, List.append_assoc, List.cons_append, Nat.add_assoc]
      refine ⟨hpln, ?_⟩
      refine hK _ _ ?_; clear hK K
      rw [hgl] at hown
      have hp3 : p ∉ [H'.length + 2] := by rw [List.mem_singleton]; omega
      have hdk2 : Dk (H2.set p (some ⟨[.slice (some ⟨s, 0, none⟩) D.firm.length D.firm.length, .slice (some ⟨l, 0, none⟩) D.firm.length D.firm.length, .slice (some ⟨H'.length + 2, 0, none⟩) len2 len2, .int .i64 D.fuse, .bool false], 59, none⟩)) p (p :: s :: l :: [H'.length + 2]) (D.put (i : Nat) t) := by
        rw [hpt]
        refine ⟨⟨ho.one, ho.most, ho.rows, fun w hw => ?_, ho.fuse, by simp; omega⟩, s, l, .slice (some ⟨H'.length + 2, 0, none⟩) len2 len2, [H'.length + 2], rfl, ⟨by rw [hget_set_eq hpl3, hd], by rw [hget_set_ne hps]; exact hs2, ?_, ?_, hps, hpl2, hsl2, hp3, by rw [List.mem_singleton]; omega, by rw [List.mem_singleton]; omega⟩⟩
        · rcases List.mem_append.1 hw with hw | hw
          · exact ho.uns w hw
          · rw [List.mem_singleton] at hw; subst hw; exact ⟨hi, hs⟩
        · rw [hget_set_ne hpl2, hl2]
          unfold DM.late
          rw [late_app]
        · have := hown.low (H' := H2.set p (some ⟨[.slice (some ⟨s, 0, none⟩) D.firm.length D.firm.length, .slice (some ⟨l, 0, none⟩) D.firm.length D.firm.length, .slice (some ⟨H'.length + 2, 0, none⟩) len2 len2, .int .i64 D.fuse, .bool false], 59, none⟩)) (fun j hj => hget_set_ne (fun e => hp3 (e ▸ hj)))
          have e := uc_app D.uns (i, t)
          simp only at e
          rwa [e] at this
      have hfr2 : Fr H' (H2.set p (some ⟨[.slice (some ⟨s, 0, none⟩) D.firm.length D.firm.length, .slice (some ⟨l, 0, none⟩) D.firm.length D.firm.length, .slice (some ⟨H'.length + 2, 0, none⟩) len2 len2, .int .i64 D.fuse, .bool false], 59, none⟩)) (p :: s :: l :: FU) (p :: s :: l :: [H'.length + 2]) := by
        refine ⟨by simp; omega, fun j hj hnj => ?_, fun j hj => ?_⟩
        · simp only [List.mem_cons, not_or] at hnj
          rw [hget_set_ne (fun e => hnj.1 e.symm), hkeep j (by omega) hnj.2.2.2, hget_left (by rw [List.length_set]; exact hj), hget_set_ne (fun e => hnj.2.2.1 e.symm)]
        · simp only [List.mem_cons, List.not_mem_nil, or_false] at hj ⊢
          rcases hj with h1 | h1 | h1 | h1
          · exact .inl (.inl h1)
          · exact .inl (.inr (.inl h1))
          · exact .inl (.inr (.inr (.inl h1)))
          · right; omega
      have hbn := burn_ac (nro := nro) (γ := γ) hdk2 hnp
      refine aw_seq ?_
      refine aw_ops (by kernel_rfl) (fun K hK => ?_)
      rw [hd]
      simp (disch := first | omega | (simp only [List.length_set, List.length_append, List.length_cons, List.length_nil, iv_length, zl_length]; try omega; done)) [-getElem?_pos, -getElem?_neg]
      refine ⟨by kernel_rfl, hbn.mono ?_⟩
      rintro v H3 ⟨rfl, hdk3, hfr3⟩
      try simp (disch := first | omega | (simp only [List.length_set, List.length_append, List.length_cons, List.length_nil, iv_length, zl_length]; try omega; done)) [-getElem?_pos, -getElem?_neg]
      refine hK _ _ ?_; clear hK K
      (refine aw_ret ?_; simp (disch := first | omega | (simp only [List.length_set, List.length_append, List.length_cons, List.length_nil, iv_length, zl_length]; try omega; done)) [-getElem?_pos, -getElem?_neg, thenQ_ret, inBlockQ_ret, RQ, resL, resV, hww, hwd])
      exact ⟨_, hdk3, hfr2.trans hfr3⟩
end
end Go.Proofs.Ytadbgdhbamdiaaa
