/-
  WireBack, walked.
-/
import Derived.Test.YtpdijcaikjobiaaWz
import Derived.Test.YtpdijcaikjobiaaRdD
import Derived.Test.YtpdijcaikjobiaaXot
namespace Go.Proofs.Ytpdijcaikjobiaa
open Go Go.RowKit
set_option linter.unusedVariables false
set_option linter.unusedSimpArgs false
set_option maxRecDepth 100000
set_option maxHeartbeats 4000000
theorem SlV.cellJ {P : Program} {H : AH} {v : Value} {cells : List Value} {t e : TypeId} (h : SlV H v cells) (ht : und P t = .slice e) (hs : szt P e = 1) (hd : isAggD (und P e) = false) (ho : okD (und P e) = true) {i : Nat} {x : Value} (hi : cells[i]? = some x) :
    ∃ j o, j < H.length ∧ xindexAddr P t v (.int .i64 (i : Nat)) = some (.pointer (some ⟨j, o, none⟩)) ∧ ∀ G : AH, hget G j = hget H j → xload P e (.pointer (some ⟨j, o, none⟩)) G = some x := by
  rcases h with ⟨a, rfl, rfl⟩ | ⟨j, off, b, rfl, hb, hc⟩
  · simp at hi
  · have hl := (List.getElem?_eq_some_iff.1 hi).1
    refine ⟨j, off + i, hget_lt hb, ?_, fun G hG => ?_⟩
    · unfold xindexAddr
      simp only [ht, hs]
      rw [if_pos ⟨by omega, by omega, by omega⟩]
      simp
    · unfold xload
      simp only [hG, hb, hd, ho]
      simpa using hc i _ hi
theorem SlK.atJ {P : Program} {sz : Nat} {kd : IntKind} {H : AH} {v : Value} {ks : List (List Int)} {t e : TypeId} (h : SlK sz kd H v ks) (ht : und P t = .slice e) (hs : szt P e = sz) (h0 : 0 < sz) (hd : isAggD (und P e) = true) {i : Nat} {key : List Int} (hi : ks[i]? = some key) :
    ∃ j o, j < H.length ∧ xindexAddr P t v (.int .i64 (i : Nat)) = some (.pointer (some ⟨j, o, none⟩)) ∧ ∀ G : AH, hget G j = hget H j → xload P e (.pointer (some ⟨j, o, none⟩)) G = some (.agg (iv kd key).toArray) := by
  have hil : i < ks.length := (List.getElem?_eq_some_iff.1 hi).1
  rcases h with ⟨a, rfl, rfl⟩ | ⟨j, b, rfl, hb, hc, hk⟩
  · simp at hi
  · refine ⟨j, i * sz, hget_lt hb, ?_, fun G hG => ?_⟩
    · unfold xindexAddr
      simp only [ht, hs]
      rw [if_pos ⟨by omega, by omega, h0⟩]
      simp
    · unfold xload
      have h2 : i * sz + sz ≤ b.cells.length := by
        have : (i + 1) * sz ≤ ks.length * sz := Nat.mul_le_mul_right _ hil
        rw [Nat.add_mul] at this
        omega
      simp only [hG, hb, hd, hs, if_true]
      rw [if_pos ⟨h0, h2⟩, hk i key hi]
/-- One item, with where its lists lie. -/
theorem item_at2 {H : AH} {xs : List ItD} {v : Value} (hv : CD.Val H (.sl (xs.map ItD.row)) v) {i : Nat} {x : ItD} (hx : xs[i]? = some x) (hwx : x.Wf) (hs5 : szt Try.prog 33 = 5) (hag : isAggD (und Try.prog 33) = true) (hsl : und Try.prog 22 = .slice 33) :
    ∃ nv kv pp, xindexAddr Try.prog 22 v (.int .i64 (i : Nat)) = some pp ∧ notTuple pp = true ∧ SlV H nv (iv .u32 x.ns) ∧ SlK 32 .u8 H kv x.ks ∧ ∀ {G : AH}, Same0 H G → xload Try.prog 33 pp G = some (x.it nv kv).val := by
  obtain ⟨j, b, us, hvj, hb, hbl, hxa, hus, hul, hle, hcell, hval⟩ := val_at (P := Try.prog) (t := 22) (e := 33) (sz := 5) hv hsl hs5 (by omega) (fun row hr => by
    obtain ⟨y, _, rfl⟩ := List.mem_map.1 hr; rfl) (i := i) (row := x.row) (by rw [List.getElem?_map, hx]; rfl)
  obtain ⟨nv, kv, e, hsn, hsk⟩ := item_val hval
  refine ⟨nv, kv, _, hxa, rfl, hsn, val_keys hwx.ks hsk, fun {G} hs => ?_⟩
  have := load_at (P := Try.prog) (e := 33) (i := i) ((hs.2 j (hget_lt hb)).trans hb) hs5 (by omega) hag hus hle
  rw [this, e]
  rfl
theorem allB_by {xs : List ItD} (h : ∀ x ∈ xs, x.Wf) : By (allB xs) := fun y hy => by
  obtain ⟨x, hx, hy⟩ := List.mem_flatMap.1 hy
  exact bytes_by (h x hx) y hy
theorem allB_drop {xs : List ItD} {i : Nat} {x : ItD} (h : xs[i]? = some x) : allB (xs.drop i) = x.bytes ++ allB (xs.drop (i + 1)) := by
  obtain ⟨hi, rfl⟩ := List.getElem?_eq_some_iff.1 h
  unfold allB
  rw [List.drop_eq_getElem_cons hi, List.flatMap_cons]
theorem By.app_r {a b : List Int} (h : By (a ++ b)) : By b := fun y hy => h y (List.mem_append_right _ hy)
attribute [local simp] wb_bool wb_undef XL_nil XL_cons XLc_val XLc_call step1_eq stepW_t stepW_f stepC_n stepC_s stepX_s stepX_n stepN_s calleeX oneV xop_eq xopR_s xopR_n wantedA_eq wantedG_n wantedG_s plain1_int plain1_bool plain1_string bits_i64 bits_u64 bits_u32 bits_u16 bits_u8 xeqA xarr allK_iv num_iv calleeOf xread xeff xbin xint xnil xun xstr xload xconv xpart xfield xfieldAddr xindexAddr xindex bnd asInt? xslice xlen xmin xmax xbuild xfill xappend xapp2 xappstr xappmk xcap xcopy xcells eval_tmp eval_const put_at put_none fr0_at cells_agg cells_int cells_bool cells_string cells_ptr cells_slice notTuple tab iv_all hget_app hget_app0 hget_cons0 hget_cons set_app set_app0 setR setR_one QL_nil QL_cons QLc_val stepQ_t stepQ_f stepQC_n stepQC_s stepQX_s SL_nil SL_cons SLc_val stepS_t stepS_f ltT ltF leT leF eqT eqF ltTn ltFn leTn leFn eqTn eqFn beqT beqF bneT bneF wi64 wu64 wu32 wu16 wu8 tmodP tdivP hgetL hgetNe hgetEq setL nums_def nums_len Nat.succ_le_of_lt List.getElem?_cons_zero List.getElem?_cons_succ Option.getD_some Int.toNat_add Int.toNat_mul agB agI agS agP agL agA okB okI okS okP okSl okA
theorem back_law {H : AH} {γ : Nat → Option Nat} {ds : List CD} {v : Value} (hok : OkL [CK.sl itK] ds) (hvl : ValL H ds [v]) :
    AC Try.prog H.length γ 4 #[v] H (fun v' H' => v' = .bool true) := by
  obtain ⟨xs, rfl, hw, hm⟩ := items_of hok
  have hv : CD.Val H (.sl (xs.map ItD.row)) v := hvl.2 0 _ _ rfl rfl
  obtain ⟨hnt, hvc⟩ := val_nt hv
  have hxl := val_len (P := Try.prog) (t := 22) (e := 33) hv (by simp)
  rw [List.length_map] at hxl
  simp only [maxLen] at hm
  refine ac_of_aw Try.func4 rfl Try.ntmps4 Try.results4 (by simp) ?_
  refine aw_seq ?_
  (refine aw_ops (by kernel_rfl) (fun K hK => ?_); simp (disch := first | omega | (simp only [List.length_set, List.length_append, List.length_cons, List.length_nil, iv_length, zl_length]; try omega; done)) [-getElem?_pos, -getElem?_neg]; refine hK _ _ ?_; clear hK K)
  refine aw_seq ?_
  refine aw_seq ?_
  refine aw_ops (by kernel_rfl) (fun K hK => ?_)
  simp (disch := first | omega | (simp only [List.length_set, List.length_append, List.length_cons, List.length_nil, iv_length, zl_length]; try omega; done)) [-getElem?_pos, -getElem?_neg]
  refine ⟨by kernel_rfl, (alive_ac (Nat.le_refl _)).mono ?_⟩
  rintro v1 G1 ⟨rfl, s1⟩
  try simp (disch := first | omega | (simp only [List.length_set, List.length_append, List.length_cons, List.length_nil, iv_length, zl_length]; try omega; done)) [-getElem?_pos, -getElem?_neg]
  refine hK _ _ ?_; clear hK K
  refine aw_f (by (first | (simp [eval_tmp, put_at]; done) | (simp [eval_tmp, put_at]; omega))) (by kernel_rfl) ?_
  refine aw_skip ?_
  refine aw_seq ?_
  refine aw_seq ?_
  refine aw_ops (by kernel_rfl) (fun K hK => ?_)
  simp (disch := first | omega | (simp only [List.length_set, List.length_append, List.length_cons, List.length_nil, iv_length, zl_length]; try omega; done)) [-getElem?_pos, -getElem?_neg]
  refine ⟨by kernel_rfl, (great_ac (hv.low s1.2) hm hw).mono ?_⟩
  rintro v2 G2 ⟨rfl, rfl⟩
  try simp (disch := first | omega | (simp only [List.length_set, List.length_append, List.length_cons, List.length_nil, iv_length, zl_length]; try omega; done)) [-getElem?_pos, -getElem?_neg]
  refine hK _ _ ?_; clear hK K
  cases hg : greatB xs with
  | true =>
    refine aw_t (by (first | (simp [eval_tmp, put_at]; done) | (simp [eval_tmp, put_at]; omega))) (by kernel_rfl) ?_
    refine aw_seq ?_
    refine aw_ops (by kernel_rfl) (fun K hK => ?_)
    simp (disch := first | omega | (simp only [List.length_set, List.length_append, List.length_cons, List.length_nil, iv_length, zl_length]; try omega; done)) [-getElem?_pos, -getElem?_neg]
    refine ⟨by kernel_rfl, (alive_ac s1.1).mono ?_⟩
    rintro v3 G3 ⟨rfl, s3⟩
    try simp (disch := first | omega | (simp only [List.length_set, List.length_append, List.length_cons, List.length_nil, iv_length, zl_length]; try omega; done)) [-getElem?_pos, -getElem?_neg]
    refine hK _ _ ?_; clear hK K
    (refine aw_ret ?_; simp (disch := first | omega | (simp only [List.length_set, List.length_append, List.length_cons, List.length_nil, iv_length, zl_length]; try omega; done)) [-getElem?_pos, -getElem?_neg, thenQ_ret, scopeQ_ret, inBlockQ_ret, RQ, resL, resV])
  | false =>
    obtain ⟨hl20, hgx⟩ := not_great hg
    have hall := allB_len (xs := xs) (fun y hy => ok_it (hw y hy) (hgx y hy) _ _)
    refine aw_f (by (first | (simp [eval_tmp, put_at]; done) | (simp [eval_tmp, put_at]; omega))) (by kernel_rfl) ?_
    refine aw_skip ?_
    refine aw_seq ?_
    (refine aw_ops (by kernel_rfl) (fun K hK => ?_); simp (disch := first | omega | (simp only [List.length_set, List.length_append, List.length_cons, List.length_nil, iv_length, zl_length]; try omega; done)) [-getElem?_pos, -getElem?_neg]; refine hK _ _ ?_; clear hK K)
    have hw0 := wr_new (H := G2) rfl
    obtain ⟨G0, hG0⟩ : ∃ G0, G0 = G2 ++ [some ⟨[.slice none 0 0], 27, none⟩] := ⟨_, rfl⟩
    rw [← hG0] at hw0 ⊢
    have s0 : Same0 H G0 := by rw [hG0]; exact s1.trans (.app _ _)
    obtain ⟨w, hww⟩ : ∃ w, w = G2.length := ⟨_, rfl⟩
    rw [← hww] at hw0 ⊢
    have hwl : H.length ≤ w := by rw [hww]; exact s1.1
    refine aw_seq ?_
    refine aw_seq ?_
    (refine aw_ops (by kernel_rfl) (fun K hK => ?_); simp (disch := first | omega | (simp only [List.length_set, List.length_append, List.length_cons, List.length_nil, iv_length, zl_length]; try omega; done)) [-getElem?_pos, -getElem?_neg]; refine hK _ _ ?_; clear hK K)
    refine aw_cut (fun α G => Same0 H G ∧ α 3 = .pointer (some ⟨w, 0, none⟩) ∧ α 0 = v ∧ ∃ F, Wr G w F (allB xs)) ?_ ?_
    · refine aw_block ?_
      refine aw_loop (fun c α G => ∃ i : Nat, i + c = xs.length ∧ α 4 = .int .i64 (i : Nat) ∧ α 0 = v ∧ α 3 = .pointer (some ⟨w, 0, none⟩) ∧ Same0 H G ∧ ∃ F, Wr G w F (allB (xs.take i)) ∧ ∀ j ∈ F, H.length ≤ j) xs.length ?_ ?_
      · exact ⟨0, by omega, by (first | (simp [put_at, put_none, fr0_at]; done) | rfl), by (first | (simp [put_at, put_none, fr0_at]; done) | rfl), by (first | (simp [put_at, put_none, fr0_at]; done) | rfl), s0, [w], by simpa [allB] using hw0, by simp; omega⟩
      rintro c α G ⟨i, hic, h4, h0, h3, sG, F, hwr, hF⟩
      refine aw_seq ?_
      refine aw_seq ?_
      (refine aw_ops (by kernel_rfl) (fun K hK => ?_); simp (disch := first | omega | (simp only [List.length_set, List.length_append, List.length_cons, List.length_nil, iv_length, zl_length]; try omega; done)) [-getElem?_pos, -getElem?_neg, h4, h0, -xlen, hxl]; refine hK _ _ ?_; clear hK K)
      by_cases hi : i < xs.length
      case neg =>
        refine aw_f (by (first | (simp [eval_tmp, put_at, hi]; done) | (simp [eval_tmp, put_at, hi]; omega))) (by kernel_rfl) ?_
        refine aw_exit ?_
        obtain rfl : i = xs.length := by omega
        rw [List.take_length] at hwr
        exact ⟨sG, by (first | (simp [put_at, put_none, fr0_at, h3]; done) | rfl), by (first | (simp [put_at, put_none, fr0_at, h0]; done) | rfl), F, hwr⟩
      refine aw_t (by (first | (simp [eval_tmp, put_at, hi]; done) | (simp [eval_tmp, put_at, hi]; omega))) (by kernel_rfl) ?_
      refine aw_skip ?_
      refine aw_seq ?_
      refine aw_block ?_
      obtain ⟨x, hx⟩ : ∃ x, xs[i]? = some x := ⟨_, List.getElem?_eq_getElem hi⟩
      have hmx := List.mem_of_getElem? hx
      obtain ⟨nv, kv, pp, hpa, hpn, hat⟩ := item_at hv hx (hw x hmx)
      obtain ⟨hpl, hits⟩ := hat sG hF
      have hvn : notTuple (x.it nv kv).val = true := rfl
      have hok1 := ok_it (hw x hmx) (hgx x hmx) nv kv
      have hlen := allB_len (xs := xs.take i) (fun y hy => ok_it (hw y (List.mem_of_mem_take hy)) (hgx y (List.mem_of_mem_take hy)) _ _)
      rw [List.length_take] at hlen
      obtain ⟨xv, hxv⟩ : ∃ xv, xv = (x.it nv kv).val := ⟨_, rfl⟩
      rw [← hxv] at hpl hvn
      refine aw_ops (by kernel_rfl) (fun K hK => ?_)
      simp (disch := first | omega | (simp only [List.length_set, List.length_append, List.length_cons, List.length_nil, iv_length, zl_length]; try omega; done)) [-getElem?_pos, -getElem?_neg, h4, h0, h3, -xindexAddr, hpa, -xload, hpl, hpn]
      have hwa := write_ac (γ := γ) (nro := H.length) hwr hF sG.1 hits hok1 (by omega)
      rw [← hxv, x.bytes_eq] at hwa
      refine ⟨by kernel_rfl, hwa.mono ?_⟩
      rintro v1 H1 ⟨rfl, F1, hwr1, hf1⟩
      try simp (disch := first | omega | (simp only [List.length_set, List.length_append, List.length_cons, List.length_nil, iv_length, zl_length]; try omega; done)) [-getElem?_pos, -getElem?_neg]
      refine hK _ _ ?_; clear hK K
      rw [← allB_next hx] at hwr1
      (refine aw_ops (by kernel_rfl) (fun K hK => ?_); simp (disch := first | omega | (simp only [List.length_set, List.length_append, List.length_cons, List.length_nil, iv_length, zl_length]; try omega; done)) [-getElem?_pos, -getElem?_neg, h4]; refine hK _ _ ?_; clear hK K)
      refine ⟨c - 1, by omega, i + 1, by omega, by (first | (simp [put_at, put_none, fr0_at]; done) | rfl), by (first | (simp [put_at, put_none, fr0_at, h0]; done) | rfl), by (first | (simp [put_at, put_none, fr0_at, h3]; done) | rfl), sG.fr hf1 hF, F1, hwr1, fun j hj => ?_⟩
      rcases hf1.new j hj with h | h
      · exact hF j h
      · have := sG.1; omega
    clear hw0 s0 hG0
    rintro α G ⟨sG, h3, h0, F, hwr⟩
    refine aw_seq ?_
    refine aw_ops (by kernel_rfl) (fun K hK => ?_)
    simp (disch := first | omega | (simp only [List.length_set, List.length_append, List.length_cons, List.length_nil, iv_length, zl_length]; try omega; done)) [-getElem?_pos, -getElem?_neg, h3]
    refine ⟨by kernel_rfl, (wstring_ac hwr).mono ?_⟩
    rintro v5 G5 ⟨rfl, rfl⟩
    try simp (disch := first | omega | (simp only [List.length_set, List.length_append, List.length_cons, List.length_nil, iv_length, zl_length]; try omega; done)) [-getElem?_pos, -getElem?_neg]
    refine ⟨by kernel_rfl, newreader_ac.mono ?_⟩
    rintro v6 G6 ⟨rfl, rfl⟩
    try simp (disch := first | omega | (simp only [List.length_set, List.length_append, List.length_cons, List.length_nil, iv_length, zl_length]; try omega; done)) [-getElem?_pos, -getElem?_neg]
    refine hK _ _ ?_; clear hK K
    obtain ⟨p, hp⟩ : ∃ p, p = G5.length := ⟨_, rfl⟩
    rw [← hp]
    have hr0 : hget (G5 ++ [some (rdC (allB xs) 0)]) p = some (rdC (allB xs) 0) := by rw [hp, hget_app0]; rfl
    have s6 : Same0 H (G5 ++ [some (rdC (allB xs) 0)]) := sG.trans (.app _ _)
    have hHp : H.length ≤ p := by rw [hp]; exact sG.1
    generalize G5 ++ [some (rdC (allB xs) 0)] = G6 at hr0 s6 ⊢
    clear hp sG hwr
    refine aw_seq ?_
    refine aw_seq ?_
    (refine aw_ops (by kernel_rfl) (fun K hK => ?_); simp (disch := first | omega | (simp only [List.length_set, List.length_append, List.length_cons, List.length_nil, iv_length, zl_length]; try omega; done)) [-getElem?_pos, -getElem?_neg]; refine hK _ _ ?_; clear hK K)
    refine aw_cut (fun α G => Same0 H G ∧ α 5 = .pointer (some ⟨p, 0, none⟩) ∧ hget G p = some (rdC [] 0)) ?_ ?_
    case refine_2 =>
      rintro α G ⟨sG, h5, hrd⟩
      refine aw_seq ?_
      refine aw_ops (by kernel_rfl) (fun K hK => ?_)
      simp (disch := first | omega | (simp only [List.length_set, List.length_append, List.length_cons, List.length_nil, iv_length, zl_length]; try omega; done)) [-getElem?_pos, -getElem?_neg]
      refine ⟨by kernel_rfl, (alive_ac sG.1).mono ?_⟩
      rintro v3 G3 ⟨rfl, s3⟩
      try simp (disch := first | omega | (simp only [List.length_set, List.length_append, List.length_cons, List.length_nil, iv_length, zl_length]; try omega; done)) [-getElem?_pos, -getElem?_neg, h5]
      have hrd3 := (s3.2 p (hget_lt hrd)).trans hrd
      refine ⟨by kernel_rfl, (end_ac hrd3).mono ?_⟩
      rintro v4 G4 ⟨rfl, rfl⟩
      try simp (disch := first | omega | (simp only [List.length_set, List.length_append, List.length_cons, List.length_nil, iv_length, zl_length]; try omega; done)) [-getElem?_pos, -getElem?_neg, h5]
      refine ⟨by kernel_rfl, (left_ac hrd3 (by simp)).mono ?_⟩
      rintro v5 G5 ⟨rfl, rfl⟩
      try simp (disch := first | omega | (simp only [List.length_set, List.length_append, List.length_cons, List.length_nil, iv_length, zl_length]; try omega; done)) [-getElem?_pos, -getElem?_neg]
      refine hK _ _ ?_; clear hK K
      (refine aw_ret ?_; simp (disch := first | omega | (simp only [List.length_set, List.length_append, List.length_cons, List.length_nil, iv_length, zl_length]; try omega; done)) [-getElem?_pos, -getElem?_neg, thenQ_ret, scopeQ_ret, inBlockQ_ret, RQ, resL, resV])
    refine aw_block ?_
    refine aw_loop (fun c α G => ∃ i : Nat, i + c = xs.length ∧ α 6 = .int .i64 (i : Nat) ∧ α 0 = v ∧ α 5 = .pointer (some ⟨p, 0, none⟩) ∧ Same0 H G ∧ hget G p = some (rdC (allB (xs.drop i)) 0)) xs.length ?_ ?_
    · exact ⟨0, by omega, by (first | (simp [put_at, put_none, fr0_at]; done) | rfl), by (first | (simp [put_at, put_none, fr0_at, h0]; done) | rfl), by (first | (simp [put_at, put_none, fr0_at]; done) | rfl), s6, by simpa using hr0⟩
    clear h3 h0 hr0 s6
    rintro c α G ⟨i, hic, h6, h0, h5, sG, hrd⟩
    refine aw_seq ?_
    refine aw_seq ?_
    (refine aw_ops (by kernel_rfl) (fun K hK => ?_); simp (disch := first | omega | (simp only [List.length_set, List.length_append, List.length_cons, List.length_nil, iv_length, zl_length]; try omega; done)) [-getElem?_pos, -getElem?_neg, h6, h0, -xlen, hxl]; refine hK _ _ ?_; clear hK K)
    by_cases hi : i < xs.length
    case neg =>
      refine aw_f (by (first | (simp [eval_tmp, put_at, hi]; done) | (simp [eval_tmp, put_at, hi]; omega))) (by kernel_rfl) ?_
      refine aw_exit ?_
      obtain rfl : i = xs.length := by omega
      rw [List.drop_length] at hrd
      exact ⟨sG, by (first | (simp [put_at, put_none, fr0_at, h5]; done) | rfl), hrd⟩
    refine aw_t (by (first | (simp [eval_tmp, put_at, hi]; done) | (simp [eval_tmp, put_at, hi]; omega))) (by kernel_rfl) ?_
    refine aw_skip ?_
    obtain ⟨x, hx⟩ : ∃ x, xs[i]? = some x := ⟨_, List.getElem?_eq_getElem hi⟩
    have hmx := List.mem_of_getElem? hx
    have hwx := hw x hmx
    have hgx1 := hgx x hmx
    obtain ⟨nv, kv, pp, hpa, hpn, hsn, hkk, hpl⟩ := item_at2 hv hx hwx (by simp) (by simp) (by simp)
    have hpl := hpl sG
    have hby := allB_by (xs := xs.drop i) (fun y hy => hw y (List.mem_of_mem_drop hy))
    have hlen := allB_len (xs := xs.drop i) (fun y hy => ok_it (hw y (List.mem_of_mem_drop hy)) (hgx y (List.mem_of_mem_drop hy)) _ _)
    rw [List.length_drop] at hlen
    rw [allB_drop hx] at hrd hby hlen
    obtain ⟨R, hR⟩ : ∃ R, R = allB (xs.drop (i + 1)) := ⟨_, rfl⟩
    rw [← hR] at hrd hby hlen
    refine aw_seq ?_
    refine aw_cut (fun α G => α 6 = .int .i64 (i : Nat) ∧ α 0 = v ∧ α 5 = .pointer (some ⟨p, 0, none⟩) ∧ Same0 H G ∧ hget G p = some (rdC R 0)) ?_ ?_
    case refine_2 =>
      rintro α G ⟨h6, h0, h5, sG, hrd⟩
      (refine aw_ops (by kernel_rfl) (fun K hK => ?_); simp (disch := first | omega | (simp only [List.length_set, List.length_append, List.length_cons, List.length_nil, iv_length, zl_length]; try omega; done)) [-getElem?_pos, -getElem?_neg, h6]; refine hK _ _ ?_; clear hK K)
      exact ⟨c - 1, by omega, i + 1, by omega, by (first | (simp [put_at, put_none, fr0_at]; done) | rfl), by (first | (simp [put_at, put_none, fr0_at, h0]; done) | rfl), by (first | (simp [put_at, put_none, fr0_at, h5]; done) | rfl), sG, by rw [← hR]; exact hrd⟩
    obtain ⟨us, hus⟩ : ∃ us, us = (x.it nv kv).cells := ⟨_, rfl⟩
    have hul : us.length = 5 := by rw [hus]; rfl
    have c0 : us[0]? = some (.int .i64 x.kind) := by rw [hus]; rfl
    have c2 : us[2]? = some nv := by rw [hus]; rfl
    have c3 : us[3]? = some (.string x.tx) := by rw [hus]; rfl
    have c4 : us[4]? = some kv := by rw [hus]; rfl
    have hit : (x.it nv kv).val = .agg us.toArray := by rw [hus]; rfl
    have htk : us.take 5 = us := List.take_of_length_le (by omega)
    have hagg : notTuple (.agg us.toArray) = true := rfl
    rw [hit] at hpl
    clear hus hit
    obtain ⟨hnn, hnc⟩ := nt_of hsn
    obtain ⟨hkn, hkc⟩ := ntk_of hkk
    obtain ⟨k5, hk5⟩ : ∃ k5, k5 = x.kind.tmod 5 := ⟨_, rfl⟩
    have hYl : x.bytes = if k5 = 0 then numsB x.ns else if k5 = 1 then textB x.tx ++ textB x.tx else if k5 = 2 then x.ks.flatten else if k5 = 3 then numB x.ks.length ++ x.ks.flatten else if k5 = 4 then numB x.ns.length ++ numsB x.ns else [] := by
      rw [hk5]; rfl
    refine aw_block ?_
    refine aw_seq ?_
    have hp1 : plain1 (.slice none 0 0) = true := rfl
    have hfi : setR [Value.int IntKind.i64 0, Value.int IntKind.i64 0, Value.slice none 0 0, Value.string ByteArray.empty, Value.slice none 0 0] 0 us = us := setR_all _ _ (by simp [hul])
    have hnl := sG.1
    (refine aw_ops (by kernel_rfl) (fun K hK => ?_); simp (disch := first | omega | (simp only [List.length_set, List.length_append, List.length_cons, List.length_nil, iv_length, zl_length]; try omega; done)) [-getElem?_pos, -getElem?_neg, h0, h6, -xindexAddr, hpa, -xload, hpl, hpn, hagg, hp1, hul, hfi, hnl]; refine hK _ _ ?_; clear hK K)
    obtain ⟨m, hme⟩ : ∃ m, m = G.length := ⟨_, rfl⟩
    have hm0 : hget (G ++ [some ⟨us, 33, none⟩]) m = some ⟨us, 33, none⟩ := by rw [hme, hget_app0]; rfl
    have hr0 := hget_left' (L := [some ⟨us, 33, none⟩]) hrd
    have s0 : Same0 H (G ++ [some ⟨us, 33, none⟩]) := sG.trans (.app _ _)
    have hpm : p < m := by rw [hme]; exact hget_lt hrd
    rw [← hme]
    generalize G ++ [some ⟨us, 33, none⟩] = G0 at hm0 hr0 s0 ⊢
    clear hme hrd sG hpl hnl
    refine aw_seq ?_
    (refine aw_ops (by kernel_rfl) (fun K hK => ?_); simp (disch := first | omega | (simp only [List.length_set, List.length_append, List.length_cons, List.length_nil, iv_length, zl_length]; try omega; done)) [-getElem?_pos, -getElem?_neg, hm0, hul, c0, ← hk5]; refine hK _ _ ?_; clear hK K)
    refine aw_block ?_
    refine aw_seq ?_
    have hl6 : (x.bytes ++ R).length ≤ 1000000 := by omega
    have keep : ∀ {G' : AH} {y : Option Blk}, hget G' m = some ⟨us, 33, none⟩ → Same0 H G' → hget (G'.set p y) m = some ⟨us, 33, none⟩ ∧ Same0 H (G'.set p y) := fun h s => ⟨(hget_set_ne (by omega)).trans h, s.set hHp _⟩
    by_cases q0 : k5 = 0
    · subst q0
      rw [if_pos rfl] at hYl
      (refine aw_ops (by kernel_rfl) (fun K hK => ?_); simp (disch := first | omega | (simp only [List.length_set, List.length_append, List.length_cons, List.length_nil, iv_length, zl_length]; try omega; done)) [-getElem?_pos, -getElem?_neg]; refine hK _ _ ?_; clear hK K)
      refine aw_t (by (first | (simp [eval_tmp, put_at]; done) | (simp [eval_tmp, put_at]; omega))) (by kernel_rfl) ?_
      obtain ⟨ms, hms, hmb⟩ := nat_ints hwx.ns
      rw [hms, numsB_nat] at hYl
      have hm60 : ms.length ≤ 60 := by have := hgx1.2.1; rw [hms, List.length_map] at this; exact this
      refine aw_seq ?_
      (refine aw_ops (by kernel_rfl) (fun K hK => ?_); simp (disch := first | omega | (simp only [List.length_set, List.length_append, List.length_cons, List.length_nil, iv_length, zl_length]; try omega; done)) [-getElem?_pos, -getElem?_neg]; refine hK _ _ ?_; clear hK K)
      refine aw_block ?_
      refine aw_loop (fun c α G' => ∃ k : Nat, k + c = ms.length ∧ α 8 = .int .i64 (k : Nat) ∧ α 7 = .pointer (some ⟨m, 0, none⟩) ∧ α 6 = .int .i64 (i : Nat) ∧ α 0 = v ∧ α 5 = .pointer (some ⟨p, 0, none⟩) ∧ Same0 H G' ∧ hget G' m = some ⟨us, 33, none⟩ ∧ hget G' p = some (rdC ((ms.drop k).flatMap numB ++ R) 0) ∧ By ((ms.drop k).flatMap numB ++ R) ∧ ((ms.drop k).flatMap numB ++ R).length ≤ 1000000) ms.length ?_ ?_
      · refine ⟨0, by omega, by (first | (simp [put_at, put_none, fr0_at]; done) | rfl), by (first | (simp [put_at, put_none, fr0_at]; done) | rfl), by (first | (simp [put_at, put_none, fr0_at, h6]; done) | rfl), by (first | (simp [put_at, put_none, fr0_at, h0]; done) | rfl), by (first | (simp [put_at, put_none, fr0_at, h5]; done) | rfl), s0, hm0, ?_, ?_, ?_⟩
        · rw [List.drop_zero, ← hYl]; exact hr0
        · rw [List.drop_zero, ← hYl]; exact hby
        · rw [List.drop_zero, ← hYl]; exact hl6
      clear h6 h0 h5 s0 hm0 hr0 hby hl6
      rintro c1 α G1 ⟨k, hkc1, h8, h7, h6, h0, h5, s1, hm1, hr1, hb1, hl1⟩
      have hpl2 : xload Try.prog 30 (.pointer (some ⟨m, 2, none⟩)) G1 = some nv := by
        simp [xload, hm1, c2, hul, -getElem?_pos]
      have hxl2 := hsn.len (P := Try.prog) (t := 30) (e := 37) (by simp)
      rw [iv_length, hms, List.length_map] at hxl2
      refine aw_seq ?_
      refine aw_seq ?_
      (refine aw_ops (by kernel_rfl) (fun K hK => ?_); simp (disch := first | omega | (simp only [List.length_set, List.length_append, List.length_cons, List.length_nil, iv_length, zl_length]; try omega; done)) [-getElem?_pos, -getElem?_neg, h8, h7, -xload, hpl2, -xlen, hxl2]; refine hK _ _ ?_; clear hK K)
      by_cases hk : k < ms.length
      case neg =>
        refine aw_f (by (first | (simp [eval_tmp, put_at, hk]; done) | (simp [eval_tmp, put_at, hk]; omega))) (by kernel_rfl) ?_
        refine aw_exit ?_
        rw [List.drop_of_length_le (by omega)] at hr1
        exact ⟨by (first | (simp [put_at, put_none, fr0_at, h6]; done) | rfl), by (first | (simp [put_at, put_none, fr0_at, h0]; done) | rfl), by (first | (simp [put_at, put_none, fr0_at, h5]; done) | rfl), s1, hr1⟩
      refine aw_t (by (first | (simp [eval_tmp, put_at, hk]; done) | (simp [eval_tmp, put_at, hk]; omega))) (by kernel_rfl) ?_
      refine aw_skip ?_
      refine aw_seq ?_
      refine aw_block ?_
      refine aw_seq ?_
      obtain ⟨j, o, hj, hpx, hlx0⟩ := hsn.cellJ (P := Try.prog) (t := 30) (e := 37) (by simp) (by simp) (by simp) (by simp) (i := k) (x := .int .u32 (ms[k] : Nat)) (by rw [hms]; simp [iv, List.getElem?_eq_getElem hk])
      have hlx := hlx0 G1 (s1.2 j hj)
      have hmk := hmb _ (List.getElem_mem hk)
      obtain ⟨n, hn⟩ : ∃ n, n = ms[k] := ⟨_, rfl⟩
      rw [List.drop_eq_getElem_cons hk, List.flatMap_cons, ← hn, List.append_assoc] at hr1 hb1 hl1
      rw [← hn] at hlx hmk
      obtain ⟨cur, hcur⟩ : ∃ cur, cur = (ms.drop (k + 1)).flatMap numB ++ R := ⟨_, rfl⟩
      rw [← hcur] at hr1 hb1 hl1
      have hnum := number_ac (γ := γ) (nro := H.length) hHp hr1 hb1 hl1
      rw [num_one n cur hmk] at hnum
      obtain ⟨S, hS⟩ : ∃ S : Nat → Bool, ∀ j, S j = true ↔ j ≠ p := ⟨fun j => decide (j ≠ p), fun j => by simp⟩
      have hSm := (hS m).2 (by omega)
      have hSj := (hS j).2 (by omega)
      obtain ⟨G2, hG2⟩ : ∃ G2, G2 = G1.set p (some (rdC cur 0)) := ⟨_, rfl⟩
      simp only at hnum
      rw [← hG2] at hnum
      obtain ⟨Φ, e0, e1, eS⟩ : ∃ Φ : Nat → AH → Prop, (∀ G', Φ 0 G' ↔ G' = G1) ∧ (∀ G', Φ 1 G' ↔ G' = G2) ∧ (∀ s G', Φ s G' → G' = G1 ∨ G' = G2) :=
        ⟨fun s G' => match s with
          | 0 => G' = G1
          | _ => G' = G2, fun _ => Iff.rfl, fun _ => Iff.rfl, fun s G' h => by
            match s, h with
            | 0, h => exact .inl h
            | s + 1, h => exact .inr h⟩
      refine aw_chain S Φ (by kernel_rfl) (by kernel_rfl) (by kernel_rfl) (fun s G' h j hj => by
        rcases eS s G' h with rfl | rfl
        · rfl
        · rw [hG2]; exact hget_set_ne (fun e => (hS j).1 hj e.symm)) ((e0 _).2 rfl) (fun K hK => ?_)
      simp (disch := first | omega | (simp only [List.length_set, List.length_append, List.length_cons, List.length_nil, iv_length, zl_length]; try omega; done)) [-getElem?_pos, -getElem?_neg, h5, h7, h8, -xload, hpl2, -xindexAddr, hpx, hlx, hSm, hSj, CL_nil, CL_cons, CLc_val, CLc_skip, memS, inS, inSp, isCallF, effF]
      refine CLc_call (v := .int .u32 (n : Nat)) (by kernel_rfl) (fun G' hG' => ?_) ?_
      · obtain rfl := (e0 _).1 hG'
        exact hnum.mono fun v' G' h => ⟨h.1, (e1 _).2 h.2⟩
      try simp (disch := first | omega | (simp only [List.length_set, List.length_append, List.length_cons, List.length_nil, iv_length, zl_length]; try omega; done)) [-getElem?_pos, -getElem?_neg, h5, h7, h8, -xload, hpl2, -xindexAddr, hpx, hlx, hSm, hSj, CL_nil, CL_cons, CLc_val, CLc_skip, memS, inS, inSp, isCallF, effF]
      intro G' hG'
      obtain rfl := (e1 _).1 hG'
      refine hK _ _ ?_; clear hK K
      refine aw_f (by (first | (simp [eval_tmp, put_at]; done) | (simp [eval_tmp, put_at]; omega))) (by kernel_rfl) ?_
      refine aw_skip ?_
      (refine aw_ops (by kernel_rfl) (fun K hK => ?_); simp (disch := first | omega | (simp only [List.length_set, List.length_append, List.length_cons, List.length_nil, iv_length, zl_length]; try omega; done)) [-getElem?_pos, -getElem?_neg, h8]; refine hK _ _ ?_; clear hK K)
      obtain ⟨k1, k2⟩ := keep (y := some (rdC cur 0)) hm1 s1
      rw [← hG2] at k1 k2
      refine ⟨c1 - 1, by omega, k + 1, by omega, by (first | (simp [put_at, put_none, fr0_at]; done) | rfl), by (first | (simp [put_at, put_none, fr0_at, h7]; done) | rfl), by (first | (simp [put_at, put_none, fr0_at, h6]; done) | rfl), by (first | (simp [put_at, put_none, fr0_at, h0]; done) | rfl), by (first | (simp [put_at, put_none, fr0_at, h5]; done) | rfl), k2, k1, ?_, ?_, ?_⟩
      · rw [← hcur, hG2]; exact hgetEq (hget_lt hr1)
      · rw [← hcur]; exact hb1.app_r
      · rw [← hcur]; rw [List.length_append] at hl1; omega
    rw [if_neg q0] at hYl
    (refine aw_ops (by kernel_rfl) (fun K hK => ?_); simp (disch := first | omega | (simp only [List.length_set, List.length_append, List.length_cons, List.length_nil, iv_length, zl_length]; try omega; done)) [-getElem?_pos, -getElem?_neg, q0]; refine hK _ _ ?_; clear hK K)
    refine aw_f (by (first | (simp [eval_tmp, put_at]; done) | (simp [eval_tmp, put_at]; omega))) (by kernel_rfl) ?_
    refine aw_seq ?_
    by_cases q1 : k5 = 1
    · subst q1
      rw [if_pos rfl] at hYl
      (refine aw_ops (by kernel_rfl) (fun K hK => ?_); simp (disch := first | omega | (simp only [List.length_set, List.length_append, List.length_cons, List.length_nil, iv_length, zl_length]; try omega; done)) [-getElem?_pos, -getElem?_neg]; refine hK _ _ ?_; clear hK K)
      refine aw_t (by (first | (simp [eval_tmp, put_at]; done) | (simp [eval_tmp, put_at]; omega))) (by kernel_rfl) ?_
      have h300 : ((x.tx.size : Nat) : Int) ≤ 300 := by have := hgx1.1; omega
      rw [hYl, List.append_assoc] at hr0 hby hl6
      have hpx3 : xload Try.prog 9 (.pointer (some ⟨m, 3, none⟩)) G0 = some (.string x.tx) := by
        simp [xload, hm0, c3, hul, -getElem?_pos]
      have ht1 := text_ac (γ := γ) (nro := H.length) hHp hr0 hby hl6 (most := 300) (by omega)
      rw [rdText_back h300 (by omega)] at ht1
      simp only [of_nums'] at ht1
      obtain ⟨G1, hG1⟩ : ∃ G1, G1 = G0.set p (some (rdC (textB x.tx ++ R) 0)) := ⟨_, rfl⟩
      rw [← hG1] at ht1
      have hr1 : hget G1 p = some (rdC (textB x.tx ++ R) 0) := by rw [hG1]; exact hgetEq (hget_lt hr0)
      have ht2 := text_ac (γ := γ) (nro := H.length) hHp hr1 hby.app_r (by rw [List.length_append] at hl6; omega) (most := (x.tx.size : Nat)) (by omega)
      rw [rdText_back (Int.le_refl _) (by omega)] at ht2
      simp only [of_nums'] at ht2
      obtain ⟨G2, hG2⟩ : ∃ G2, G2 = G1.set p (some (rdC R 0)) := ⟨_, rfl⟩
      rw [← hG2] at ht2
      obtain ⟨S, hS⟩ : ∃ S : Nat → Bool, ∀ j, S j = true ↔ j ≠ p := ⟨fun j => decide (j ≠ p), fun j => by simp⟩
      have hSm := (hS m).2 (by omega)
      obtain ⟨Φ, e0, e1, e2, eS⟩ : ∃ Φ : Nat → AH → Prop, (∀ G', Φ 0 G' ↔ G' = G0) ∧ (∀ G', Φ 1 G' ↔ G' = G1) ∧ (∀ G', Φ 2 G' ↔ G' = G2) ∧ (∀ s G', Φ s G' → G' = G0 ∨ G' = G1 ∨ G' = G2) :=
        ⟨fun s G' => match s with
          | 0 => G' = G0
          | 1 => G' = G1
          | _ => G' = G2, fun _ => Iff.rfl, fun _ => Iff.rfl, fun _ => Iff.rfl, fun s G' h => by
            match s, h with
            | 0, h => exact .inl h
            | 1, h => exact .inr (.inl h)
            | s + 2, h => exact .inr (.inr h)⟩
      refine aw_seq ?_
      refine aw_chain S Φ (by kernel_rfl) (by kernel_rfl) (by kernel_rfl) (fun s G' h j hj => by
        have hjp : p ≠ j := fun e => (hS j).1 hj e.symm
        rcases eS s G' h with rfl | rfl | rfl
        · rfl
        · rw [hG1]; exact hget_set_ne hjp
        · rw [hG2, hG1, hget_set_ne hjp, hget_set_ne hjp]) ((e0 _).2 rfl) (fun K hK => ?_)
      simp (disch := first | omega | (simp only [List.length_set, List.length_append, List.length_cons, List.length_nil, iv_length, zl_length]; try omega; done)) [-getElem?_pos, -getElem?_neg, h5, -xload, hpx3, hSm, CL_nil, CL_cons, CLc_val, CLc_skip, memS, inS, inSp, isCallF, effF]
      refine CLc_call (v := .string x.tx) (by kernel_rfl) (fun G' hG' => ?_) ?_
      · obtain rfl := (e0 _).1 hG'
        exact ht1.mono fun v' G' h => ⟨h.1, (e1 _).2 h.2⟩
      try simp (disch := first | omega | (simp only [List.length_set, List.length_append, List.length_cons, List.length_nil, iv_length, zl_length]; try omega; done)) [-getElem?_pos, -getElem?_neg, h5, -xload, hpx3, hSm, CL_nil, CL_cons, CLc_val, CLc_skip, memS, inS, inSp, isCallF, effF]
      refine CLc_call (v := .string x.tx) (by kernel_rfl) (fun G' hG' => ?_) ?_
      · obtain rfl := (e1 _).1 hG'
        exact ht2.mono fun v' G' h => ⟨h.1, (e2 _).2 h.2⟩
      try simp (disch := first | omega | (simp only [List.length_set, List.length_append, List.length_cons, List.length_nil, iv_length, zl_length]; try omega; done)) [-getElem?_pos, -getElem?_neg, h5, -xload, hpx3, hSm, CL_nil, CL_cons, CLc_val, CLc_skip, memS, inS, inSp, isCallF, effF]
      intro G' hG'
      obtain rfl := (e2 _).1 hG'
      refine hK _ _ ?_; clear hK K
      refine aw_f (by (first | (simp [eval_tmp, put_at]; done) | (simp [eval_tmp, put_at]; omega))) (by kernel_rfl) ?_
      refine aw_skip ?_
      obtain ⟨k1, k2⟩ := keep (y := some (rdC (textB x.tx ++ R) 0)) hm0 s0
      rw [← hG1] at k1 k2
      obtain ⟨k3, k4⟩ := keep (y := some (rdC R 0)) k1 k2
      rw [← hG2] at k3 k4
      exact ⟨by (first | (simp [put_at, put_none, fr0_at, h6]; done) | rfl), by (first | (simp [put_at, put_none, fr0_at, h0]; done) | rfl), by (first | (simp [put_at, put_none, fr0_at, h5]; done) | rfl), k4, by rw [hG2]; exact hgetEq (hget_lt hr1)⟩
    rw [if_neg q1] at hYl
    (refine aw_ops (by kernel_rfl) (fun K hK => ?_); simp (disch := first | omega | (simp only [List.length_set, List.length_append, List.length_cons, List.length_nil, iv_length, zl_length]; try omega; done)) [-getElem?_pos, -getElem?_neg, q1]; refine hK _ _ ?_; clear hK K)
    refine aw_f (by (first | (simp [eval_tmp, put_at]; done) | (simp [eval_tmp, put_at]; omega))) (by kernel_rfl) ?_
    refine aw_seq ?_
    by_cases q2 : k5 = 2
    · subst q2
      rw [if_pos rfl] at hYl
      (refine aw_ops (by kernel_rfl) (fun K hK => ?_); simp (disch := first | omega | (simp only [List.length_set, List.length_append, List.length_cons, List.length_nil, iv_length, zl_length]; try omega; done)) [-getElem?_pos, -getElem?_neg]; refine hK _ _ ?_; clear hK K)
      refine aw_t (by (first | (simp [eval_tmp, put_at]; done) | (simp [eval_tmp, put_at]; omega))) (by kernel_rfl) ?_
      have hm20 := hgx1.2.2
      rw [hYl, ← flat_id] at hr0 hby hl6
      refine aw_seq ?_
      (refine aw_ops (by kernel_rfl) (fun K hK => ?_); simp (disch := first | omega | (simp only [List.length_set, List.length_append, List.length_cons, List.length_nil, iv_length, zl_length]; try omega; done)) [-getElem?_pos, -getElem?_neg]; refine hK _ _ ?_; clear hK K)
      refine aw_block ?_
      refine aw_loop (fun c α G' => ∃ k : Nat, k + c = x.ks.length ∧ α 9 = .int .i64 (k : Nat) ∧ α 7 = .pointer (some ⟨m, 0, none⟩) ∧ α 6 = .int .i64 (i : Nat) ∧ α 0 = v ∧ α 5 = .pointer (some ⟨p, 0, none⟩) ∧ Same0 H G' ∧ hget G' m = some ⟨us, 33, none⟩ ∧ hget G' p = some (rdC ((x.ks.drop k).flatMap id ++ R) 0) ∧ By ((x.ks.drop k).flatMap id ++ R) ∧ ((x.ks.drop k).flatMap id ++ R).length ≤ 1000000) x.ks.length ?_ ?_
      · exact ⟨0, by omega, by (first | (simp [put_at, put_none, fr0_at]; done) | rfl), by (first | (simp [put_at, put_none, fr0_at]; done) | rfl), by (first | (simp [put_at, put_none, fr0_at, h6]; done) | rfl), by (first | (simp [put_at, put_none, fr0_at, h0]; done) | rfl), by (first | (simp [put_at, put_none, fr0_at, h5]; done) | rfl), s0, hm0, hr0, hby, hl6⟩
      clear h6 h0 h5 s0 hm0 hr0 hby hl6
      rintro c1 α G1 ⟨k, hkc1, h8, h7, h6, h0, h5, s1, hm1, hr1, hb1, hl1⟩
      have hpl2 : xload Try.prog 31 (.pointer (some ⟨m, 4, none⟩)) G1 = some kv := by
        simp [xload, hm1, c4, hul, -getElem?_pos]
      have hxl2 := hkk.len (P := Try.prog) (t := 31) (e := 41) (by simp)
      refine aw_seq ?_
      refine aw_seq ?_
      (refine aw_ops (by kernel_rfl) (fun K hK => ?_); simp (disch := first | omega | (simp only [List.length_set, List.length_append, List.length_cons, List.length_nil, iv_length, zl_length]; try omega; done)) [-getElem?_pos, -getElem?_neg, h8, h7, -xload, hpl2, -xlen, hxl2]; refine hK _ _ ?_; clear hK K)
      by_cases hk : k < x.ks.length
      case neg =>
        refine aw_f (by (first | (simp [eval_tmp, put_at, hk]; done) | (simp [eval_tmp, put_at, hk]; omega))) (by kernel_rfl) ?_
        refine aw_exit ?_
        rw [List.drop_of_length_le (by omega)] at hr1
        exact ⟨by (first | (simp [put_at, put_none, fr0_at, h6]; done) | rfl), by (first | (simp [put_at, put_none, fr0_at, h0]; done) | rfl), by (first | (simp [put_at, put_none, fr0_at, h5]; done) | rfl), s1, hr1⟩
      refine aw_t (by (first | (simp [eval_tmp, put_at, hk]; done) | (simp [eval_tmp, put_at, hk]; omega))) (by kernel_rfl) ?_
      refine aw_skip ?_
      refine aw_seq ?_
      refine aw_block ?_
      refine aw_seq ?_
      obtain ⟨j, o, hj, hpx, hlx0⟩ := hkk.atJ (P := Try.prog) (t := 31) (e := 41) (by simp) (by simp) (by omega) (by simp) (i := k) (List.getElem?_eq_getElem hk)
      have hlx := hlx0 G1 (s1.2 j hj)
      have hk32 := hwx.ks _ (List.getElem_mem hk)
      obtain ⟨n, hn⟩ : ∃ n, n = x.ks[k] := ⟨_, rfl⟩
      rw [List.drop_eq_getElem_cons hk, List.flatMap_cons, ← hn, List.append_assoc] at hr1 hb1 hl1
      rw [← hn] at hlx hk32
      obtain ⟨cur, hcur⟩ : ∃ cur, cur = (x.ks.drop (k + 1)).flatMap id ++ R := ⟨_, rfl⟩
      rw [← hcur] at hr1 hb1 hl1
      have hnum := key_ac (γ := γ) (nro := H.length) (Nat.le_trans (Nat.le_refl _) s1.1) hHp hr1 hb1 hl1
      rw [key_one n cur hk32] at hnum
      simp only at hnum
      obtain ⟨S, hS⟩ : ∃ S : Nat → Bool, ∀ j, S j = true ↔ j < G1.length ∧ j ≠ p := ⟨fun j => decide (j < G1.length ∧ j ≠ p), fun j => by simp⟩
      have hSm := (hS m).2 ⟨hget_lt hm1, by omega⟩
      have hSj := (hS j).2 ⟨by have := s1.1; omega, by omega⟩
      obtain ⟨Φ, e0, e1, eS⟩ : ∃ Φ : Nat → AH → Prop, (∀ G', Φ 0 G' ↔ G' = G1) ∧ (∀ G', Φ 1 G' ↔ hget G' p = some (rdC cur 0) ∧ Fr G1 G' [p] [p]) ∧ (∀ s G', Φ s G' → G' = G1 ∨ Fr G1 G' [p] [p]) :=
        ⟨fun s G' => match s with
          | 0 => G' = G1
          | _ => hget G' p = some (rdC cur 0) ∧ Fr G1 G' [p] [p], fun _ => Iff.rfl, fun _ => Iff.rfl, fun s G' h => by
            match s, h with
            | 0, h => exact .inl h
            | s + 1, h => exact .inr h.2⟩
      refine aw_chain S Φ (by kernel_rfl) (by kernel_rfl) (by kernel_rfl) (fun s G' h j hj => by
        obtain ⟨h1, h2⟩ := (hS j).1 hj
        rcases eS s G' h with rfl | hf
        · rfl
        · exact hf.out j h1 (by simpa using h2)) ((e0 _).2 rfl) (fun K hK => ?_)
      simp (disch := first | omega | (simp only [List.length_set, List.length_append, List.length_cons, List.length_nil, iv_length, zl_length]; try omega; done)) [-getElem?_pos, -getElem?_neg, h5, h7, h8, -xload, hpl2, -xindexAddr, hpx, hlx, hSm, hSj, hk32, CL_nil, CL_cons, CLc_val, CLc_skip, memS, inS, inSp, isCallF, effF]
      refine CLc_call (v := .agg (iv .u8 n).toArray) (by kernel_rfl) (fun G' hG' => ?_) ?_
      · obtain rfl := (e0 _).1 hG'
        exact hnum.mono fun v' G' h => ⟨h.1, (e1 _).2 h.2⟩
      try simp (disch := first | omega | (simp only [List.length_set, List.length_append, List.length_cons, List.length_nil, iv_length, zl_length]; try omega; done)) [-getElem?_pos, -getElem?_neg, h5, h7, h8, -xload, hpl2, -xindexAddr, hpx, hlx, hSm, hSj, hk32, CL_nil, CL_cons, CLc_val, CLc_skip, memS, inS, inSp, isCallF, effF]
      intro G' hG'
      obtain ⟨hr2, hf2⟩ := (e1 _).1 hG'
      refine hK _ _ ?_; clear hK K
      refine aw_f (by (first | (simp [eval_tmp, put_at]; done) | (simp [eval_tmp, put_at]; omega))) (by kernel_rfl) ?_
      refine aw_skip ?_
      (refine aw_ops (by kernel_rfl) (fun K hK => ?_); simp (disch := first | omega | (simp only [List.length_set, List.length_append, List.length_cons, List.length_nil, iv_length, zl_length]; try omega; done)) [-getElem?_pos, -getElem?_neg, h8]; refine hK _ _ ?_; clear hK K)
      refine ⟨c1 - 1, by omega, k + 1, by omega, by (first | (simp [put_at, put_none, fr0_at]; done) | rfl), by (first | (simp [put_at, put_none, fr0_at, h7]; done) | rfl), by (first | (simp [put_at, put_none, fr0_at, h6]; done) | rfl), by (first | (simp [put_at, put_none, fr0_at, h0]; done) | rfl), by (first | (simp [put_at, put_none, fr0_at, h5]; done) | rfl), s1.fr hf2 (by simp; omega), (hf2.out m (hget_lt hm1) (by simp; omega)).trans hm1, ?_, ?_, ?_⟩
      · rw [← hcur]; exact hr2
      · rw [← hcur]; exact hb1.app_r
      · rw [← hcur]; rw [List.length_append] at hl1; omega
    rw [if_neg q2] at hYl
    (refine aw_ops (by kernel_rfl) (fun K hK => ?_); simp (disch := first | omega | (simp only [List.length_set, List.length_append, List.length_cons, List.length_nil, iv_length, zl_length]; try omega; done)) [-getElem?_pos, -getElem?_neg, q2]; refine hK _ _ ?_; clear hK K)
    refine aw_f (by (first | (simp [eval_tmp, put_at]; done) | (simp [eval_tmp, put_at]; omega))) (by kernel_rfl) ?_
    refine aw_seq ?_
    by_cases q3 : k5 = 3
    · subst q3
      rw [if_pos rfl] at hYl
      (refine aw_ops (by kernel_rfl) (fun K hK => ?_); simp (disch := first | omega | (simp only [List.length_set, List.length_append, List.length_cons, List.length_nil, iv_length, zl_length]; try omega; done)) [-getElem?_pos, -getElem?_neg]; refine hK _ _ ?_; clear hK K)
      refine aw_t (by (first | (simp [eval_tmp, put_at]; done) | (simp [eval_tmp, put_at]; omega))) (by kernel_rfl) ?_
      have hm20 := hgx1.2.2
      rw [hYl, ← flat_id] at hr0 hby hl6
      have hkl := rkeylist_ac (γ := γ) (nro := H.length) s0.1 hHp hr0 hby hl6 (most := 20) (by omega)
      rw [many_back key_one (most := 20) hwx.ks (by omega) (by omega)] at hkl
      simp only at hkl
      have hpl2 : xload Try.prog 31 (.pointer (some ⟨m, 4, none⟩)) G0 = some kv := by
        simp [xload, hm0, c4, hul, -getElem?_pos]
      refine aw_seq ?_
      refine aw_cut (fun α G => α 99 = .bool false ∧ α 6 = .int .i64 (i : Nat) ∧ α 0 = v ∧ α 5 = .pointer (some ⟨p, 0, none⟩) ∧ Same0 H G ∧ hget G p = some (rdC R 0)) ?_ ?_
      · (refine aw_tree [[0, 1, 2, 3, 4, 5], [0, 2, 1, 3, 4, 5], [0, 2, 3, 1, 4, 5], [2, 0, 1, 3, 4, 5], [2, 0, 3, 1, 4, 5], [2, 3, 0, 1, 4, 5]] (by kernel_rfl) (by kernel_rfl) (by kernel_rfl) (fun K hK => ?_)); simp (disch := first | omega | (simp only [List.length_set, List.length_append, List.length_cons, List.length_nil, iv_length, zl_length]; try omega; done)) [-getElem?_pos, -getElem?_neg, h5, -xload, hpl2, hkn, XO_s, XO_z, XLk_val, XLk_call, headsO, behind, List.length_cons, List.length_nil, List.mem_cons, List.not_mem_nil, or_false, forall_eq_or_imp, forall_eq, List.contains_cons, List.contains_nil]
        repeat' apply And.intro
        all_goals try kernel_rfl
        all_goals
          refine hkl.mono ?_
          rintro v7 G7 ⟨hv7, _, hrd7, hf7⟩
          have hv7 := (hv7 [p] (by simpa using hget_lt hr0)).now
          obtain ⟨hn7, hc7⟩ := ntk_of hv7
          have s7 : Same0 H G7 := s0.fr hf7 (by simp; omega)
          have hm7 : hget G7 m = some ⟨us, 33, none⟩ := (hf7.out m (hget_lt hm0) (by simp; omega)).trans hm0
          have hpl7 : xload Try.prog 31 (.pointer (some ⟨m, 4, none⟩)) G7 = some kv := by
            simp [xload, hm7, c4, hul, -getElem?_pos]
          try simp (disch := first | omega | (simp only [List.length_set, List.length_append, List.length_cons, List.length_nil, iv_length, zl_length]; try omega; done)) [-getElem?_pos, -getElem?_neg, -xload, hpl7, hn7, hkn, XO_s, XO_z, XLk_val, XLk_call, headsO, behind, List.length_cons, List.length_nil, List.mem_cons, List.not_mem_nil, or_false, forall_eq_or_imp, forall_eq, List.contains_cons, List.contains_nil]
          refine ⟨by kernel_rfl, (samekeys_ac hv7 (hkk.low s7.2) (by simp only [maxLen]; omega) (by simp only [maxLen]; omega) hwx.ks hwx.ks).mono ?_⟩
          rintro v8 G8 ⟨rfl, rfl⟩
          try simp (disch := first | omega | (simp only [List.length_set, List.length_append, List.length_cons, List.length_nil, iv_length, zl_length]; try omega; done)) [-getElem?_pos, -getElem?_neg, XO_s, XO_z, XLk_val, XLk_call, headsO, behind, List.length_cons, List.length_nil, List.mem_cons, List.not_mem_nil, or_false, forall_eq_or_imp, forall_eq, List.contains_cons, List.contains_nil]
          refine hK _ _ ?_; clear hK K
          exact ⟨by (first | (simp [put_at, put_none, fr0_at]; done) | rfl), by (first | (simp [put_at, put_none, fr0_at, h6]; done) | rfl), by (first | (simp [put_at, put_none, fr0_at, h0]; done) | rfl), by (first | (simp [put_at, put_none, fr0_at, h5]; done) | rfl), s7, hrd7⟩
      clear h6 h0 h5
      rintro α G7 ⟨h99, h6, h0, h5, s7, hr7⟩
      refine aw_f (by (first | (simp [eval_tmp, put_at, h99]; done) | (simp [eval_tmp, put_at, h99]; omega))) (by kernel_rfl) ?_
      refine aw_skip ?_
      exact ⟨h6, h0, h5, s7, hr7⟩
    rw [if_neg q3] at hYl
    (refine aw_ops (by kernel_rfl) (fun K hK => ?_); simp (disch := first | omega | (simp only [List.length_set, List.length_append, List.length_cons, List.length_nil, iv_length, zl_length]; try omega; done)) [-getElem?_pos, -getElem?_neg, q3]; refine hK _ _ ?_; clear hK K)
    refine aw_f (by (first | (simp [eval_tmp, put_at]; done) | (simp [eval_tmp, put_at]; omega))) (by kernel_rfl) ?_
    refine aw_seq ?_
    by_cases q4 : k5 = 4
    · subst q4
      rw [if_pos rfl] at hYl
      (refine aw_ops (by kernel_rfl) (fun K hK => ?_); simp (disch := first | omega | (simp only [List.length_set, List.length_append, List.length_cons, List.length_nil, iv_length, zl_length]; try omega; done)) [-getElem?_pos, -getElem?_neg]; refine hK _ _ ?_; clear hK K)
      refine aw_t (by (first | (simp [eval_tmp, put_at]; done) | (simp [eval_tmp, put_at]; omega))) (by kernel_rfl) ?_
      obtain ⟨ms, hms, hmb⟩ := nat_ints hwx.ns
      have hm60 : ms.length ≤ 60 := by have := hgx1.2.1; rw [hms, List.length_map] at this; exact this
      rw [hms, numsB_nat, List.length_map] at hYl
      rw [hYl] at hr0 hby hl6
      have hkl := numberlist_ac (γ := γ) (nro := H.length) s0.1 hHp hr0 hby hl6 (most := 60) (by omega)
      rw [many_back num_one (most := 60) hmb (by omega) (by omega), ← hms] at hkl
      simp only at hkl
      have hpl2 : xload Try.prog 30 (.pointer (some ⟨m, 2, none⟩)) G0 = some nv := by
        simp [xload, hm0, c2, hul, -getElem?_pos]
      have hnl60 : x.ns.length ≤ 60 := hgx1.2.1
      refine aw_seq ?_
      refine aw_cut (fun α G => α 107 = .bool false ∧ α 6 = .int .i64 (i : Nat) ∧ α 0 = v ∧ α 5 = .pointer (some ⟨p, 0, none⟩) ∧ Same0 H G ∧ hget G p = some (rdC R 0)) ?_ ?_
      · (refine aw_tree [[0, 1, 2, 3, 4, 5], [0, 2, 1, 3, 4, 5], [0, 2, 3, 1, 4, 5], [2, 0, 1, 3, 4, 5], [2, 0, 3, 1, 4, 5], [2, 3, 0, 1, 4, 5]] (by kernel_rfl) (by kernel_rfl) (by kernel_rfl) (fun K hK => ?_)); simp (disch := first | omega | (simp only [List.length_set, List.length_append, List.length_cons, List.length_nil, iv_length, zl_length]; try omega; done)) [-getElem?_pos, -getElem?_neg, h5, -xload, hpl2, hnn, XO_s, XO_z, XLk_val, XLk_call, headsO, behind, List.length_cons, List.length_nil, List.mem_cons, List.not_mem_nil, or_false, forall_eq_or_imp, forall_eq, List.contains_cons, List.contains_nil]
        repeat' apply And.intro
        all_goals try kernel_rfl
        all_goals
          refine hkl.mono ?_
          rintro v7 G7 ⟨hv7, hrd7, hf7⟩
          have hv7 := (hv7 [p] (by simpa using hget_lt hr0)).now
          obtain ⟨hn7, hc7⟩ := nt_of hv7
          have s7 : Same0 H G7 := s0.fr hf7 (by simp; omega)
          have hm7 : hget G7 m = some ⟨us, 33, none⟩ := (hf7.out m (hget_lt hm0) (by simp; omega)).trans hm0
          have hpl7 : xload Try.prog 30 (.pointer (some ⟨m, 2, none⟩)) G7 = some nv := by
            simp [xload, hm7, c2, hul, -getElem?_pos]
          try simp (disch := first | omega | (simp only [List.length_set, List.length_append, List.length_cons, List.length_nil, iv_length, zl_length]; try omega; done)) [-getElem?_pos, -getElem?_neg, -xload, hpl7, hn7, hnn, XO_s, XO_z, XLk_val, XLk_call, headsO, behind, List.length_cons, List.length_nil, List.mem_cons, List.not_mem_nil, or_false, forall_eq_or_imp, forall_eq, List.contains_cons, List.contains_nil]
          refine ⟨by kernel_rfl, (samenumbers_ac hv7 (hsn.sls s7.2 s7.1 (F := [p]) (by simp; omega)).now (by simp only [maxLen]; omega) (by simp only [maxLen]; omega)).mono ?_⟩
          rintro v8 G8 ⟨rfl, rfl⟩
          try simp (disch := first | omega | (simp only [List.length_set, List.length_append, List.length_cons, List.length_nil, iv_length, zl_length]; try omega; done)) [-getElem?_pos, -getElem?_neg, XO_s, XO_z, XLk_val, XLk_call, headsO, behind, List.length_cons, List.length_nil, List.mem_cons, List.not_mem_nil, or_false, forall_eq_or_imp, forall_eq, List.contains_cons, List.contains_nil]
          refine hK _ _ ?_; clear hK K
          exact ⟨by (first | (simp [put_at, put_none, fr0_at]; done) | rfl), by (first | (simp [put_at, put_none, fr0_at, h6]; done) | rfl), by (first | (simp [put_at, put_none, fr0_at, h0]; done) | rfl), by (first | (simp [put_at, put_none, fr0_at, h5]; done) | rfl), s7, hrd7⟩
      clear h6 h0 h5
      rintro α G7 ⟨h99, h6, h0, h5, s7, hr7⟩
      refine aw_f (by (first | (simp [eval_tmp, put_at, h99]; done) | (simp [eval_tmp, put_at, h99]; omega))) (by kernel_rfl) ?_
      refine aw_skip ?_
      exact ⟨h6, h0, h5, s7, hr7⟩
    rw [if_neg q4] at hYl
    (refine aw_ops (by kernel_rfl) (fun K hK => ?_); simp (disch := first | omega | (simp only [List.length_set, List.length_append, List.length_cons, List.length_nil, iv_length, zl_length]; try omega; done)) [-getElem?_pos, -getElem?_neg, q4]; refine hK _ _ ?_; clear hK K)
    refine aw_f (by (first | (simp [eval_tmp, put_at]; done) | (simp [eval_tmp, put_at]; omega))) (by kernel_rfl) ?_
    refine aw_skip ?_
    rw [hYl, List.nil_append] at hr0
    exact ⟨by (first | (simp [put_at, put_none, fr0_at, h6]; done) | rfl), by (first | (simp [put_at, put_none, fr0_at, h0]; done) | rfl), by (first | (simp [put_at, put_none, fr0_at, h5]; done) | rfl), s0, hr0⟩
end Go.Proofs.Ytpdijcaikjobiaa
