/-
  Two keys, compared: by the machine's own comparison of bytes, and by the reference.
-/
import Derived.Test.YtmnkbdclnaekkaaDoorCoB
import Derived.Test.YtmnkbdclnaekkaaDoorXop
import Derived.Test.YtmnkbdclnaekkaaDoorXz
import Derived.Test.YtmnkbdclnaekkaaDoorXd
import Derived.Test.YtmnkbdclnaekkaaDoorXbs
import Derived.Laws.Externs
import Derived.Lib.BytesEntry
namespace Go.Proofs.YtmnkbdclnaekkaaDoor
open Go Go.RowKit
set_option linter.unusedVariables false
set_option linter.unusedSimpArgs false
set_option maxRecDepth 100000
set_option maxHeartbeats 4000000
def bA (l : List Int) : ByteArray := ⟨(Lib.bytesOf l).toArray⟩
def cmpL (a b : List Int) : Int := Extern.BytealgCompare.cmp (bA a) (bA b)
theorem find_first {p : Nat → Bool} : ∀ (n s i : Nat), s ≤ i → i < s + n → (∀ k, s ≤ k → k < i → p k = false) → p i = true → (List.range' s n).find? p = some i
  | 0, s, i, h1, h2, _, _ => by omega
  | n + 1, s, i, h1, h2, h3, h4 => by
    rw [List.range'_succ, List.find?_cons]
    by_cases e : s = i
    · subst e; rw [h4]
    · rw [h3 s (Nat.le_refl _) (by omega)]
      exact find_first n (s + 1) i (by omega) (by omega) (fun k hk hk2 => h3 k (by omega) hk2) h4
theorem find_none {p : Nat → Bool} : ∀ (n s : Nat), (∀ k, s ≤ k → k < s + n → p k = false) → (List.range' s n).find? p = none
  | 0, s, _ => rfl
  | n + 1, s, h => by
    rw [List.range'_succ, List.find?_cons, h s (Nat.le_refl _) (by omega)]
    exact find_none n (s + 1) fun k hk hk2 => h k (by omega) (by omega)
theorem bA_size (l : List Int) : (bA l).size = l.length := by simp [bA, Lib.bytesOf, ByteArray.size]
theorem bA_get {l : List Int} {i : Nat} {x : Int} (h : l[i]? = some x) : (bA l)[i]! = x.toNat.toUInt8 := by
  have hi := (List.getElem?_eq_some_iff.1 h).1
  have hs : i < (bA l).size := by rw [bA_size]; exact hi
  rw [getElem!_pos (bA l) i hs]
  obtain ⟨_, rfl⟩ := List.getElem?_eq_some_iff.1 h
  simp [bA, Lib.bytesOf, ByteArray.getElem_eq_getElem_data]
theorem u8_ne {x y : Int} (hx : 0 ≤ x ∧ x ≤ 255) (hy : 0 ≤ y ∧ y ≤ 255) : (x.toNat.toUInt8 != y.toNat.toUInt8) = decide (x ≠ y) := by
  have h : ∀ a b : Nat, a < 256 → b < 256 → (a.toUInt8 = b.toUInt8 ↔ a = b) := fun a b ha hb => by
    constructor
    · intro e
      have := congrArg UInt8.toNat e
      simp at this; omega
    · rintro rfl; rfl
  by_cases e : x = y
  · subst e; simp
  · have : ¬ x.toNat.toUInt8 = y.toNat.toUInt8 := fun e2 => e (by have := (h _ _ (by omega) (by omega)).1 e2; omega)
    simp [this, e]
theorem u8_lt {x y : Int} (hx : 0 ≤ x ∧ x ≤ 255) (hy : 0 ≤ y ∧ y ≤ 255) : (x.toNat.toUInt8 < y.toNat.toUInt8) ↔ x < y := by
  rw [UInt8.lt_iff_toNat_lt]
  simp only [Nat.toUInt8, UInt8.toNat_ofNat']
  omega
theorem cmpL_at {a b : List Int} (ha : By a) (hb : By b) (hl : a.length = b.length) {i : Nat} {x y : Int} (hx : a[i]? = some x) (hy : b[i]? = some y) (hxy : x ≠ y) (hpre : a.take i = b.take i) : cmpL a b = if x < y then -1 else 1 := by
  have hi := (List.getElem?_eq_some_iff.1 hx).1
  have hxb := ha x (List.mem_of_getElem? hx)
  have hyb := hb y (List.mem_of_getElem? hy)
  unfold cmpL Extern.BytealgCompare.cmp
  rw [bA_size, bA_size, List.range_eq_range', find_first (p := fun i => (bA a)[i]! != (bA b)[i]!) (min a.length b.length) 0 i (by omega) (by omega) (fun k _ hk => ?_) ?_]
  · simp only [bA_get hx, bA_get hy]
    by_cases h : x < y
    · rw [if_pos h, if_pos ((u8_lt hxb hyb).2 h)]
    · rw [if_neg h, if_neg (fun h2 => h ((u8_lt hxb hyb).1 h2))]
  · simp only [bA_get hx, bA_get hy]
    rw [u8_ne hxb hyb]
    simpa using hxy
  · obtain ⟨u, hu⟩ : ∃ u, a[k]? = some u := ⟨_, List.getElem?_eq_getElem (by omega)⟩
    have hv : b[k]? = some u := by
      have h1 : (a.take i)[k]? = some u := by rw [List.getElem?_take_of_lt hk, hu]
      rw [hpre, List.getElem?_take_of_lt hk] at h1
      exact h1
    simp only [bA_get hu, bA_get hv]
    simp
theorem cmpL_eq {a : List Int} : cmpL a a = 0 := by
  unfold cmpL Extern.BytealgCompare.cmp
  rw [List.range_eq_range', find_none _ 0 (fun k _ _ => by simp)]
  simp
attribute [local simp] wb_bool wb_undef XL_nil XL_cons XLc_val XLc_call step1_eq stepW_t stepW_f stepC_n stepC_s stepX_s stepX_n stepN_s calleeX oneV xop_eq xopR_s xopR_n wantedA_eq wantedG_n wantedG_s plain1_int plain1_bool plain1_string bits_i64 bits_u64 bits_u32 bits_u16 bits_u8 xeqA xagg xcmp xarr allK_iv num_iv calleeOf xread xeff xbin xint xnil xun xstr xload xconv xpart xfield xfieldAddr xindexAddr xindex bnd asInt? xslice xlen xmin xmax xbuild xfill xappend xapp2 xappstr xappmk xcap xcopy xcells eval_tmp eval_const put_at put_none fr0_at cells_agg cells_int cells_bool cells_string cells_ptr cells_slice notTuple tab iv_all hget_app hget_app0 hget_cons0 hget_cons set_app set_app0 setR setR_one QL_nil QL_cons QLc_val stepQ_t stepQ_f stepQC_n stepQC_s stepQX_s SL_nil SL_cons SLc_val stepS_t stepS_f ltT ltF leT leF eqT eqF ltTn ltFn leTn leFn eqTn eqFn beqT beqF bneT bneF wi64 wu64 wu32 wu16 wu8 tmodP tdivP hgetL hgetNe hgetEq setL nums_def nums_len Nat.succ_le_of_lt List.getElem?_cons_zero List.getElem?_cons_succ Option.getD_some Int.toNat_add Int.toNat_mul agB agI agS agP agL agA okB okI okS okP okSl okA
/-- The machine's own comparison. -/
theorem cmp0_ac {H : AH} {γ : Nat → Option Nat} {nro i j n : Nat} {a b : List Int} {t1 t2 : TypeId} {e1 e2 : Option Nat} (ha : hget H i = some ⟨iv .u8 a, t1, e1⟩) (hb : hget H j = some ⟨iv .u8 b, t2, e2⟩) (hal : a.length = n) (hbl : b.length = n) :
    AC Tryd.prog nro γ 23 #[.slice (some ⟨i, 0, none⟩) n n, .slice (some ⟨j, 0, none⟩) n n] H (fun v' H' => v' = .int .i64 (cmpL a b) ∧ H' = H) := by
  intro m base w args' hR hsz hva
  obtain ⟨y0, hy0, hv0⟩ := hva 0 _ rfl
  obtain ⟨y1, hy1, hv1⟩ := hva 1 _ rfl
  obtain rfl : args' = #[y0, y1] := by
    have h2 : args'.size = 2 := hsz
    apply Array.ext_getElem?
    intro k
    match k with
    | 0 => rw [hy0]; rfl
    | 1 => rw [hy1]; rfl
    | k + 2 => rw [Array.getElem?_eq_none (by omega), Array.getElem?_eq_none (by simp)]
  obtain ⟨en0, c0, _, hm0, _, _, rfl⟩ := hv0.sl_
  obtain ⟨en1, c1, _, hm1, _, _, rfl⟩ := hv1.sl_
  have cell : ∀ (k : Nat) (l : List Int) (t : TypeId) (e : Option Nat) (en : Ent), hget H k = some ⟨iv .u8 l, t, e⟩ → m[k]? = some en → ∀ (q : Nat) (x : Int), l[q]? = some x → w.cell? ((⟨en.b, en.o + 0, none⟩ : Addr).add q) = some (.int .u8 x) := fun k l t e en hk hm q x hx => by
    obtain ⟨y, hy, hv⟩ := hR.cell hk hm (off := q) (x := .int .u8 x) (by simp [iv, hx])
    have := hv.eq rfl
    subst this
    have e : (⟨en.b, en.o + 0, none⟩ : Addr).add q = ⟨en.b, en.o + q, none⟩ := by unfold Addr.add; split <;> simp_all
    rw [e, hy]
  have l0 := Lib.run_loadBytesX (P := Tryd.prog) w a ⟨en0.b, en0.o + 0, none⟩ .empty (cell i a t1 e1 en0 ha hm0)
  have l1 := Lib.run_loadBytesX (P := Tryd.prog) w b ⟨en1.b, en1.o + 0, none⟩ .empty (cell j b t2 e2 en1 hb hm1)
  have he : ∀ l : List Int, (⟨ByteArray.empty.data ++ (Lib.bytesOf l).toArray⟩ : ByteArray) = bA l := fun l => by
    apply ByteArray.ext
    show (#[] : Array UInt8) ++ (Lib.bytesOf l).toArray = (Lib.bytesOf l).toArray
    simp
  rw [he, hal] at l0
  rw [he, hbl] at l1
  refine .inr ⟨.int .i64 (cmpL a b), ?_, m, .int .i64 (cmpL a b), .int .i64 (cmpL a b), H, rfl, List.prefix_rfl, plainV_mk rfl, hR, .refl _ _, rfl, rfl⟩
  rw [run_callFunc_extern (fn := Tryd.f23) (by kernel_rfl) (by kernel_rfl) (by kernel_rfl) (by kernel_rfl) (e := Extern.BytealgCompare.compare) (by kernel_rfl)]
  have : (Extern.BytealgCompare.compare #[.slice (some ⟨en0.b, en0.o + 0, none⟩) n c0, .slice (some ⟨en1.b, en1.o + 0, none⟩) n c1]).run Tryd.prog w = .ok (.int .i64 (cmpL a b)) w := by
    change Sem.run _ (do pure (goInt (Extern.BytealgCompare.cmp (← Extern.Bytes.bytesOf (.slice (some ⟨en0.b, en0.o + 0, none⟩) n c0)) (← Extern.Bytes.bytesOf (.slice (some ⟨en1.b, en1.o + 0, none⟩) n c1))))) w = _
    simp only [Extern.Bytes.bytesOf, Sem.run_bind, Sem.run_pure, l0, l1, Result.andThen]
    rfl
  rw [this]
  rfl
end Go.Proofs.YtmnkbdclnaekkaaDoor
