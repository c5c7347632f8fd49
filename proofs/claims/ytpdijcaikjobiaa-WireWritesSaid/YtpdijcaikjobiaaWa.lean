/-
  A writer: where it lies; one byte more.
-/
import Derived.Test.YtpdijcaikjobiaaXof
import Derived.Test.YtpdijcaikjobiaaXsl
import Derived.Test.YtpdijcaikjobiaaXcl
import Derived.Test.YtpdijcaikjobiaaTab
import Derived.Test.YtpdijcaikjobiaaXd
namespace Go.Proofs.Ytpdijcaikjobiaa
open Go Go.RowKit
set_option linter.unusedVariables false
set_option linter.unusedSimpArgs false
set_option maxRecDepth 100000

def Wr (H : AH) (p : Nat) (F : List Nat) (bs : List Int) : Prop := ∃ v FU, F = p :: FU ∧ hget H p = some ⟨[v], 27, none⟩ ∧ OwnF H v 5 1 (iv .u8 bs) FU ∧ p ∉ FU
theorem Wr.lt {H : AH} {p : Nat} {F : List Nat} {bs : List Int} (h : Wr H p F bs) : ∀ j ∈ F, j < H.length := by
  obtain ⟨v, FU, rfl, h1, h2, h3⟩ := h
  intro j hj
  rcases List.mem_cons.1 hj with rfl | hj
  · exact hget_lt h1
  · exact h2.lt j hj
theorem Wr.low {H H' : AH} {p : Nat} {F : List Nat} {bs : List Int} (h : Wr H p F bs) (hl : ∀ j ∈ F, hget H' j = hget H j) : Wr H' p F bs := by
  obtain ⟨v, FU, rfl, h1, h2, h3⟩ := h
  exact ⟨v, FU, rfl, by rw [hl p (by simp)]; exact h1, h2.low (fun j hj => hl j (by simp [hj])), h3⟩
theorem own_shape {H : AH} {v : Value} {e : TypeId} {sz : Nat} {cells : List Value} {F : List Nat} (h : OwnF H v e sz cells F) : notTuple v = true ∧ v.cells = #[v] := by
  rcases h with ⟨rfl, _⟩ | ⟨j, len, rfl, _⟩ <;> exact ⟨rfl, rfl⟩
attribute [local simp] wb_bool wb_undef XL_nil XL_cons XLc_val XLc_call step1_eq stepW_t stepW_f stepC_n stepC_s stepX_s xop_eq xopR_s xopR_n wantedA_eq wantedG_n wantedG_s plain1_int plain1_bool plain1_string bits_i64 bits_u64 bits_u32 bits_u16 bits_u8 xeqA xarr allK_iv num_iv calleeOf xread xeff xbin xint xnil xun xstr xload xconv xpart xfield xfieldAddr xindexAddr xindex bnd asInt? xslice xlen xmin xmax xbuild xfill xappend xapp2 xappstr xappmk xcap xcopy xcells eval_tmp eval_const put_at put_none fr0_at cells_agg cells_int cells_bool cells_string cells_ptr cells_slice notTuple tab iv_all hget_app hget_app0 hget_cons0 hget_cons set_app set_app0 setR setR_one QL_nil QL_cons QLc_val stepQ_t stepQ_f stepQC_n stepQC_s stepQX_s SL_nil SL_cons SLc_val stepS_t stepS_f ltT ltF leT leF eqT eqF ltTn ltFn leTn leFn eqTn eqFn beqT beqF bneT bneF wi64 wu64 wu32 wu16 wu8 tmodP tdivP hgetL hgetNe hgetEq setL nums_def nums_len Nat.succ_le_of_lt List.getElem?_cons_zero List.getElem?_cons_succ Option.getD_some Int.toNat_add Int.toNat_mul agB agI agS agP agL agA okB okI okS okP okSl okA
/-- More bytes: those that x shows. -/
theorem wr_append {nro : Nat} {H G : AH} {p : Nat} {F : List Nat} {bs news : List Int} {x : Value} (h : Wr H p F bs) (hnro : ∀ j ∈ F, nro ≤ j) (hG : H.length ≤ G.length) (hl : ∀ j, j < H.length → hget G j = hget H j) (hstr : ∀ s, x ≠ .string s) (hx : xcells 1 x G = some (iv .u8 news)) (hn : news ≠ []) (hb : bs.length + news.length ≤ 1000000) :
    ∃ v v' H', hget H p = some ⟨[v], 27, none⟩ ∧ notTuple v = true ∧ xappend Try.prog nro 25 v x G = some (v', H') ∧ notTuple v' = true ∧ v'.cells = #[v'] ∧ hget H' p = some ⟨[v], 27, none⟩ ∧
      Wr (H'.set p (some ⟨[v'], 27, none⟩)) p [p, G.length] (bs ++ news) ∧ Fr H (H'.set p (some ⟨[v'], 27, none⟩)) F [p, G.length] := by
  have hlt := h.lt
  obtain ⟨v, FU, rfl, h1, h2, h3⟩ := h
  have hpl := hget_lt h1
  have hivn : (iv .u8 news).length = news.length := iv_length _ _
  have hivb : (iv .u8 bs).length = bs.length := iv_length _ _
  have hnn : iv .u8 news ≠ [] := fun e => hn (by have := congrArg List.length e; rw [hivn] at this; exact List.eq_nil_of_length_eq_zero this)
  obtain ⟨v', H', hap, ho, hlen, hk⟩ := ownF_append (P := Try.prog) (nro := nro) (t := 25) (e := 5) (H := G) (v := v) (x := x) (sz := 1) (cells := iv .u8 bs) (news := iv .u8 news) (F := FU) (by simp) (by simp) (by omega) (by simp) (h2.low (fun j hj => hl j (h2.lt j hj)))
    (fun j hj => hnro j (by simp [hj])) hstr hx hnn (Nat.mod_one _) (by rw [hivn, hivb]; simp; omega) (by rw [hivn, hivb]; simp [maxLen]; omega)
  have hp' : hget H' p = some ⟨[v], 27, none⟩ := (hk p (by omega) h3).trans ((hl p hpl).trans h1)
  have hs := own_shape h2
  have hs' := own_shape ho
  have hpg : p < G.length := by omega
  refine ⟨v, v', H', h1, hs.1, hap, hs'.1, hs'.2, hp', ⟨v', [G.length], rfl, hget_set_eq (by omega), ?_, by simp; omega⟩, ⟨by simp; omega, fun j hj hn => ?_, fun j hj => ?_⟩⟩
  · rw [iv_append]
    exact ho.low (fun j hj => hget_set_ne (by rw [List.mem_singleton] at hj; omega))
  · rw [hget_set_ne (fun e => hn (by simp [e])), hk j (by omega) (fun hm => hn (by simp [hm])), hl j hj]
  · simp only [List.mem_cons, List.not_mem_nil, or_false] at hj
    rcases hj with rfl | rfl
    · exact .inl (by simp)
    · exact .inr hG
end Go.Proofs.Ytpdijcaikjobiaa
