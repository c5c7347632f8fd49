/-
  The types of this program: shapes, sizes, zero values. Each by the kernel.
-/
import Derived.Test.YteldoimjachbbaaXg
import Derived.Test.YteldoimjachbbaaChecked
namespace Go.Proofs.Yteldoimjachbbaa
open Go Go.RowKit
set_option maxRecDepth 100000
theorem tab0 : und Try.prog 2 = .int .i64 := by kernel_rfl
theorem tab1 : szt Try.prog 2 = 1 := by kernel_rfl
theorem tab2 : byt Try.prog 2 = 8 := by kernel_rfl
theorem tab3 : zer Try.prog 2 = some (.int .i64 0) := by kernel_rfl
theorem tab4 : und Try.prog 3 = .int .i64 := by kernel_rfl
theorem tab5 : szt Try.prog 3 = 1 := by kernel_rfl
theorem tab6 : byt Try.prog 3 = 8 := by kernel_rfl
theorem tab7 : zer Try.prog 3 = some (.int .i64 0) := by kernel_rfl
theorem tab8 : und Try.prog 4 = .bool := by kernel_rfl
theorem tab9 : szt Try.prog 4 = 1 := by kernel_rfl
theorem tab10 : byt Try.prog 4 = 1 := by kernel_rfl
theorem tab11 : zer Try.prog 4 = some (.bool false) := by kernel_rfl
theorem tab12 : und Try.prog 5 = .int .u8 := by kernel_rfl
theorem tab13 : szt Try.prog 5 = 1 := by kernel_rfl
theorem tab14 : byt Try.prog 5 = 1 := by kernel_rfl
theorem tab15 : zer Try.prog 5 = some (.int .u8 0) := by kernel_rfl
theorem tab16 : und Try.prog 6 = .int .u8 := by kernel_rfl
theorem tab17 : szt Try.prog 6 = 1 := by kernel_rfl
theorem tab18 : byt Try.prog 6 = 1 := by kernel_rfl
theorem tab19 : zer Try.prog 6 = some (.int .u8 0) := by kernel_rfl
theorem tab20 : flds Try.prog 7 = some [(2, 0), (3, 1), (4, 2), (6, 3)] := by kernel_rfl
theorem tab21 : isAggD (und Try.prog 7) = true := by kernel_rfl
theorem tab22 : okD (und Try.prog 7) = true := by kernel_rfl
theorem tab23 : szt Try.prog 7 = 4 := by kernel_rfl
theorem tab24 : byt Try.prog 7 = 24 := by kernel_rfl
theorem tab25 : zer Try.prog 7 = some (.agg #[(.int .i64 0), (.int .i64 0), (.bool false), (.int .u8 0)]) := by kernel_rfl
theorem tab26 : flds Try.prog 8 = some [(2, 0), (3, 1), (4, 2), (6, 3)] := by kernel_rfl
theorem tab27 : isAggD (und Try.prog 8) = true := by kernel_rfl
theorem tab28 : okD (und Try.prog 8) = true := by kernel_rfl
theorem tab29 : szt Try.prog 8 = 4 := by kernel_rfl
theorem tab30 : byt Try.prog 8 = 24 := by kernel_rfl
theorem tab31 : zer Try.prog 8 = some (.agg #[(.int .i64 0), (.int .i64 0), (.bool false), (.int .u8 0)]) := by kernel_rfl
theorem tab32 : und Try.prog 9 = .string := by kernel_rfl
theorem tab33 : szt Try.prog 9 = 1 := by kernel_rfl
theorem tab34 : byt Try.prog 9 = 16 := by kernel_rfl
theorem tab35 : zer Try.prog 9 = some (.string ByteArray.empty) := by kernel_rfl
theorem tab36 : und Try.prog 10 = .string := by kernel_rfl
theorem tab37 : szt Try.prog 10 = 1 := by kernel_rfl
theorem tab38 : byt Try.prog 10 = 16 := by kernel_rfl
theorem tab39 : zer Try.prog 10 = some (.string ByteArray.empty) := by kernel_rfl
theorem tab40 : und Try.prog 11 = .string := by kernel_rfl
theorem tab41 : szt Try.prog 11 = 1 := by kernel_rfl
theorem tab42 : byt Try.prog 11 = 16 := by kernel_rfl
theorem tab43 : zer Try.prog 11 = some (.string ByteArray.empty) := by kernel_rfl
theorem tab44 : und Try.prog 12 = .int .u64 := by kernel_rfl
theorem tab45 : szt Try.prog 12 = 1 := by kernel_rfl
theorem tab46 : byt Try.prog 12 = 8 := by kernel_rfl
theorem tab47 : zer Try.prog 12 = some (.int .u64 0) := by kernel_rfl
theorem tab48 : flds Try.prog 13 = some [(9, 0), (12, 1)] := by kernel_rfl
theorem tab49 : isAggD (und Try.prog 13) = true := by kernel_rfl
theorem tab50 : okD (und Try.prog 13) = true := by kernel_rfl
theorem tab51 : szt Try.prog 13 = 2 := by kernel_rfl
theorem tab52 : byt Try.prog 13 = 24 := by kernel_rfl
theorem tab53 : zer Try.prog 13 = some (.agg #[(.string ByteArray.empty), (.int .u64 0)]) := by kernel_rfl
theorem tab54 : flds Try.prog 14 = some [(9, 0), (12, 1)] := by kernel_rfl
theorem tab55 : isAggD (und Try.prog 14) = true := by kernel_rfl
theorem tab56 : okD (und Try.prog 14) = true := by kernel_rfl
theorem tab57 : szt Try.prog 14 = 2 := by kernel_rfl
theorem tab58 : byt Try.prog 14 = 24 := by kernel_rfl
theorem tab59 : zer Try.prog 14 = some (.agg #[(.string ByteArray.empty), (.int .u64 0)]) := by kernel_rfl
theorem tab60 : und Try.prog 15 = .pointer 59 := by kernel_rfl
theorem tab61 : szt Try.prog 15 = 1 := by kernel_rfl
theorem tab62 : byt Try.prog 15 = 8 := by kernel_rfl
theorem tab63 : zer Try.prog 15 = some (.pointer none) := by kernel_rfl
theorem tab64 : und Try.prog 16 = .pointer 62 := by kernel_rfl
theorem tab65 : szt Try.prog 16 = 1 := by kernel_rfl
theorem tab66 : byt Try.prog 16 = 8 := by kernel_rfl
theorem tab67 : zer Try.prog 16 = some (.pointer none) := by kernel_rfl
theorem tab68 : und Try.prog 17 = .pointer 72 := by kernel_rfl
theorem tab69 : szt Try.prog 17 = 1 := by kernel_rfl
theorem tab70 : byt Try.prog 17 = 8 := by kernel_rfl
theorem tab71 : zer Try.prog 17 = some (.pointer none) := by kernel_rfl
theorem tab72 : flds Try.prog 18 = some [(17, 0)] := by kernel_rfl
theorem tab73 : isAggD (und Try.prog 18) = true := by kernel_rfl
theorem tab74 : okD (und Try.prog 18) = true := by kernel_rfl
theorem tab75 : szt Try.prog 18 = 1 := by kernel_rfl
theorem tab76 : byt Try.prog 18 = 8 := by kernel_rfl
theorem tab77 : zer Try.prog 18 = some (.agg #[(.pointer none)]) := by kernel_rfl
theorem tab78 : flds Try.prog 19 = some [(17, 0)] := by kernel_rfl
theorem tab79 : isAggD (und Try.prog 19) = true := by kernel_rfl
theorem tab80 : okD (und Try.prog 19) = true := by kernel_rfl
theorem tab81 : szt Try.prog 19 = 1 := by kernel_rfl
theorem tab82 : byt Try.prog 19 = 8 := by kernel_rfl
theorem tab83 : zer Try.prog 19 = some (.agg #[(.pointer none)]) := by kernel_rfl
theorem tab84 : und Try.prog 21 = .int .i32 := by kernel_rfl
theorem tab85 : szt Try.prog 21 = 1 := by kernel_rfl
theorem tab86 : byt Try.prog 21 = 4 := by kernel_rfl
theorem tab87 : zer Try.prog 21 = some (.int .i32 0) := by kernel_rfl
theorem tab88 : und Try.prog 22 = .slice 33 := by kernel_rfl
theorem tab89 : szt Try.prog 22 = 1 := by kernel_rfl
theorem tab90 : byt Try.prog 22 = 24 := by kernel_rfl
theorem tab91 : zer Try.prog 22 = some (.slice none 0 0) := by kernel_rfl
theorem tab92 : und Try.prog 24 = .pointer 28 := by kernel_rfl
theorem tab93 : szt Try.prog 24 = 1 := by kernel_rfl
theorem tab94 : byt Try.prog 24 = 8 := by kernel_rfl
theorem tab95 : zer Try.prog 24 = some (.pointer none) := by kernel_rfl
theorem tab96 : und Try.prog 25 = .slice 9 := by kernel_rfl
theorem tab97 : szt Try.prog 25 = 1 := by kernel_rfl
theorem tab98 : byt Try.prog 25 = 24 := by kernel_rfl
theorem tab99 : zer Try.prog 25 = some (.slice none 0 0) := by kernel_rfl
theorem tab100 : und Try.prog 26 = .array 8 25 := by kernel_rfl
theorem tab101 : flds Try.prog 26 = none := by kernel_rfl
theorem tab102 : szt Try.prog 26 = 8 := by kernel_rfl
theorem tab103 : byt Try.prog 26 = 192 := by kernel_rfl
theorem tab104 : zer Try.prog 26 = some (.agg #[(.slice none 0 0), (.slice none 0 0), (.slice none 0 0), (.slice none 0 0), (.slice none 0 0), (.slice none 0 0), (.slice none 0 0), (.slice none 0 0)]) := by kernel_rfl
theorem tab105 : flds Try.prog 27 = some [(26, 0)] := by kernel_rfl
theorem tab106 : isAggD (und Try.prog 27) = true := by kernel_rfl
theorem tab107 : okD (und Try.prog 27) = true := by kernel_rfl
theorem tab108 : szt Try.prog 27 = 8 := by kernel_rfl
theorem tab109 : byt Try.prog 27 = 192 := by kernel_rfl
theorem tab110 : zer Try.prog 27 = some (.agg #[(.slice none 0 0), (.slice none 0 0), (.slice none 0 0), (.slice none 0 0), (.slice none 0 0), (.slice none 0 0), (.slice none 0 0), (.slice none 0 0)]) := by kernel_rfl
theorem tab111 : flds Try.prog 28 = some [(26, 0)] := by kernel_rfl
theorem tab112 : isAggD (und Try.prog 28) = true := by kernel_rfl
theorem tab113 : okD (und Try.prog 28) = true := by kernel_rfl
theorem tab114 : szt Try.prog 28 = 8 := by kernel_rfl
theorem tab115 : byt Try.prog 28 = 192 := by kernel_rfl
theorem tab116 : zer Try.prog 28 = some (.agg #[(.slice none 0 0), (.slice none 0 0), (.slice none 0 0), (.slice none 0 0), (.slice none 0 0), (.slice none 0 0), (.slice none 0 0), (.slice none 0 0)]) := by kernel_rfl
theorem tab117 : und Try.prog 29 = .pointer 31 := by kernel_rfl
theorem tab118 : szt Try.prog 29 = 1 := by kernel_rfl
theorem tab119 : byt Try.prog 29 = 8 := by kernel_rfl
theorem tab120 : zer Try.prog 29 = some (.pointer none) := by kernel_rfl
theorem tab121 : flds Try.prog 30 = some [(26, 0)] := by kernel_rfl
theorem tab122 : isAggD (und Try.prog 30) = true := by kernel_rfl
theorem tab123 : okD (und Try.prog 30) = true := by kernel_rfl
theorem tab124 : szt Try.prog 30 = 8 := by kernel_rfl
theorem tab125 : byt Try.prog 30 = 192 := by kernel_rfl
theorem tab126 : zer Try.prog 30 = some (.agg #[(.slice none 0 0), (.slice none 0 0), (.slice none 0 0), (.slice none 0 0), (.slice none 0 0), (.slice none 0 0), (.slice none 0 0), (.slice none 0 0)]) := by kernel_rfl
theorem tab127 : flds Try.prog 31 = some [(26, 0)] := by kernel_rfl
theorem tab128 : isAggD (und Try.prog 31) = true := by kernel_rfl
theorem tab129 : okD (und Try.prog 31) = true := by kernel_rfl
theorem tab130 : szt Try.prog 31 = 8 := by kernel_rfl
theorem tab131 : byt Try.prog 31 = 192 := by kernel_rfl
theorem tab132 : zer Try.prog 31 = some (.agg #[(.slice none 0 0), (.slice none 0 0), (.slice none 0 0), (.slice none 0 0), (.slice none 0 0), (.slice none 0 0), (.slice none 0 0), (.slice none 0 0)]) := by kernel_rfl
theorem tab133 : flds Try.prog 32 = some [(3, 0), (3, 1), (3, 2), (3, 3), (9, 4)] := by kernel_rfl
theorem tab134 : isAggD (und Try.prog 32) = true := by kernel_rfl
theorem tab135 : okD (und Try.prog 32) = true := by kernel_rfl
theorem tab136 : szt Try.prog 32 = 5 := by kernel_rfl
theorem tab137 : byt Try.prog 32 = 48 := by kernel_rfl
theorem tab138 : zer Try.prog 32 = some (.agg #[(.int .i64 0), (.int .i64 0), (.int .i64 0), (.int .i64 0), (.string ByteArray.empty)]) := by kernel_rfl
theorem tab139 : flds Try.prog 33 = some [(3, 0), (3, 1), (3, 2), (3, 3), (9, 4)] := by kernel_rfl
theorem tab140 : isAggD (und Try.prog 33) = true := by kernel_rfl
theorem tab141 : okD (und Try.prog 33) = true := by kernel_rfl
theorem tab142 : szt Try.prog 33 = 5 := by kernel_rfl
theorem tab143 : byt Try.prog 33 = 48 := by kernel_rfl
theorem tab144 : zer Try.prog 33 = some (.agg #[(.int .i64 0), (.int .i64 0), (.int .i64 0), (.int .i64 0), (.string ByteArray.empty)]) := by kernel_rfl
theorem tab145 : und Try.prog 34 = .int .i64 := by kernel_rfl
theorem tab146 : szt Try.prog 34 = 1 := by kernel_rfl
theorem tab147 : byt Try.prog 34 = 8 := by kernel_rfl
theorem tab148 : zer Try.prog 34 = some (.int .i64 0) := by kernel_rfl
theorem tab149 : und Try.prog 55 = .slice 25 := by kernel_rfl
theorem tab150 : szt Try.prog 55 = 1 := by kernel_rfl
theorem tab151 : byt Try.prog 55 = 24 := by kernel_rfl
theorem tab152 : zer Try.prog 55 = some (.slice none 0 0) := by kernel_rfl
theorem tab153 : flds Try.prog 58 = some [(17, 0), (17, 1), (17, 2), (9, 3)] := by kernel_rfl
theorem tab154 : isAggD (und Try.prog 58) = true := by kernel_rfl
theorem tab155 : okD (und Try.prog 58) = true := by kernel_rfl
theorem tab156 : szt Try.prog 58 = 4 := by kernel_rfl
theorem tab157 : byt Try.prog 58 = 40 := by kernel_rfl
theorem tab158 : zer Try.prog 58 = some (.agg #[(.pointer none), (.pointer none), (.pointer none), (.string ByteArray.empty)]) := by kernel_rfl
theorem tab159 : flds Try.prog 59 = some [(17, 0), (17, 1), (17, 2), (9, 3)] := by kernel_rfl
theorem tab160 : isAggD (und Try.prog 59) = true := by kernel_rfl
theorem tab161 : okD (und Try.prog 59) = true := by kernel_rfl
theorem tab162 : szt Try.prog 59 = 4 := by kernel_rfl
theorem tab163 : byt Try.prog 59 = 40 := by kernel_rfl
theorem tab164 : zer Try.prog 59 = some (.agg #[(.pointer none), (.pointer none), (.pointer none), (.string ByteArray.empty)]) := by kernel_rfl
theorem tab165 : und Try.prog 60 = .array 0 16 := by kernel_rfl
theorem tab166 : flds Try.prog 60 = none := by kernel_rfl
theorem tab167 : szt Try.prog 60 = 0 := by kernel_rfl
theorem tab168 : byt Try.prog 60 = 0 := by kernel_rfl
theorem tab169 : zer Try.prog 60 = some (.agg #[]) := by kernel_rfl
theorem tab170 : flds Try.prog 61 = some [(60, 0)] := by kernel_rfl
theorem tab171 : isAggD (und Try.prog 61) = true := by kernel_rfl
theorem tab172 : okD (und Try.prog 61) = true := by kernel_rfl
theorem tab173 : szt Try.prog 61 = 0 := by kernel_rfl
theorem tab174 : byt Try.prog 61 = 0 := by kernel_rfl
theorem tab175 : zer Try.prog 61 = some (.agg #[]) := by kernel_rfl
theorem tab176 : flds Try.prog 62 = some [(60, 0)] := by kernel_rfl
theorem tab177 : isAggD (und Try.prog 62) = true := by kernel_rfl
theorem tab178 : okD (und Try.prog 62) = true := by kernel_rfl
theorem tab179 : szt Try.prog 62 = 0 := by kernel_rfl
theorem tab180 : byt Try.prog 62 = 0 := by kernel_rfl
theorem tab181 : zer Try.prog 62 = some (.agg #[]) := by kernel_rfl
theorem tab182 : und Try.prog 64 = .int .u32 := by kernel_rfl
theorem tab183 : szt Try.prog 64 = 1 := by kernel_rfl
theorem tab184 : byt Try.prog 64 = 4 := by kernel_rfl
theorem tab185 : zer Try.prog 64 = some (.int .u32 0) := by kernel_rfl
theorem tab186 : und Try.prog 65 = .int .u8 := by kernel_rfl
theorem tab187 : szt Try.prog 65 = 1 := by kernel_rfl
theorem tab188 : byt Try.prog 65 = 1 := by kernel_rfl
theorem tab189 : zer Try.prog 65 = some (.int .u8 0) := by kernel_rfl
theorem tab190 : und Try.prog 66 = .int .u8 := by kernel_rfl
theorem tab191 : szt Try.prog 66 = 1 := by kernel_rfl
theorem tab192 : byt Try.prog 66 = 1 := by kernel_rfl
theorem tab193 : zer Try.prog 66 = some (.int .u8 0) := by kernel_rfl
theorem tab194 : und Try.prog 68 = .pointer 5 := by kernel_rfl
theorem tab195 : szt Try.prog 68 = 1 := by kernel_rfl
theorem tab196 : byt Try.prog 68 = 8 := by kernel_rfl
theorem tab197 : zer Try.prog 68 = some (.pointer none) := by kernel_rfl
theorem tab198 : und Try.prog 69 = .int .i32 := by kernel_rfl
theorem tab199 : szt Try.prog 69 = 1 := by kernel_rfl
theorem tab200 : byt Try.prog 69 = 4 := by kernel_rfl
theorem tab201 : zer Try.prog 69 = some (.int .i32 0) := by kernel_rfl
theorem tab202 : und Try.prog 70 = .int .i32 := by kernel_rfl
theorem tab203 : szt Try.prog 70 = 1 := by kernel_rfl
theorem tab204 : byt Try.prog 70 = 4 := by kernel_rfl
theorem tab205 : zer Try.prog 70 = some (.int .i32 0) := by kernel_rfl
theorem tab206 : flds Try.prog 71 = some [(12, 0), (12, 1), (64, 2), (65, 3), (5, 4), (5, 5), (66, 6), (67, 7), (68, 8), (69, 9), (70, 10)] := by kernel_rfl
theorem tab207 : isAggD (und Try.prog 71) = true := by kernel_rfl
theorem tab208 : okD (und Try.prog 71) = true := by kernel_rfl
theorem tab209 : szt Try.prog 71 = 11 := by kernel_rfl
theorem tab210 : byt Try.prog 71 = 48 := by kernel_rfl
theorem tab211 : zer Try.prog 71 = some (.agg #[(.int .u64 0), (.int .u64 0), (.int .u32 0), (.int .u8 0), (.int .u8 0), (.int .u8 0), (.int .u8 0), .nilFunc, (.pointer none), (.int .i32 0), (.int .i32 0)]) := by kernel_rfl
theorem tab212 : flds Try.prog 72 = some [(12, 0), (12, 1), (64, 2), (65, 3), (5, 4), (5, 5), (66, 6), (67, 7), (68, 8), (69, 9), (70, 10)] := by kernel_rfl
theorem tab213 : isAggD (und Try.prog 72) = true := by kernel_rfl
theorem tab214 : okD (und Try.prog 72) = true := by kernel_rfl
theorem tab215 : szt Try.prog 72 = 11 := by kernel_rfl
theorem tab216 : byt Try.prog 72 = 48 := by kernel_rfl
theorem tab217 : zer Try.prog 72 = some (.agg #[(.int .u64 0), (.int .u64 0), (.int .u32 0), (.int .u8 0), (.int .u8 0), (.int .u8 0), (.int .u8 0), .nilFunc, (.pointer none), (.int .i32 0), (.int .i32 0)]) := by kernel_rfl
theorem tab : (und Try.prog 2 = .int .i64) ∧ (szt Try.prog 2 = 1) ∧ (byt Try.prog 2 = 8) ∧ (zer Try.prog 2 = some (.int .i64 0)) ∧ (und Try.prog 3 = .int .i64) ∧ (szt Try.prog 3 = 1) ∧ (byt Try.prog 3 = 8) ∧ (zer Try.prog 3 = some (.int .i64 0)) ∧ (und Try.prog 4 = .bool) ∧ (szt Try.prog 4 = 1) ∧ (byt Try.prog 4 = 1) ∧ (zer Try.prog 4 = some (.bool false)) ∧ (und Try.prog 5 = .int .u8) ∧ (szt Try.prog 5 = 1) ∧ (byt Try.prog 5 = 1) ∧ (zer Try.prog 5 = some (.int .u8 0)) ∧ (und Try.prog 6 = .int .u8) ∧ (szt Try.prog 6 = 1) ∧ (byt Try.prog 6 = 1) ∧ (zer Try.prog 6 = some (.int .u8 0)) ∧ (flds Try.prog 7 = some [(2, 0), (3, 1), (4, 2), (6, 3)]) ∧ (isAggD (und Try.prog 7) = true) ∧ (okD (und Try.prog 7) = true) ∧ (szt Try.prog 7 = 4) ∧ (byt Try.prog 7 = 24) ∧ (zer Try.prog 7 = some (.agg #[(.int .i64 0), (.int .i64 0), (.bool false), (.int .u8 0)])) ∧ (flds Try.prog 8 = some [(2, 0), (3, 1), (4, 2), (6, 3)]) ∧ (isAggD (und Try.prog 8) = true) ∧ (okD (und Try.prog 8) = true) ∧ (szt Try.prog 8 = 4) ∧ (byt Try.prog 8 = 24) ∧ (zer Try.prog 8 = some (.agg #[(.int .i64 0), (.int .i64 0), (.bool false), (.int .u8 0)])) ∧ (und Try.prog 9 = .string) ∧ (szt Try.prog 9 = 1) ∧ (byt Try.prog 9 = 16) ∧ (zer Try.prog 9 = some (.string ByteArray.empty)) ∧ (und Try.prog 10 = .string) ∧ (szt Try.prog 10 = 1) ∧ (byt Try.prog 10 = 16) ∧ (zer Try.prog 10 = some (.string ByteArray.empty)) ∧ (und Try.prog 11 = .string) ∧ (szt Try.prog 11 = 1) ∧ (byt Try.prog 11 = 16) ∧ (zer Try.prog 11 = some (.string ByteArray.empty)) ∧ (und Try.prog 12 = .int .u64) ∧ (szt Try.prog 12 = 1) ∧ (byt Try.prog 12 = 8) ∧ (zer Try.prog 12 = some (.int .u64 0)) ∧ (flds Try.prog 13 = some [(9, 0), (12, 1)]) ∧ (isAggD (und Try.prog 13) = true) ∧ (okD (und Try.prog 13) = true) ∧ (szt Try.prog 13 = 2) ∧ (byt Try.prog 13 = 24) ∧ (zer Try.prog 13 = some (.agg #[(.string ByteArray.empty), (.int .u64 0)])) ∧ (flds Try.prog 14 = some [(9, 0), (12, 1)]) ∧ (isAggD (und Try.prog 14) = true) ∧ (okD (und Try.prog 14) = true) ∧ (szt Try.prog 14 = 2) ∧ (byt Try.prog 14 = 24) ∧ (zer Try.prog 14 = some (.agg #[(.string ByteArray.empty), (.int .u64 0)])) ∧ (und Try.prog 15 = .pointer 59) ∧ (szt Try.prog 15 = 1) ∧ (byt Try.prog 15 = 8) ∧ (zer Try.prog 15 = some (.pointer none)) ∧ (und Try.prog 16 = .pointer 62) ∧ (szt Try.prog 16 = 1) ∧ (byt Try.prog 16 = 8) ∧ (zer Try.prog 16 = some (.pointer none)) ∧ (und Try.prog 17 = .pointer 72) ∧ (szt Try.prog 17 = 1) ∧ (byt Try.prog 17 = 8) ∧ (zer Try.prog 17 = some (.pointer none)) ∧ (flds Try.prog 18 = some [(17, 0)]) ∧ (isAggD (und Try.prog 18) = true) ∧ (okD (und Try.prog 18) = true) ∧ (szt Try.prog 18 = 1) ∧ (byt Try.prog 18 = 8) ∧ (zer Try.prog 18 = some (.agg #[(.pointer none)])) ∧ (flds Try.prog 19 = some [(17, 0)]) ∧ (isAggD (und Try.prog 19) = true) ∧ (okD (und Try.prog 19) = true) ∧ (szt Try.prog 19 = 1) ∧ (byt Try.prog 19 = 8) ∧ (zer Try.prog 19 = some (.agg #[(.pointer none)])) ∧ (und Try.prog 21 = .int .i32) ∧ (szt Try.prog 21 = 1) ∧ (byt Try.prog 21 = 4) ∧ (zer Try.prog 21 = some (.int .i32 0)) ∧ (und Try.prog 22 = .slice 33) ∧ (szt Try.prog 22 = 1) ∧ (byt Try.prog 22 = 24) ∧ (zer Try.prog 22 = some (.slice none 0 0)) ∧ (und Try.prog 24 = .pointer 28) ∧ (szt Try.prog 24 = 1) ∧ (byt Try.prog 24 = 8) ∧ (zer Try.prog 24 = some (.pointer none)) ∧ (und Try.prog 25 = .slice 9) ∧ (szt Try.prog 25 = 1) ∧ (byt Try.prog 25 = 24) ∧ (zer Try.prog 25 = some (.slice none 0 0)) ∧ (und Try.prog 26 = .array 8 25) ∧ (flds Try.prog 26 = none) ∧ (szt Try.prog 26 = 8) ∧ (byt Try.prog 26 = 192) ∧ (zer Try.prog 26 = some (.agg #[(.slice none 0 0), (.slice none 0 0), (.slice none 0 0), (.slice none 0 0), (.slice none 0 0), (.slice none 0 0), (.slice none 0 0), (.slice none 0 0)])) ∧ (flds Try.prog 27 = some [(26, 0)]) ∧ (isAggD (und Try.prog 27) = true) ∧ (okD (und Try.prog 27) = true) ∧ (szt Try.prog 27 = 8) ∧ (byt Try.prog 27 = 192) ∧ (zer Try.prog 27 = some (.agg #[(.slice none 0 0), (.slice none 0 0), (.slice none 0 0), (.slice none 0 0), (.slice none 0 0), (.slice none 0 0), (.slice none 0 0), (.slice none 0 0)])) ∧ (flds Try.prog 28 = some [(26, 0)]) ∧ (isAggD (und Try.prog 28) = true) ∧ (okD (und Try.prog 28) = true) ∧ (szt Try.prog 28 = 8) ∧ (byt Try.prog 28 = 192) ∧ (zer Try.prog 28 = some (.agg #[(.slice none 0 0), (.slice none 0 0), (.slice none 0 0), (.slice none 0 0), (.slice none 0 0), (.slice none 0 0), (.slice none 0 0), (.slice none 0 0)])) ∧ (und Try.prog 29 = .pointer 31) ∧ (szt Try.prog 29 = 1) ∧ (byt Try.prog 29 = 8) ∧ (zer Try.prog 29 = some (.pointer none)) ∧ (flds Try.prog 30 = some [(26, 0)]) ∧ (isAggD (und Try.prog 30) = true) ∧ (okD (und Try.prog 30) = true) ∧ (szt Try.prog 30 = 8) ∧ (byt Try.prog 30 = 192) ∧ (zer Try.prog 30 = some (.agg #[(.slice none 0 0), (.slice none 0 0), (.slice none 0 0), (.slice none 0 0), (.slice none 0 0), (.slice none 0 0), (.slice none 0 0), (.slice none 0 0)])) ∧ (flds Try.prog 31 = some [(26, 0)]) ∧ (isAggD (und Try.prog 31) = true) ∧ (okD (und Try.prog 31) = true) ∧ (szt Try.prog 31 = 8) ∧ (byt Try.prog 31 = 192) ∧ (zer Try.prog 31 = some (.agg #[(.slice none 0 0), (.slice none 0 0), (.slice none 0 0), (.slice none 0 0), (.slice none 0 0), (.slice none 0 0), (.slice none 0 0), (.slice none 0 0)])) ∧ (flds Try.prog 32 = some [(3, 0), (3, 1), (3, 2), (3, 3), (9, 4)]) ∧ (isAggD (und Try.prog 32) = true) ∧ (okD (und Try.prog 32) = true) ∧ (szt Try.prog 32 = 5) ∧ (byt Try.prog 32 = 48) ∧ (zer Try.prog 32 = some (.agg #[(.int .i64 0), (.int .i64 0), (.int .i64 0), (.int .i64 0), (.string ByteArray.empty)])) ∧ (flds Try.prog 33 = some [(3, 0), (3, 1), (3, 2), (3, 3), (9, 4)]) ∧ (isAggD (und Try.prog 33) = true) ∧ (okD (und Try.prog 33) = true) ∧ (szt Try.prog 33 = 5) ∧ (byt Try.prog 33 = 48) ∧ (zer Try.prog 33 = some (.agg #[(.int .i64 0), (.int .i64 0), (.int .i64 0), (.int .i64 0), (.string ByteArray.empty)])) ∧ (und Try.prog 34 = .int .i64) ∧ (szt Try.prog 34 = 1) ∧ (byt Try.prog 34 = 8) ∧ (zer Try.prog 34 = some (.int .i64 0)) ∧ (und Try.prog 55 = .slice 25) ∧ (szt Try.prog 55 = 1) ∧ (byt Try.prog 55 = 24) ∧ (zer Try.prog 55 = some (.slice none 0 0)) ∧ (flds Try.prog 58 = some [(17, 0), (17, 1), (17, 2), (9, 3)]) ∧ (isAggD (und Try.prog 58) = true) ∧ (okD (und Try.prog 58) = true) ∧ (szt Try.prog 58 = 4) ∧ (byt Try.prog 58 = 40) ∧ (zer Try.prog 58 = some (.agg #[(.pointer none), (.pointer none), (.pointer none), (.string ByteArray.empty)])) ∧ (flds Try.prog 59 = some [(17, 0), (17, 1), (17, 2), (9, 3)]) ∧ (isAggD (und Try.prog 59) = true) ∧ (okD (und Try.prog 59) = true) ∧ (szt Try.prog 59 = 4) ∧ (byt Try.prog 59 = 40) ∧ (zer Try.prog 59 = some (.agg #[(.pointer none), (.pointer none), (.pointer none), (.string ByteArray.empty)])) ∧ (und Try.prog 60 = .array 0 16) ∧ (flds Try.prog 60 = none) ∧ (szt Try.prog 60 = 0) ∧ (byt Try.prog 60 = 0) ∧ (zer Try.prog 60 = some (.agg #[])) ∧ (flds Try.prog 61 = some [(60, 0)]) ∧ (isAggD (und Try.prog 61) = true) ∧ (okD (und Try.prog 61) = true) ∧ (szt Try.prog 61 = 0) ∧ (byt Try.prog 61 = 0) ∧ (zer Try.prog 61 = some (.agg #[])) ∧ (flds Try.prog 62 = some [(60, 0)]) ∧ (isAggD (und Try.prog 62) = true) ∧ (okD (und Try.prog 62) = true) ∧ (szt Try.prog 62 = 0) ∧ (byt Try.prog 62 = 0) ∧ (zer Try.prog 62 = some (.agg #[])) ∧ (und Try.prog 64 = .int .u32) ∧ (szt Try.prog 64 = 1) ∧ (byt Try.prog 64 = 4) ∧ (zer Try.prog 64 = some (.int .u32 0)) ∧ (und Try.prog 65 = .int .u8) ∧ (szt Try.prog 65 = 1) ∧ (byt Try.prog 65 = 1) ∧ (zer Try.prog 65 = some (.int .u8 0)) ∧ (und Try.prog 66 = .int .u8) ∧ (szt Try.prog 66 = 1) ∧ (byt Try.prog 66 = 1) ∧ (zer Try.prog 66 = some (.int .u8 0)) ∧ (und Try.prog 68 = .pointer 5) ∧ (szt Try.prog 68 = 1) ∧ (byt Try.prog 68 = 8) ∧ (zer Try.prog 68 = some (.pointer none)) ∧ (und Try.prog 69 = .int .i32) ∧ (szt Try.prog 69 = 1) ∧ (byt Try.prog 69 = 4) ∧ (zer Try.prog 69 = some (.int .i32 0)) ∧ (und Try.prog 70 = .int .i32) ∧ (szt Try.prog 70 = 1) ∧ (byt Try.prog 70 = 4) ∧ (zer Try.prog 70 = some (.int .i32 0)) ∧ (flds Try.prog 71 = some [(12, 0), (12, 1), (64, 2), (65, 3), (5, 4), (5, 5), (66, 6), (67, 7), (68, 8), (69, 9), (70, 10)]) ∧ (isAggD (und Try.prog 71) = true) ∧ (okD (und Try.prog 71) = true) ∧ (szt Try.prog 71 = 11) ∧ (byt Try.prog 71 = 48) ∧ (zer Try.prog 71 = some (.agg #[(.int .u64 0), (.int .u64 0), (.int .u32 0), (.int .u8 0), (.int .u8 0), (.int .u8 0), (.int .u8 0), .nilFunc, (.pointer none), (.int .i32 0), (.int .i32 0)])) ∧ (flds Try.prog 72 = some [(12, 0), (12, 1), (64, 2), (65, 3), (5, 4), (5, 5), (66, 6), (67, 7), (68, 8), (69, 9), (70, 10)]) ∧ (isAggD (und Try.prog 72) = true) ∧ (okD (und Try.prog 72) = true) ∧ (szt Try.prog 72 = 11) ∧ (byt Try.prog 72 = 48) ∧ (zer Try.prog 72 = some (.agg #[(.int .u64 0), (.int .u64 0), (.int .u32 0), (.int .u8 0), (.int .u8 0), (.int .u8 0), (.int .u8 0), .nilFunc, (.pointer none), (.int .i32 0), (.int .i32 0)])) :=
  ⟨tab0, tab1, tab2, tab3, tab4, tab5, tab6, tab7, tab8, tab9, tab10, tab11, tab12, tab13, tab14, tab15, tab16, tab17, tab18, tab19, tab20, tab21, tab22, tab23, tab24, tab25, tab26, tab27, tab28, tab29, tab30, tab31, tab32, tab33, tab34, tab35, tab36, tab37, tab38, tab39, tab40, tab41, tab42, tab43, tab44, tab45, tab46, tab47, tab48, tab49, tab50, tab51, tab52, tab53, tab54, tab55, tab56, tab57, tab58, tab59, tab60, tab61, tab62, tab63, tab64, tab65, tab66, tab67, tab68, tab69, tab70, tab71, tab72, tab73, tab74, tab75, tab76, tab77, tab78, tab79, tab80, tab81, tab82, tab83, tab84, tab85, tab86, tab87, tab88, tab89, tab90, tab91, tab92, tab93, tab94, tab95, tab96, tab97, tab98, tab99, tab100, tab101, tab102, tab103, tab104, tab105, tab106, tab107, tab108, tab109, tab110, tab111, tab112, tab113, tab114, tab115, tab116, tab117, tab118, tab119, tab120, tab121, tab122, tab123, tab124, tab125, tab126, tab127, tab128, tab129, tab130, tab131, tab132, tab133, tab134, tab135, tab136, tab137, tab138, tab139, tab140, tab141, tab142, tab143, tab144, tab145, tab146, tab147, tab148, tab149, tab150, tab151, tab152, tab153, tab154, tab155, tab156, tab157, tab158, tab159, tab160, tab161, tab162, tab163, tab164, tab165, tab166, tab167, tab168, tab169, tab170, tab171, tab172, tab173, tab174, tab175, tab176, tab177, tab178, tab179, tab180, tab181, tab182, tab183, tab184, tab185, tab186, tab187, tab188, tab189, tab190, tab191, tab192, tab193, tab194, tab195, tab196, tab197, tab198, tab199, tab200, tab201, tab202, tab203, tab204, tab205, tab206, tab207, tab208, tab209, tab210, tab211, tab212, tab213, tab214, tab215, tab216, tab217⟩
end Go.Proofs.Yteldoimjachbbaa
