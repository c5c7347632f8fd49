/-
  The types of this program: shapes, sizes, zero values. Each by the kernel.
-/
import Derived.Test.YthkcbhealphpmaaXg
import Derived.Test.YthkcbhealphpmaaChecked
namespace Go.Proofs.Ythkcbhealphpmaa
open Go Go.RowKit
set_option maxRecDepth 100000
theorem tab0 : und Try.prog 2 = .int .i64 := by kernel_rfl
theorem tab1 : szt Try.prog 2 = 1 := by kernel_rfl
theorem tab2 : byt Try.prog 2 = 8 := by kernel_rfl
theorem tab3 : zer Try.prog 2 = some (.int .i64 0) := by kernel_rfl
theorem tab4 : und Try.prog 3 = .int .i64 := by kernel_rfl
theorem tab5 : szt Try.prog 3 = 1 := by kernel_rfl
theorem tab6 : byt Try.prog 3 = 8 := by kernel_rfl
theorem tab7 : zer Try.prog 3 = some (.int .i64 0) := by kernel_rfl
theorem tab8 : und Try.prog 4 = .bool := by kernel_rfl
theorem tab9 : szt Try.prog 4 = 1 := by kernel_rfl
theorem tab10 : byt Try.prog 4 = 1 := by kernel_rfl
theorem tab11 : zer Try.prog 4 = some (.bool false) := by kernel_rfl
theorem tab12 : und Try.prog 5 = .int .u8 := by kernel_rfl
theorem tab13 : szt Try.prog 5 = 1 := by kernel_rfl
theorem tab14 : byt Try.prog 5 = 1 := by kernel_rfl
theorem tab15 : zer Try.prog 5 = some (.int .u8 0) := by kernel_rfl
theorem tab16 : und Try.prog 6 = .int .u8 := by kernel_rfl
theorem tab17 : szt Try.prog 6 = 1 := by kernel_rfl
theorem tab18 : byt Try.prog 6 = 1 := by kernel_rfl
theorem tab19 : zer Try.prog 6 = some (.int .u8 0) := by kernel_rfl
theorem tab20 : flds Try.prog 7 = some [(2, 0), (3, 1), (4, 2), (6, 3)] := by kernel_rfl
theorem tab21 : isAggD (und Try.prog 7) = true := by kernel_rfl
theorem tab22 : okD (und Try.prog 7) = true := by kernel_rfl
theorem tab23 : szt Try.prog 7 = 4 := by kernel_rfl
theorem tab24 : byt Try.prog 7 = 24 := by kernel_rfl
theorem tab25 : zer Try.prog 7 = some (.agg #[(.int .i64 0), (.int .i64 0), (.bool false), (.int .u8 0)]) := by kernel_rfl
theorem tab26 : flds Try.prog 8 = some [(2, 0), (3, 1), (4, 2), (6, 3)] := by kernel_rfl
theorem tab27 : isAggD (und Try.prog 8) = true := by kernel_rfl
theorem tab28 : okD (und Try.prog 8) = true := by kernel_rfl
theorem tab29 : szt Try.prog 8 = 4 := by kernel_rfl
theorem tab30 : byt Try.prog 8 = 24 := by kernel_rfl
theorem tab31 : zer Try.prog 8 = some (.agg #[(.int .i64 0), (.int .i64 0), (.bool false), (.int .u8 0)]) := by kernel_rfl
theorem tab32 : und Try.prog 9 = .string := by kernel_rfl
theorem tab33 : szt Try.prog 9 = 1 := by kernel_rfl
theorem tab34 : byt Try.prog 9 = 16 := by kernel_rfl
theorem tab35 : zer Try.prog 9 = some (.string ByteArray.empty) := by kernel_rfl
theorem tab36 : und Try.prog 10 = .string := by kernel_rfl
theorem tab37 : szt Try.prog 10 = 1 := by kernel_rfl
theorem tab38 : byt Try.prog 10 = 16 := by kernel_rfl
theorem tab39 : zer Try.prog 10 = some (.string ByteArray.empty) := by kernel_rfl
theorem tab40 : und Try.prog 11 = .string := by kernel_rfl
theorem tab41 : szt Try.prog 11 = 1 := by kernel_rfl
theorem tab42 : byt Try.prog 11 = 16 := by kernel_rfl
theorem tab43 : zer Try.prog 11 = some (.string ByteArray.empty) := by kernel_rfl
theorem tab44 : und Try.prog 12 = .int .u64 := by kernel_rfl
theorem tab45 : szt Try.prog 12 = 1 := by kernel_rfl
theorem tab46 : byt Try.prog 12 = 8 := by kernel_rfl
theorem tab47 : zer Try.prog 12 = some (.int .u64 0) := by kernel_rfl
theorem tab48 : flds Try.prog 13 = some [(9, 0), (12, 1)] := by kernel_rfl
theorem tab49 : isAggD (und Try.prog 13) = true := by kernel_rfl
theorem tab50 : okD (und Try.prog 13) = true := by kernel_rfl
theorem tab51 : szt Try.prog 13 = 2 := by kernel_rfl
theorem tab52 : byt Try.prog 13 = 24 := by kernel_rfl
theorem tab53 : zer Try.prog 13 = some (.agg #[(.string ByteArray.empty), (.int .u64 0)]) := by kernel_rfl
theorem tab54 : flds Try.prog 14 = some [(9, 0), (12, 1)] := by kernel_rfl
theorem tab55 : isAggD (und Try.prog 14) = true := by kernel_rfl
theorem tab56 : okD (und Try.prog 14) = true := by kernel_rfl
theorem tab57 : szt Try.prog 14 = 2 := by kernel_rfl
theorem tab58 : byt Try.prog 14 = 24 := by kernel_rfl
theorem tab59 : zer Try.prog 14 = some (.agg #[(.string ByteArray.empty), (.int .u64 0)]) := by kernel_rfl
theorem tab60 : und Try.prog 15 = .pointer 82 := by kernel_rfl
theorem tab61 : szt Try.prog 15 = 1 := by kernel_rfl
theorem tab62 : byt Try.prog 15 = 8 := by kernel_rfl
theorem tab63 : zer Try.prog 15 = some (.pointer none) := by kernel_rfl
theorem tab64 : und Try.prog 16 = .pointer 85 := by kernel_rfl
theorem tab65 : szt Try.prog 16 = 1 := by kernel_rfl
theorem tab66 : byt Try.prog 16 = 8 := by kernel_rfl
theorem tab67 : zer Try.prog 16 = some (.pointer none) := by kernel_rfl
theorem tab68 : und Try.prog 17 = .pointer 92 := by kernel_rfl
theorem tab69 : szt Try.prog 17 = 1 := by kernel_rfl
theorem tab70 : byt Try.prog 17 = 8 := by kernel_rfl
theorem tab71 : zer Try.prog 17 = some (.pointer none) := by kernel_rfl
theorem tab72 : flds Try.prog 18 = some [(17, 0)] := by kernel_rfl
theorem tab73 : isAggD (und Try.prog 18) = true := by kernel_rfl
theorem tab74 : okD (und Try.prog 18) = true := by kernel_rfl
theorem tab75 : szt Try.prog 18 = 1 := by kernel_rfl
theorem tab76 : byt Try.prog 18 = 8 := by kernel_rfl
theorem tab77 : zer Try.prog 18 = some (.agg #[(.pointer none)]) := by kernel_rfl
theorem tab78 : flds Try.prog 19 = some [(17, 0)] := by kernel_rfl
theorem tab79 : isAggD (und Try.prog 19) = true := by kernel_rfl
theorem tab80 : okD (und Try.prog 19) = true := by kernel_rfl
theorem tab81 : szt Try.prog 19 = 1 := by kernel_rfl
theorem tab82 : byt Try.prog 19 = 8 := by kernel_rfl
theorem tab83 : zer Try.prog 19 = some (.agg #[(.pointer none)]) := by kernel_rfl
theorem tab84 : und Try.prog 21 = .int .i32 := by kernel_rfl
theorem tab85 : szt Try.prog 21 = 1 := by kernel_rfl
theorem tab86 : byt Try.prog 21 = 4 := by kernel_rfl
theorem tab87 : zer Try.prog 21 = some (.int .i32 0) := by kernel_rfl
theorem tab88 : und Try.prog 22 = .array 32 5 := by kernel_rfl
theorem tab89 : flds Try.prog 22 = none := by kernel_rfl
theorem tab90 : gl Try.prog 22 = true := by kernel_rfl
theorem tab91 : szt Try.prog 22 = 32 := by kernel_rfl
theorem tab92 : byt Try.prog 22 = 32 := by kernel_rfl
theorem tab93 : zer Try.prog 22 = some (.agg (iv .u8 (zl 32)).toArray) := by kernel_rfl
theorem tab94 : und Try.prog 23 = .array 32 5 := by kernel_rfl
theorem tab95 : flds Try.prog 23 = none := by kernel_rfl
theorem tab96 : gl Try.prog 23 = true := by kernel_rfl
theorem tab97 : szt Try.prog 23 = 32 := by kernel_rfl
theorem tab98 : byt Try.prog 23 = 32 := by kernel_rfl
theorem tab99 : zer Try.prog 23 = some (.agg (iv .u8 (zl 32)).toArray) := by kernel_rfl
theorem tab100 : und Try.prog 24 = .slice 9 := by kernel_rfl
theorem tab101 : szt Try.prog 24 = 1 := by kernel_rfl
theorem tab102 : byt Try.prog 24 = 24 := by kernel_rfl
theorem tab103 : zer Try.prog 24 = some (.slice none 0 0) := by kernel_rfl
theorem tab104 : und Try.prog 31 = .pointer 52 := by kernel_rfl
theorem tab105 : szt Try.prog 31 = 1 := by kernel_rfl
theorem tab106 : byt Try.prog 31 = 8 := by kernel_rfl
theorem tab107 : zer Try.prog 31 = some (.pointer none) := by kernel_rfl
theorem tab108 : und Try.prog 35 = .slice 5 := by kernel_rfl
theorem tab109 : szt Try.prog 35 = 1 := by kernel_rfl
theorem tab110 : byt Try.prog 35 = 24 := by kernel_rfl
theorem tab111 : zer Try.prog 35 = some (.slice none 0 0) := by kernel_rfl
theorem tab112 : und Try.prog 36 = .slice 37 := by kernel_rfl
theorem tab113 : szt Try.prog 36 = 1 := by kernel_rfl
theorem tab114 : byt Try.prog 36 = 24 := by kernel_rfl
theorem tab115 : zer Try.prog 36 = some (.slice none 0 0) := by kernel_rfl
theorem tab116 : und Try.prog 37 = .int .u16 := by kernel_rfl
theorem tab117 : szt Try.prog 37 = 1 := by kernel_rfl
theorem tab118 : byt Try.prog 37 = 2 := by kernel_rfl
theorem tab119 : zer Try.prog 37 = some (.int .u16 0) := by kernel_rfl
theorem tab120 : und Try.prog 40 = .array 16 5 := by kernel_rfl
theorem tab121 : flds Try.prog 40 = none := by kernel_rfl
theorem tab122 : gl Try.prog 40 = true := by kernel_rfl
theorem tab123 : szt Try.prog 40 = 16 := by kernel_rfl
theorem tab124 : byt Try.prog 40 = 16 := by kernel_rfl
theorem tab125 : zer Try.prog 40 = some (.agg (iv .u8 (zl 16)).toArray) := by kernel_rfl
theorem tab126 : und Try.prog 41 = .slice 43 := by kernel_rfl
theorem tab127 : szt Try.prog 41 = 1 := by kernel_rfl
theorem tab128 : byt Try.prog 41 = 24 := by kernel_rfl
theorem tab129 : zer Try.prog 41 = some (.slice none 0 0) := by kernel_rfl
theorem tab130 : und Try.prog 43 = .int .u64 := by kernel_rfl
theorem tab131 : szt Try.prog 43 = 1 := by kernel_rfl
theorem tab132 : byt Try.prog 43 = 8 := by kernel_rfl
theorem tab133 : zer Try.prog 43 = some (.int .u64 0) := by kernel_rfl
theorem tab134 : und Try.prog 47 = .array 5 43 := by kernel_rfl
theorem tab135 : flds Try.prog 47 = none := by kernel_rfl
theorem tab136 : gl Try.prog 47 = true := by kernel_rfl
theorem tab137 : szt Try.prog 47 = 5 := by kernel_rfl
theorem tab138 : byt Try.prog 47 = 40 := by kernel_rfl
theorem tab139 : zer Try.prog 47 = some (.agg (iv .u64 (zl 5)).toArray) := by kernel_rfl
theorem tab140 : und Try.prog 48 = .array 5 43 := by kernel_rfl
theorem tab141 : flds Try.prog 48 = none := by kernel_rfl
theorem tab142 : gl Try.prog 48 = true := by kernel_rfl
theorem tab143 : szt Try.prog 48 = 5 := by kernel_rfl
theorem tab144 : byt Try.prog 48 = 40 := by kernel_rfl
theorem tab145 : zer Try.prog 48 = some (.agg (iv .u64 (zl 5)).toArray) := by kernel_rfl
theorem tab146 : flds Try.prog 51 = some [(48, 0), (48, 5), (43, 10), (43, 11), (40, 12), (3, 28)] := by kernel_rfl
theorem tab147 : isAggD (und Try.prog 51) = true := by kernel_rfl
theorem tab148 : okD (und Try.prog 51) = true := by kernel_rfl
theorem tab149 : szt Try.prog 51 = 29 := by kernel_rfl
theorem tab150 : byt Try.prog 51 = 120 := by kernel_rfl
theorem tab151 : zer Try.prog 51 = some (.agg #[(.int .u64 0), (.int .u64 0), (.int .u64 0), (.int .u64 0), (.int .u64 0), (.int .u64 0), (.int .u64 0), (.int .u64 0), (.int .u64 0), (.int .u64 0), (.int .u64 0), (.int .u64 0), (.int .u8 0), (.int .u8 0), (.int .u8 0), (.int .u8 0), (.int .u8 0), (.int .u8 0), (.int .u8 0), (.int .u8 0), (.int .u8 0), (.int .u8 0), (.int .u8 0), (.int .u8 0), (.int .u8 0), (.int .u8 0), (.int .u8 0), (.int .u8 0), (.int .i64 0)]) := by kernel_rfl
theorem tab152 : flds Try.prog 52 = some [(48, 0), (48, 5), (43, 10), (43, 11), (40, 12), (3, 28)] := by kernel_rfl
theorem tab153 : isAggD (und Try.prog 52) = true := by kernel_rfl
theorem tab154 : okD (und Try.prog 52) = true := by kernel_rfl
theorem tab155 : szt Try.prog 52 = 29 := by kernel_rfl
theorem tab156 : byt Try.prog 52 = 120 := by kernel_rfl
theorem tab157 : zer Try.prog 52 = some (.agg #[(.int .u64 0), (.int .u64 0), (.int .u64 0), (.int .u64 0), (.int .u64 0), (.int .u64 0), (.int .u64 0), (.int .u64 0), (.int .u64 0), (.int .u64 0), (.int .u64 0), (.int .u64 0), (.int .u8 0), (.int .u8 0), (.int .u8 0), (.int .u8 0), (.int .u8 0), (.int .u8 0), (.int .u8 0), (.int .u8 0), (.int .u8 0), (.int .u8 0), (.int .u8 0), (.int .u8 0), (.int .u8 0), (.int .u8 0), (.int .u8 0), (.int .u8 0), (.int .i64 0)]) := by kernel_rfl
theorem tab158 : und Try.prog 60 = .int .u64 := by kernel_rfl
theorem tab159 : szt Try.prog 60 = 1 := by kernel_rfl
theorem tab160 : byt Try.prog 60 = 8 := by kernel_rfl
theorem tab161 : zer Try.prog 60 = some (.int .u64 0) := by kernel_rfl
theorem tab162 : und Try.prog 64 = .pointer 66 := by kernel_rfl
theorem tab163 : szt Try.prog 64 = 1 := by kernel_rfl
theorem tab164 : byt Try.prog 64 = 8 := by kernel_rfl
theorem tab165 : zer Try.prog 64 = some (.pointer none) := by kernel_rfl
theorem tab166 : flds Try.prog 65 = some [(64, 0), (35, 1)] := by kernel_rfl
theorem tab167 : isAggD (und Try.prog 65) = true := by kernel_rfl
theorem tab168 : okD (und Try.prog 65) = true := by kernel_rfl
theorem tab169 : szt Try.prog 65 = 2 := by kernel_rfl
theorem tab170 : byt Try.prog 65 = 32 := by kernel_rfl
theorem tab171 : zer Try.prog 65 = some (.agg #[(.pointer none), (.slice none 0 0)]) := by kernel_rfl
theorem tab172 : flds Try.prog 66 = some [(64, 0), (35, 1)] := by kernel_rfl
theorem tab173 : isAggD (und Try.prog 66) = true := by kernel_rfl
theorem tab174 : okD (und Try.prog 66) = true := by kernel_rfl
theorem tab175 : szt Try.prog 66 = 2 := by kernel_rfl
theorem tab176 : byt Try.prog 66 = 32 := by kernel_rfl
theorem tab177 : zer Try.prog 66 = some (.agg #[(.pointer none), (.slice none 0 0)]) := by kernel_rfl
theorem tab178 : und Try.prog 73 = .int .u32 := by kernel_rfl
theorem tab179 : szt Try.prog 73 = 1 := by kernel_rfl
theorem tab180 : byt Try.prog 73 = 4 := by kernel_rfl
theorem tab181 : zer Try.prog 73 = some (.int .u32 0) := by kernel_rfl
theorem tab182 : und Try.prog 77 = .pointer 5 := by kernel_rfl
theorem tab183 : szt Try.prog 77 = 1 := by kernel_rfl
theorem tab184 : byt Try.prog 77 = 8 := by kernel_rfl
theorem tab185 : zer Try.prog 77 = some (.pointer none) := by kernel_rfl
theorem tab186 : flds Try.prog 81 = some [(17, 0), (17, 1), (17, 2), (9, 3)] := by kernel_rfl
theorem tab187 : isAggD (und Try.prog 81) = true := by kernel_rfl
theorem tab188 : okD (und Try.prog 81) = true := by kernel_rfl
theorem tab189 : szt Try.prog 81 = 4 := by kernel_rfl
theorem tab190 : byt Try.prog 81 = 40 := by kernel_rfl
theorem tab191 : zer Try.prog 81 = some (.agg #[(.pointer none), (.pointer none), (.pointer none), (.string ByteArray.empty)]) := by kernel_rfl
theorem tab192 : flds Try.prog 82 = some [(17, 0), (17, 1), (17, 2), (9, 3)] := by kernel_rfl
theorem tab193 : isAggD (und Try.prog 82) = true := by kernel_rfl
theorem tab194 : okD (und Try.prog 82) = true := by kernel_rfl
theorem tab195 : szt Try.prog 82 = 4 := by kernel_rfl
theorem tab196 : byt Try.prog 82 = 40 := by kernel_rfl
theorem tab197 : zer Try.prog 82 = some (.agg #[(.pointer none), (.pointer none), (.pointer none), (.string ByteArray.empty)]) := by kernel_rfl
theorem tab198 : und Try.prog 83 = .array 0 16 := by kernel_rfl
theorem tab199 : flds Try.prog 83 = none := by kernel_rfl
theorem tab200 : szt Try.prog 83 = 0 := by kernel_rfl
theorem tab201 : byt Try.prog 83 = 0 := by kernel_rfl
theorem tab202 : zer Try.prog 83 = some (.agg #[]) := by kernel_rfl
theorem tab203 : flds Try.prog 84 = some [(83, 0)] := by kernel_rfl
theorem tab204 : isAggD (und Try.prog 84) = true := by kernel_rfl
theorem tab205 : okD (und Try.prog 84) = true := by kernel_rfl
theorem tab206 : szt Try.prog 84 = 0 := by kernel_rfl
theorem tab207 : byt Try.prog 84 = 0 := by kernel_rfl
theorem tab208 : zer Try.prog 84 = some (.agg #[]) := by kernel_rfl
theorem tab209 : flds Try.prog 85 = some [(83, 0)] := by kernel_rfl
theorem tab210 : isAggD (und Try.prog 85) = true := by kernel_rfl
theorem tab211 : okD (und Try.prog 85) = true := by kernel_rfl
theorem tab212 : szt Try.prog 85 = 0 := by kernel_rfl
theorem tab213 : byt Try.prog 85 = 0 := by kernel_rfl
theorem tab214 : zer Try.prog 85 = some (.agg #[]) := by kernel_rfl
theorem tab215 : und Try.prog 86 = .int .u8 := by kernel_rfl
theorem tab216 : szt Try.prog 86 = 1 := by kernel_rfl
theorem tab217 : byt Try.prog 86 = 1 := by kernel_rfl
theorem tab218 : zer Try.prog 86 = some (.int .u8 0) := by kernel_rfl
theorem tab219 : und Try.prog 87 = .int .u8 := by kernel_rfl
theorem tab220 : szt Try.prog 87 = 1 := by kernel_rfl
theorem tab221 : byt Try.prog 87 = 1 := by kernel_rfl
theorem tab222 : zer Try.prog 87 = some (.int .u8 0) := by kernel_rfl
theorem tab223 : und Try.prog 89 = .int .i32 := by kernel_rfl
theorem tab224 : szt Try.prog 89 = 1 := by kernel_rfl
theorem tab225 : byt Try.prog 89 = 4 := by kernel_rfl
theorem tab226 : zer Try.prog 89 = some (.int .i32 0) := by kernel_rfl
theorem tab227 : und Try.prog 90 = .int .i32 := by kernel_rfl
theorem tab228 : szt Try.prog 90 = 1 := by kernel_rfl
theorem tab229 : byt Try.prog 90 = 4 := by kernel_rfl
theorem tab230 : zer Try.prog 90 = some (.int .i32 0) := by kernel_rfl
theorem tab231 : flds Try.prog 91 = some [(12, 0), (12, 1), (73, 2), (86, 3), (5, 4), (5, 5), (87, 6), (88, 7), (77, 8), (89, 9), (90, 10)] := by kernel_rfl
theorem tab232 : isAggD (und Try.prog 91) = true := by kernel_rfl
theorem tab233 : okD (und Try.prog 91) = true := by kernel_rfl
theorem tab234 : szt Try.prog 91 = 11 := by kernel_rfl
theorem tab235 : byt Try.prog 91 = 48 := by kernel_rfl
theorem tab236 : zer Try.prog 91 = some (.agg #[(.int .u64 0), (.int .u64 0), (.int .u32 0), (.int .u8 0), (.int .u8 0), (.int .u8 0), (.int .u8 0), .nilFunc, (.pointer none), (.int .i32 0), (.int .i32 0)]) := by kernel_rfl
theorem tab237 : flds Try.prog 92 = some [(12, 0), (12, 1), (73, 2), (86, 3), (5, 4), (5, 5), (87, 6), (88, 7), (77, 8), (89, 9), (90, 10)] := by kernel_rfl
theorem tab238 : isAggD (und Try.prog 92) = true := by kernel_rfl
theorem tab239 : okD (und Try.prog 92) = true := by kernel_rfl
theorem tab240 : szt Try.prog 92 = 11 := by kernel_rfl
theorem tab241 : byt Try.prog 92 = 48 := by kernel_rfl
theorem tab242 : zer Try.prog 92 = some (.agg #[(.int .u64 0), (.int .u64 0), (.int .u32 0), (.int .u8 0), (.int .u8 0), (.int .u8 0), (.int .u8 0), .nilFunc, (.pointer none), (.int .i32 0), (.int .i32 0)]) := by kernel_rfl
theorem tab : (und Try.prog 2 = .int .i64) ∧ (szt Try.prog 2 = 1) ∧ (byt Try.prog 2 = 8) ∧ (zer Try.prog 2 = some (.int .i64 0)) ∧ (und Try.prog 3 = .int .i64) ∧ (szt Try.prog 3 = 1) ∧ (byt Try.prog 3 = 8) ∧ (zer Try.prog 3 = some (.int .i64 0)) ∧ (und Try.prog 4 = .bool) ∧ (szt Try.prog 4 = 1) ∧ (byt Try.prog 4 = 1) ∧ (zer Try.prog 4 = some (.bool false)) ∧ (und Try.prog 5 = .int .u8) ∧ (szt Try.prog 5 = 1) ∧ (byt Try.prog 5 = 1) ∧ (zer Try.prog 5 = some (.int .u8 0)) ∧ (und Try.prog 6 = .int .u8) ∧ (szt Try.prog 6 = 1) ∧ (byt Try.prog 6 = 1) ∧ (zer Try.prog 6 = some (.int .u8 0)) ∧ (flds Try.prog 7 = some [(2, 0), (3, 1), (4, 2), (6, 3)]) ∧ (isAggD (und Try.prog 7) = true) ∧ (okD (und Try.prog 7) = true) ∧ (szt Try.prog 7 = 4) ∧ (byt Try.prog 7 = 24) ∧ (zer Try.prog 7 = some (.agg #[(.int .i64 0), (.int .i64 0), (.bool false), (.int .u8 0)])) ∧ (flds Try.prog 8 = some [(2, 0), (3, 1), (4, 2), (6, 3)]) ∧ (isAggD (und Try.prog 8) = true) ∧ (okD (und Try.prog 8) = true) ∧ (szt Try.prog 8 = 4) ∧ (byt Try.prog 8 = 24) ∧ (zer Try.prog 8 = some (.agg #[(.int .i64 0), (.int .i64 0), (.bool false), (.int .u8 0)])) ∧ (und Try.prog 9 = .string) ∧ (szt Try.prog 9 = 1) ∧ (byt Try.prog 9 = 16) ∧ (zer Try.prog 9 = some (.string ByteArray.empty)) ∧ (und Try.prog 10 = .string) ∧ (szt Try.prog 10 = 1) ∧ (byt Try.prog 10 = 16) ∧ (zer Try.prog 10 = some (.string ByteArray.empty)) ∧ (und Try.prog 11 = .string) ∧ (szt Try.prog 11 = 1) ∧ (byt Try.prog 11 = 16) ∧ (zer Try.prog 11 = some (.string ByteArray.empty)) ∧ (und Try.prog 12 = .int .u64) ∧ (szt Try.prog 12 = 1) ∧ (byt Try.prog 12 = 8) ∧ (zer Try.prog 12 = some (.int .u64 0)) ∧ (flds Try.prog 13 = some [(9, 0), (12, 1)]) ∧ (isAggD (und Try.prog 13) = true) ∧ (okD (und Try.prog 13) = true) ∧ (szt Try.prog 13 = 2) ∧ (byt Try.prog 13 = 24) ∧ (zer Try.prog 13 = some (.agg #[(.string ByteArray.empty), (.int .u64 0)])) ∧ (flds Try.prog 14 = some [(9, 0), (12, 1)]) ∧ (isAggD (und Try.prog 14) = true) ∧ (okD (und Try.prog 14) = true) ∧ (szt Try.prog 14 = 2) ∧ (byt Try.prog 14 = 24) ∧ (zer Try.prog 14 = some (.agg #[(.string ByteArray.empty), (.int .u64 0)])) ∧ (und Try.prog 15 = .pointer 82) ∧ (szt Try.prog 15 = 1) ∧ (byt Try.prog 15 = 8) ∧ (zer Try.prog 15 = some (.pointer none)) ∧ (und Try.prog 16 = .pointer 85) ∧ (szt Try.prog 16 = 1) ∧ (byt Try.prog 16 = 8) ∧ (zer Try.prog 16 = some (.pointer none)) ∧ (und Try.prog 17 = .pointer 92) ∧ (szt Try.prog 17 = 1) ∧ (byt Try.prog 17 = 8) ∧ (zer Try.prog 17 = some (.pointer none)) ∧ (flds Try.prog 18 = some [(17, 0)]) ∧ (isAggD (und Try.prog 18) = true) ∧ (okD (und Try.prog 18) = true) ∧ (szt Try.prog 18 = 1) ∧ (byt Try.prog 18 = 8) ∧ (zer Try.prog 18 = some (.agg #[(.pointer none)])) ∧ (flds Try.prog 19 = some [(17, 0)]) ∧ (isAggD (und Try.prog 19) = true) ∧ (okD (und Try.prog 19) = true) ∧ (szt Try.prog 19 = 1) ∧ (byt Try.prog 19 = 8) ∧ (zer Try.prog 19 = some (.agg #[(.pointer none)])) ∧ (und Try.prog 21 = .int .i32) ∧ (szt Try.prog 21 = 1) ∧ (byt Try.prog 21 = 4) ∧ (zer Try.prog 21 = some (.int .i32 0)) ∧ (und Try.prog 22 = .array 32 5) ∧ (flds Try.prog 22 = none) ∧ (gl Try.prog 22 = true) ∧ (szt Try.prog 22 = 32) ∧ (byt Try.prog 22 = 32) ∧ (zer Try.prog 22 = some (.agg (iv .u8 (zl 32)).toArray)) ∧ (und Try.prog 23 = .array 32 5) ∧ (flds Try.prog 23 = none) ∧ (gl Try.prog 23 = true) ∧ (szt Try.prog 23 = 32) ∧ (byt Try.prog 23 = 32) ∧ (zer Try.prog 23 = some (.agg (iv .u8 (zl 32)).toArray)) ∧ (und Try.prog 24 = .slice 9) ∧ (szt Try.prog 24 = 1) ∧ (byt Try.prog 24 = 24) ∧ (zer Try.prog 24 = some (.slice none 0 0)) ∧ (und Try.prog 31 = .pointer 52) ∧ (szt Try.prog 31 = 1) ∧ (byt Try.prog 31 = 8) ∧ (zer Try.prog 31 = some (.pointer none)) ∧ (und Try.prog 35 = .slice 5) ∧ (szt Try.prog 35 = 1) ∧ (byt Try.prog 35 = 24) ∧ (zer Try.prog 35 = some (.slice none 0 0)) ∧ (und Try.prog 36 = .slice 37) ∧ (szt Try.prog 36 = 1) ∧ (byt Try.prog 36 = 24) ∧ (zer Try.prog 36 = some (.slice none 0 0)) ∧ (und Try.prog 37 = .int .u16) ∧ (szt Try.prog 37 = 1) ∧ (byt Try.prog 37 = 2) ∧ (zer Try.prog 37 = some (.int .u16 0)) ∧ (und Try.prog 40 = .array 16 5) ∧ (flds Try.prog 40 = none) ∧ (gl Try.prog 40 = true) ∧ (szt Try.prog 40 = 16) ∧ (byt Try.prog 40 = 16) ∧ (zer Try.prog 40 = some (.agg (iv .u8 (zl 16)).toArray)) ∧ (und Try.prog 41 = .slice 43) ∧ (szt Try.prog 41 = 1) ∧ (byt Try.prog 41 = 24) ∧ (zer Try.prog 41 = some (.slice none 0 0)) ∧ (und Try.prog 43 = .int .u64) ∧ (szt Try.prog 43 = 1) ∧ (byt Try.prog 43 = 8) ∧ (zer Try.prog 43 = some (.int .u64 0)) ∧ (und Try.prog 47 = .array 5 43) ∧ (flds Try.prog 47 = none) ∧ (gl Try.prog 47 = true) ∧ (szt Try.prog 47 = 5) ∧ (byt Try.prog 47 = 40) ∧ (zer Try.prog 47 = some (.agg (iv .u64 (zl 5)).toArray)) ∧ (und Try.prog 48 = .array 5 43) ∧ (flds Try.prog 48 = none) ∧ (gl Try.prog 48 = true) ∧ (szt Try.prog 48 = 5) ∧ (byt Try.prog 48 = 40) ∧ (zer Try.prog 48 = some (.agg (iv .u64 (zl 5)).toArray)) ∧ (flds Try.prog 51 = some [(48, 0), (48, 5), (43, 10), (43, 11), (40, 12), (3, 28)]) ∧ (isAggD (und Try.prog 51) = true) ∧ (okD (und Try.prog 51) = true) ∧ (szt Try.prog 51 = 29) ∧ (byt Try.prog 51 = 120) ∧ (zer Try.prog 51 = some (.agg #[(.int .u64 0), (.int .u64 0), (.int .u64 0), (.int .u64 0), (.int .u64 0), (.int .u64 0), (.int .u64 0), (.int .u64 0), (.int .u64 0), (.int .u64 0), (.int .u64 0), (.int .u64 0), (.int .u8 0), (.int .u8 0), (.int .u8 0), (.int .u8 0), (.int .u8 0), (.int .u8 0), (.int .u8 0), (.int .u8 0), (.int .u8 0), (.int .u8 0), (.int .u8 0), (.int .u8 0), (.int .u8 0), (.int .u8 0), (.int .u8 0), (.int .u8 0), (.int .i64 0)])) ∧ (flds Try.prog 52 = some [(48, 0), (48, 5), (43, 10), (43, 11), (40, 12), (3, 28)]) ∧ (isAggD (und Try.prog 52) = true) ∧ (okD (und Try.prog 52) = true) ∧ (szt Try.prog 52 = 29) ∧ (byt Try.prog 52 = 120) ∧ (zer Try.prog 52 = some (.agg #[(.int .u64 0), (.int .u64 0), (.int .u64 0), (.int .u64 0), (.int .u64 0), (.int .u64 0), (.int .u64 0), (.int .u64 0), (.int .u64 0), (.int .u64 0), (.int .u64 0), (.int .u64 0), (.int .u8 0), (.int .u8 0), (.int .u8 0), (.int .u8 0), (.int .u8 0), (.int .u8 0), (.int .u8 0), (.int .u8 0), (.int .u8 0), (.int .u8 0), (.int .u8 0), (.int .u8 0), (.int .u8 0), (.int .u8 0), (.int .u8 0), (.int .u8 0), (.int .i64 0)])) ∧ (und Try.prog 60 = .int .u64) ∧ (szt Try.prog 60 = 1) ∧ (byt Try.prog 60 = 8) ∧ (zer Try.prog 60 = some (.int .u64 0)) ∧ (und Try.prog 64 = .pointer 66) ∧ (szt Try.prog 64 = 1) ∧ (byt Try.prog 64 = 8) ∧ (zer Try.prog 64 = some (.pointer none)) ∧ (flds Try.prog 65 = some [(64, 0), (35, 1)]) ∧ (isAggD (und Try.prog 65) = true) ∧ (okD (und Try.prog 65) = true) ∧ (szt Try.prog 65 = 2) ∧ (byt Try.prog 65 = 32) ∧ (zer Try.prog 65 = some (.agg #[(.pointer none), (.slice none 0 0)])) ∧ (flds Try.prog 66 = some [(64, 0), (35, 1)]) ∧ (isAggD (und Try.prog 66) = true) ∧ (okD (und Try.prog 66) = true) ∧ (szt Try.prog 66 = 2) ∧ (byt Try.prog 66 = 32) ∧ (zer Try.prog 66 = some (.agg #[(.pointer none), (.slice none 0 0)])) ∧ (und Try.prog 73 = .int .u32) ∧ (szt Try.prog 73 = 1) ∧ (byt Try.prog 73 = 4) ∧ (zer Try.prog 73 = some (.int .u32 0)) ∧ (und Try.prog 77 = .pointer 5) ∧ (szt Try.prog 77 = 1) ∧ (byt Try.prog 77 = 8) ∧ (zer Try.prog 77 = some (.pointer none)) ∧ (flds Try.prog 81 = some [(17, 0), (17, 1), (17, 2), (9, 3)]) ∧ (isAggD (und Try.prog 81) = true) ∧ (okD (und Try.prog 81) = true) ∧ (szt Try.prog 81 = 4) ∧ (byt Try.prog 81 = 40) ∧ (zer Try.prog 81 = some (.agg #[(.pointer none), (.pointer none), (.pointer none), (.string ByteArray.empty)])) ∧ (flds Try.prog 82 = some [(17, 0), (17, 1), (17, 2), (9, 3)]) ∧ (isAggD (und Try.prog 82) = true) ∧ (okD (und Try.prog 82) = true) ∧ (szt Try.prog 82 = 4) ∧ (byt Try.prog 82 = 40) ∧ (zer Try.prog 82 = some (.agg #[(.pointer none), (.pointer none), (.pointer none), (.string ByteArray.empty)])) ∧ (und Try.prog 83 = .array 0 16) ∧ (flds Try.prog 83 = none) ∧ (szt Try.prog 83 = 0) ∧ (byt Try.prog 83 = 0) ∧ (zer Try.prog 83 = some (.agg #[])) ∧ (flds Try.prog 84 = some [(83, 0)]) ∧ (isAggD (und Try.prog 84) = true) ∧ (okD (und Try.prog 84) = true) ∧ (szt Try.prog 84 = 0) ∧ (byt Try.prog 84 = 0) ∧ (zer Try.prog 84 = some (.agg #[])) ∧ (flds Try.prog 85 = some [(83, 0)]) ∧ (isAggD (und Try.prog 85) = true) ∧ (okD (und Try.prog 85) = true) ∧ (szt Try.prog 85 = 0) ∧ (byt Try.prog 85 = 0) ∧ (zer Try.prog 85 = some (.agg #[])) ∧ (und Try.prog 86 = .int .u8) ∧ (szt Try.prog 86 = 1) ∧ (byt Try.prog 86 = 1) ∧ (zer Try.prog 86 = some (.int .u8 0)) ∧ (und Try.prog 87 = .int .u8) ∧ (szt Try.prog 87 = 1) ∧ (byt Try.prog 87 = 1) ∧ (zer Try.prog 87 = some (.int .u8 0)) ∧ (und Try.prog 89 = .int .i32) ∧ (szt Try.prog 89 = 1) ∧ (byt Try.prog 89 = 4) ∧ (zer Try.prog 89 = some (.int .i32 0)) ∧ (und Try.prog 90 = .int .i32) ∧ (szt Try.prog 90 = 1) ∧ (byt Try.prog 90 = 4) ∧ (zer Try.prog 90 = some (.int .i32 0)) ∧ (flds Try.prog 91 = some [(12, 0), (12, 1), (73, 2), (86, 3), (5, 4), (5, 5), (87, 6), (88, 7), (77, 8), (89, 9), (90, 10)]) ∧ (isAggD (und Try.prog 91) = true) ∧ (okD (und Try.prog 91) = true) ∧ (szt Try.prog 91 = 11) ∧ (byt Try.prog 91 = 48) ∧ (zer Try.prog 91 = some (.agg #[(.int .u64 0), (.int .u64 0), (.int .u32 0), (.int .u8 0), (.int .u8 0), (.int .u8 0), (.int .u8 0), .nilFunc, (.pointer none), (.int .i32 0), (.int .i32 0)])) ∧ (flds Try.prog 92 = some [(12, 0), (12, 1), (73, 2), (86, 3), (5, 4), (5, 5), (87, 6), (88, 7), (77, 8), (89, 9), (90, 10)]) ∧ (isAggD (und Try.prog 92) = true) ∧ (okD (und Try.prog 92) = true) ∧ (szt Try.prog 92 = 11) ∧ (byt Try.prog 92 = 48) ∧ (zer Try.prog 92 = some (.agg #[(.int .u64 0), (.int .u64 0), (.int .u32 0), (.int .u8 0), (.int .u8 0), (.int .u8 0), (.int .u8 0), .nilFunc, (.pointer none), (.int .i32 0), (.int .i32 0)])) :=
  ⟨tab0, tab1, tab2, tab3, tab4, tab5, tab6, tab7, tab8, tab9, tab10, tab11, tab12, tab13, tab14, tab15, tab16, tab17, tab18, tab19, tab20, tab21, tab22, tab23, tab24, tab25, tab26, tab27, tab28, tab29, tab30, tab31, tab32, tab33, tab34, tab35, tab36, tab37, tab38, tab39, tab40, tab41, tab42, tab43, tab44, tab45, tab46, tab47, tab48, tab49, tab50, tab51, tab52, tab53, tab54, tab55, tab56, tab57, tab58, tab59, tab60, tab61, tab62, tab63, tab64, tab65, tab66, tab67, tab68, tab69, tab70, tab71, tab72, tab73, tab74, tab75, tab76, tab77, tab78, tab79, tab80, tab81, tab82, tab83, tab84, tab85, tab86, tab87, tab88, tab89, tab90, tab91, tab92, tab93, tab94, tab95, tab96, tab97, tab98, tab99, tab100, tab101, tab102, tab103, tab104, tab105, tab106, tab107, tab108, tab109, tab110, tab111, tab112, tab113, tab114, tab115, tab116, tab117, tab118, tab119, tab120, tab121, tab122, tab123, tab124, tab125, tab126, tab127, tab128, tab129, tab130, tab131, tab132, tab133, tab134, tab135, tab136, tab137, tab138, tab139, tab140, tab141, tab142, tab143, tab144, tab145, tab146, tab147, tab148, tab149, tab150, tab151, tab152, tab153, tab154, tab155, tab156, tab157, tab158, tab159, tab160, tab161, tab162, tab163, tab164, tab165, tab166, tab167, tab168, tab169, tab170, tab171, tab172, tab173, tab174, tab175, tab176, tab177, tab178, tab179, tab180, tab181, tab182, tab183, tab184, tab185, tab186, tab187, tab188, tab189, tab190, tab191, tab192, tab193, tab194, tab195, tab196, tab197, tab198, tab199, tab200, tab201, tab202, tab203, tab204, tab205, tab206, tab207, tab208, tab209, tab210, tab211, tab212, tab213, tab214, tab215, tab216, tab217, tab218, tab219, tab220, tab221, tab222, tab223, tab224, tab225, tab226, tab227, tab228, tab229, tab230, tab231, tab232, tab233, tab234, tab235, tab236, tab237, tab238, tab239, tab240, tab241, tab242⟩
end Go.Proofs.Ythkcbhealphpmaa
