/-
  The types of this program: shapes, sizes, zero values. Each by the kernel.
-/
import Derived.Test.YtpdijcaikjobiaaLibB
import Derived.Test.YtpdijcaikjobiaaChecked
namespace Go.Proofs.Ytpdijcaikjobiaa
open Go Go.RowKit
set_option maxRecDepth 100000
theorem tab0 : und Try.prog 2 = .int .i64 := by kernel_rfl
theorem tab1 : szt Try.prog 2 = 1 := by kernel_rfl
theorem tab2 : byt Try.prog 2 = 8 := by kernel_rfl
theorem tab3 : zer Try.prog 2 = some (.int .i64 0) := by kernel_rfl
theorem tab4 : und Try.prog 3 = .int .i64 := by kernel_rfl
theorem tab5 : szt Try.prog 3 = 1 := by kernel_rfl
theorem tab6 : byt Try.prog 3 = 8 := by kernel_rfl
theorem tab7 : zer Try.prog 3 = some (.int .i64 0) := by kernel_rfl
theorem tab8 : und Try.prog 4 = .bool := by kernel_rfl
theorem tab9 : szt Try.prog 4 = 1 := by kernel_rfl
theorem tab10 : byt Try.prog 4 = 1 := by kernel_rfl
theorem tab11 : zer Try.prog 4 = some (.bool false) := by kernel_rfl
theorem tab12 : und Try.prog 5 = .int .u8 := by kernel_rfl
theorem tab13 : szt Try.prog 5 = 1 := by kernel_rfl
theorem tab14 : byt Try.prog 5 = 1 := by kernel_rfl
theorem tab15 : zer Try.prog 5 = some (.int .u8 0) := by kernel_rfl
theorem tab16 : und Try.prog 6 = .int .u8 := by kernel_rfl
theorem tab17 : szt Try.prog 6 = 1 := by kernel_rfl
theorem tab18 : byt Try.prog 6 = 1 := by kernel_rfl
theorem tab19 : zer Try.prog 6 = some (.int .u8 0) := by kernel_rfl
theorem tab20 : flds Try.prog 7 = some [(2, 0), (3, 1), (4, 2), (6, 3)] := by kernel_rfl
theorem tab21 : isAggD (und Try.prog 7) = true := by kernel_rfl
theorem tab22 : okD (und Try.prog 7) = true := by kernel_rfl
theorem tab23 : szt Try.prog 7 = 4 := by kernel_rfl
theorem tab24 : byt Try.prog 7 = 24 := by kernel_rfl
theorem tab25 : zer Try.prog 7 = some (.agg #[(.int .i64 0), (.int .i64 0), (.bool false), (.int .u8 0)]) := by kernel_rfl
theorem tab26 : flds Try.prog 8 = some [(2, 0), (3, 1), (4, 2), (6, 3)] := by kernel_rfl
theorem tab27 : isAggD (und Try.prog 8) = true := by kernel_rfl
theorem tab28 : okD (und Try.prog 8) = true := by kernel_rfl
theorem tab29 : szt Try.prog 8 = 4 := by kernel_rfl
theorem tab30 : byt Try.prog 8 = 24 := by kernel_rfl
theorem tab31 : zer Try.prog 8 = some (.agg #[(.int .i64 0), (.int .i64 0), (.bool false), (.int .u8 0)]) := by kernel_rfl
theorem tab32 : und Try.prog 9 = .string := by kernel_rfl
theorem tab33 : szt Try.prog 9 = 1 := by kernel_rfl
theorem tab34 : byt Try.prog 9 = 16 := by kernel_rfl
theorem tab35 : zer Try.prog 9 = some (.string ByteArray.empty) := by kernel_rfl
theorem tab36 : und Try.prog 10 = .string := by kernel_rfl
theorem tab37 : szt Try.prog 10 = 1 := by kernel_rfl
theorem tab38 : byt Try.prog 10 = 16 := by kernel_rfl
theorem tab39 : zer Try.prog 10 = some (.string ByteArray.empty) := by kernel_rfl
theorem tab40 : und Try.prog 11 = .string := by kernel_rfl
theorem tab41 : szt Try.prog 11 = 1 := by kernel_rfl
theorem tab42 : byt Try.prog 11 = 16 := by kernel_rfl
theorem tab43 : zer Try.prog 11 = some (.string ByteArray.empty) := by kernel_rfl
theorem tab44 : und Try.prog 12 = .int .u64 := by kernel_rfl
theorem tab45 : szt Try.prog 12 = 1 := by kernel_rfl
theorem tab46 : byt Try.prog 12 = 8 := by kernel_rfl
theorem tab47 : zer Try.prog 12 = some (.int .u64 0) := by kernel_rfl
theorem tab48 : flds Try.prog 13 = some [(9, 0), (12, 1)] := by kernel_rfl
theorem tab49 : isAggD (und Try.prog 13) = true := by kernel_rfl
theorem tab50 : okD (und Try.prog 13) = true := by kernel_rfl
theorem tab51 : szt Try.prog 13 = 2 := by kernel_rfl
theorem tab52 : byt Try.prog 13 = 24 := by kernel_rfl
theorem tab53 : zer Try.prog 13 = some (.agg #[(.string ByteArray.empty), (.int .u64 0)]) := by kernel_rfl
theorem tab54 : flds Try.prog 14 = some [(9, 0), (12, 1)] := by kernel_rfl
theorem tab55 : isAggD (und Try.prog 14) = true := by kernel_rfl
theorem tab56 : okD (und Try.prog 14) = true := by kernel_rfl
theorem tab57 : szt Try.prog 14 = 2 := by kernel_rfl
theorem tab58 : byt Try.prog 14 = 24 := by kernel_rfl
theorem tab59 : zer Try.prog 14 = some (.agg #[(.string ByteArray.empty), (.int .u64 0)]) := by kernel_rfl
theorem tab60 : und Try.prog 15 = .pointer 71 := by kernel_rfl
theorem tab61 : szt Try.prog 15 = 1 := by kernel_rfl
theorem tab62 : byt Try.prog 15 = 8 := by kernel_rfl
theorem tab63 : zer Try.prog 15 = some (.pointer none) := by kernel_rfl
theorem tab64 : und Try.prog 16 = .pointer 74 := by kernel_rfl
theorem tab65 : szt Try.prog 16 = 1 := by kernel_rfl
theorem tab66 : byt Try.prog 16 = 8 := by kernel_rfl
theorem tab67 : zer Try.prog 16 = some (.pointer none) := by kernel_rfl
theorem tab68 : und Try.prog 17 = .pointer 82 := by kernel_rfl
theorem tab69 : szt Try.prog 17 = 1 := by kernel_rfl
theorem tab70 : byt Try.prog 17 = 8 := by kernel_rfl
theorem tab71 : zer Try.prog 17 = some (.pointer none) := by kernel_rfl
theorem tab72 : flds Try.prog 18 = some [(17, 0)] := by kernel_rfl
theorem tab73 : isAggD (und Try.prog 18) = true := by kernel_rfl
theorem tab74 : okD (und Try.prog 18) = true := by kernel_rfl
theorem tab75 : szt Try.prog 18 = 1 := by kernel_rfl
theorem tab76 : byt Try.prog 18 = 8 := by kernel_rfl
theorem tab77 : zer Try.prog 18 = some (.agg #[(.pointer none)]) := by kernel_rfl
theorem tab78 : flds Try.prog 19 = some [(17, 0)] := by kernel_rfl
theorem tab79 : isAggD (und Try.prog 19) = true := by kernel_rfl
theorem tab80 : okD (und Try.prog 19) = true := by kernel_rfl
theorem tab81 : szt Try.prog 19 = 1 := by kernel_rfl
theorem tab82 : byt Try.prog 19 = 8 := by kernel_rfl
theorem tab83 : zer Try.prog 19 = some (.agg #[(.pointer none)]) := by kernel_rfl
theorem tab84 : und Try.prog 21 = .int .i32 := by kernel_rfl
theorem tab85 : szt Try.prog 21 = 1 := by kernel_rfl
theorem tab86 : byt Try.prog 21 = 4 := by kernel_rfl
theorem tab87 : zer Try.prog 21 = some (.int .i32 0) := by kernel_rfl
theorem tab88 : und Try.prog 22 = .slice 33 := by kernel_rfl
theorem tab89 : szt Try.prog 22 = 1 := by kernel_rfl
theorem tab90 : byt Try.prog 22 = 24 := by kernel_rfl
theorem tab91 : zer Try.prog 22 = some (.slice none 0 0) := by kernel_rfl
theorem tab92 : und Try.prog 25 = .slice 5 := by kernel_rfl
theorem tab93 : szt Try.prog 25 = 1 := by kernel_rfl
theorem tab94 : byt Try.prog 25 = 24 := by kernel_rfl
theorem tab95 : zer Try.prog 25 = some (.slice none 0 0) := by kernel_rfl
theorem tab96 : flds Try.prog 26 = some [(25, 0)] := by kernel_rfl
theorem tab97 : isAggD (und Try.prog 26) = true := by kernel_rfl
theorem tab98 : okD (und Try.prog 26) = true := by kernel_rfl
theorem tab99 : szt Try.prog 26 = 1 := by kernel_rfl
theorem tab100 : byt Try.prog 26 = 24 := by kernel_rfl
theorem tab101 : zer Try.prog 26 = some (.agg #[(.slice none 0 0)]) := by kernel_rfl
theorem tab102 : flds Try.prog 27 = some [(25, 0)] := by kernel_rfl
theorem tab103 : isAggD (und Try.prog 27) = true := by kernel_rfl
theorem tab104 : okD (und Try.prog 27) = true := by kernel_rfl
theorem tab105 : szt Try.prog 27 = 1 := by kernel_rfl
theorem tab106 : byt Try.prog 27 = 24 := by kernel_rfl
theorem tab107 : zer Try.prog 27 = some (.agg #[(.slice none 0 0)]) := by kernel_rfl
theorem tab108 : und Try.prog 29 = .pointer 27 := by kernel_rfl
theorem tab109 : szt Try.prog 29 = 1 := by kernel_rfl
theorem tab110 : byt Try.prog 29 = 8 := by kernel_rfl
theorem tab111 : zer Try.prog 29 = some (.pointer none) := by kernel_rfl
theorem tab112 : und Try.prog 30 = .slice 37 := by kernel_rfl
theorem tab113 : szt Try.prog 30 = 1 := by kernel_rfl
theorem tab114 : byt Try.prog 30 = 24 := by kernel_rfl
theorem tab115 : zer Try.prog 30 = some (.slice none 0 0) := by kernel_rfl
theorem tab116 : und Try.prog 31 = .slice 41 := by kernel_rfl
theorem tab117 : szt Try.prog 31 = 1 := by kernel_rfl
theorem tab118 : byt Try.prog 31 = 24 := by kernel_rfl
theorem tab119 : zer Try.prog 31 = some (.slice none 0 0) := by kernel_rfl
theorem tab120 : flds Try.prog 32 = some [(3, 0), (3, 1), (30, 2), (9, 3), (31, 4)] := by kernel_rfl
theorem tab121 : isAggD (und Try.prog 32) = true := by kernel_rfl
theorem tab122 : okD (und Try.prog 32) = true := by kernel_rfl
theorem tab123 : szt Try.prog 32 = 5 := by kernel_rfl
theorem tab124 : byt Try.prog 32 = 80 := by kernel_rfl
theorem tab125 : zer Try.prog 32 = some (.agg #[(.int .i64 0), (.int .i64 0), (.slice none 0 0), (.string ByteArray.empty), (.slice none 0 0)]) := by kernel_rfl
theorem tab126 : flds Try.prog 33 = some [(3, 0), (3, 1), (30, 2), (9, 3), (31, 4)] := by kernel_rfl
theorem tab127 : isAggD (und Try.prog 33) = true := by kernel_rfl
theorem tab128 : okD (und Try.prog 33) = true := by kernel_rfl
theorem tab129 : szt Try.prog 33 = 5 := by kernel_rfl
theorem tab130 : byt Try.prog 33 = 80 := by kernel_rfl
theorem tab131 : zer Try.prog 33 = some (.agg #[(.int .i64 0), (.int .i64 0), (.slice none 0 0), (.string ByteArray.empty), (.slice none 0 0)]) := by kernel_rfl
theorem tab132 : und Try.prog 35 = .pointer 63 := by kernel_rfl
theorem tab133 : szt Try.prog 35 = 1 := by kernel_rfl
theorem tab134 : byt Try.prog 35 = 8 := by kernel_rfl
theorem tab135 : zer Try.prog 35 = some (.pointer none) := by kernel_rfl
theorem tab136 : und Try.prog 37 = .int .u32 := by kernel_rfl
theorem tab137 : szt Try.prog 37 = 1 := by kernel_rfl
theorem tab138 : byt Try.prog 37 = 4 := by kernel_rfl
theorem tab139 : zer Try.prog 37 = some (.int .u32 0) := by kernel_rfl
theorem tab140 : und Try.prog 40 = .array 32 5 := by kernel_rfl
theorem tab141 : flds Try.prog 40 = none := by kernel_rfl
theorem tab142 : gl Try.prog 40 = true := by kernel_rfl
theorem tab143 : szt Try.prog 40 = 32 := by kernel_rfl
theorem tab144 : byt Try.prog 40 = 32 := by kernel_rfl
theorem tab145 : zer Try.prog 40 = some (.agg (iv .u8 (zl 32)).toArray) := by kernel_rfl
theorem tab146 : und Try.prog 41 = .array 32 5 := by kernel_rfl
theorem tab147 : flds Try.prog 41 = none := by kernel_rfl
theorem tab148 : gl Try.prog 41 = true := by kernel_rfl
theorem tab149 : szt Try.prog 41 = 32 := by kernel_rfl
theorem tab150 : byt Try.prog 41 = 32 := by kernel_rfl
theorem tab151 : zer Try.prog 41 = some (.agg (iv .u8 (zl 32)).toArray) := by kernel_rfl
theorem tab152 : und Try.prog 47 = .int .i64 := by kernel_rfl
theorem tab153 : szt Try.prog 47 = 1 := by kernel_rfl
theorem tab154 : byt Try.prog 47 = 8 := by kernel_rfl
theorem tab155 : zer Try.prog 47 = some (.int .i64 0) := by kernel_rfl
theorem tab156 : und Try.prog 55 = .int .u64 := by kernel_rfl
theorem tab157 : szt Try.prog 55 = 1 := by kernel_rfl
theorem tab158 : byt Try.prog 55 = 8 := by kernel_rfl
theorem tab159 : zer Try.prog 55 = some (.int .u64 0) := by kernel_rfl
theorem tab160 : flds Try.prog 62 = some [(9, 0), (47, 1)] := by kernel_rfl
theorem tab161 : isAggD (und Try.prog 62) = true := by kernel_rfl
theorem tab162 : okD (und Try.prog 62) = true := by kernel_rfl
theorem tab163 : szt Try.prog 62 = 2 := by kernel_rfl
theorem tab164 : byt Try.prog 62 = 24 := by kernel_rfl
theorem tab165 : zer Try.prog 62 = some (.agg #[(.string ByteArray.empty), (.int .i64 0)]) := by kernel_rfl
theorem tab166 : flds Try.prog 63 = some [(9, 0), (47, 1)] := by kernel_rfl
theorem tab167 : isAggD (und Try.prog 63) = true := by kernel_rfl
theorem tab168 : okD (und Try.prog 63) = true := by kernel_rfl
theorem tab169 : szt Try.prog 63 = 2 := by kernel_rfl
theorem tab170 : byt Try.prog 63 = 24 := by kernel_rfl
theorem tab171 : zer Try.prog 63 = some (.agg #[(.string ByteArray.empty), (.int .i64 0)]) := by kernel_rfl
theorem tab172 : und Try.prog 64 = .int .u64 := by kernel_rfl
theorem tab173 : szt Try.prog 64 = 1 := by kernel_rfl
theorem tab174 : byt Try.prog 64 = 8 := by kernel_rfl
theorem tab175 : zer Try.prog 64 = some (.int .u64 0) := by kernel_rfl
theorem tab176 : und Try.prog 69 = .slice 9 := by kernel_rfl
theorem tab177 : szt Try.prog 69 = 1 := by kernel_rfl
theorem tab178 : byt Try.prog 69 = 24 := by kernel_rfl
theorem tab179 : zer Try.prog 69 = some (.slice none 0 0) := by kernel_rfl
theorem tab180 : flds Try.prog 70 = some [(17, 0), (17, 1), (17, 2), (9, 3)] := by kernel_rfl
theorem tab181 : isAggD (und Try.prog 70) = true := by kernel_rfl
theorem tab182 : okD (und Try.prog 70) = true := by kernel_rfl
theorem tab183 : szt Try.prog 70 = 4 := by kernel_rfl
theorem tab184 : byt Try.prog 70 = 40 := by kernel_rfl
theorem tab185 : zer Try.prog 70 = some (.agg #[(.pointer none), (.pointer none), (.pointer none), (.string ByteArray.empty)]) := by kernel_rfl
theorem tab186 : flds Try.prog 71 = some [(17, 0), (17, 1), (17, 2), (9, 3)] := by kernel_rfl
theorem tab187 : isAggD (und Try.prog 71) = true := by kernel_rfl
theorem tab188 : okD (und Try.prog 71) = true := by kernel_rfl
theorem tab189 : szt Try.prog 71 = 4 := by kernel_rfl
theorem tab190 : byt Try.prog 71 = 40 := by kernel_rfl
theorem tab191 : zer Try.prog 71 = some (.agg #[(.pointer none), (.pointer none), (.pointer none), (.string ByteArray.empty)]) := by kernel_rfl
theorem tab192 : und Try.prog 72 = .array 0 16 := by kernel_rfl
theorem tab193 : flds Try.prog 72 = none := by kernel_rfl
theorem tab194 : szt Try.prog 72 = 0 := by kernel_rfl
theorem tab195 : byt Try.prog 72 = 0 := by kernel_rfl
theorem tab196 : zer Try.prog 72 = some (.agg #[]) := by kernel_rfl
theorem tab197 : flds Try.prog 73 = some [(72, 0)] := by kernel_rfl
theorem tab198 : isAggD (und Try.prog 73) = true := by kernel_rfl
theorem tab199 : okD (und Try.prog 73) = true := by kernel_rfl
theorem tab200 : szt Try.prog 73 = 0 := by kernel_rfl
theorem tab201 : byt Try.prog 73 = 0 := by kernel_rfl
theorem tab202 : zer Try.prog 73 = some (.agg #[]) := by kernel_rfl
theorem tab203 : flds Try.prog 74 = some [(72, 0)] := by kernel_rfl
theorem tab204 : isAggD (und Try.prog 74) = true := by kernel_rfl
theorem tab205 : okD (und Try.prog 74) = true := by kernel_rfl
theorem tab206 : szt Try.prog 74 = 0 := by kernel_rfl
theorem tab207 : byt Try.prog 74 = 0 := by kernel_rfl
theorem tab208 : zer Try.prog 74 = some (.agg #[]) := by kernel_rfl
theorem tab209 : und Try.prog 75 = .int .u8 := by kernel_rfl
theorem tab210 : szt Try.prog 75 = 1 := by kernel_rfl
theorem tab211 : byt Try.prog 75 = 1 := by kernel_rfl
theorem tab212 : zer Try.prog 75 = some (.int .u8 0) := by kernel_rfl
theorem tab213 : und Try.prog 76 = .int .u8 := by kernel_rfl
theorem tab214 : szt Try.prog 76 = 1 := by kernel_rfl
theorem tab215 : byt Try.prog 76 = 1 := by kernel_rfl
theorem tab216 : zer Try.prog 76 = some (.int .u8 0) := by kernel_rfl
theorem tab217 : und Try.prog 78 = .pointer 5 := by kernel_rfl
theorem tab218 : szt Try.prog 78 = 1 := by kernel_rfl
theorem tab219 : byt Try.prog 78 = 8 := by kernel_rfl
theorem tab220 : zer Try.prog 78 = some (.pointer none) := by kernel_rfl
theorem tab221 : und Try.prog 79 = .int .i32 := by kernel_rfl
theorem tab222 : szt Try.prog 79 = 1 := by kernel_rfl
theorem tab223 : byt Try.prog 79 = 4 := by kernel_rfl
theorem tab224 : zer Try.prog 79 = some (.int .i32 0) := by kernel_rfl
theorem tab225 : und Try.prog 80 = .int .i32 := by kernel_rfl
theorem tab226 : szt Try.prog 80 = 1 := by kernel_rfl
theorem tab227 : byt Try.prog 80 = 4 := by kernel_rfl
theorem tab228 : zer Try.prog 80 = some (.int .i32 0) := by kernel_rfl
theorem tab229 : flds Try.prog 81 = some [(12, 0), (12, 1), (37, 2), (75, 3), (5, 4), (5, 5), (76, 6), (77, 7), (78, 8), (79, 9), (80, 10)] := by kernel_rfl
theorem tab230 : isAggD (und Try.prog 81) = true := by kernel_rfl
theorem tab231 : okD (und Try.prog 81) = true := by kernel_rfl
theorem tab232 : szt Try.prog 81 = 11 := by kernel_rfl
theorem tab233 : byt Try.prog 81 = 48 := by kernel_rfl
theorem tab234 : zer Try.prog 81 = some (.agg #[(.int .u64 0), (.int .u64 0), (.int .u32 0), (.int .u8 0), (.int .u8 0), (.int .u8 0), (.int .u8 0), .nilFunc, (.pointer none), (.int .i32 0), (.int .i32 0)]) := by kernel_rfl
theorem tab235 : flds Try.prog 82 = some [(12, 0), (12, 1), (37, 2), (75, 3), (5, 4), (5, 5), (76, 6), (77, 7), (78, 8), (79, 9), (80, 10)] := by kernel_rfl
theorem tab236 : isAggD (und Try.prog 82) = true := by kernel_rfl
theorem tab237 : okD (und Try.prog 82) = true := by kernel_rfl
theorem tab238 : szt Try.prog 82 = 11 := by kernel_rfl
theorem tab239 : byt Try.prog 82 = 48 := by kernel_rfl
theorem tab240 : zer Try.prog 82 = some (.agg #[(.int .u64 0), (.int .u64 0), (.int .u32 0), (.int .u8 0), (.int .u8 0), (.int .u8 0), (.int .u8 0), .nilFunc, (.pointer none), (.int .i32 0), (.int .i32 0)]) := by kernel_rfl
theorem tab : (und Try.prog 2 = .int .i64) ∧ (szt Try.prog 2 = 1) ∧ (byt Try.prog 2 = 8) ∧ (zer Try.prog 2 = some (.int .i64 0)) ∧ (und Try.prog 3 = .int .i64) ∧ (szt Try.prog 3 = 1) ∧ (byt Try.prog 3 = 8) ∧ (zer Try.prog 3 = some (.int .i64 0)) ∧ (und Try.prog 4 = .bool) ∧ (szt Try.prog 4 = 1) ∧ (byt Try.prog 4 = 1) ∧ (zer Try.prog 4 = some (.bool false)) ∧ (und Try.prog 5 = .int .u8) ∧ (szt Try.prog 5 = 1) ∧ (byt Try.prog 5 = 1) ∧ (zer Try.prog 5 = some (.int .u8 0)) ∧ (und Try.prog 6 = .int .u8) ∧ (szt Try.prog 6 = 1) ∧ (byt Try.prog 6 = 1) ∧ (zer Try.prog 6 = some (.int .u8 0)) ∧ (flds Try.prog 7 = some [(2, 0), (3, 1), (4, 2), (6, 3)]) ∧ (isAggD (und Try.prog 7) = true) ∧ (okD (und Try.prog 7) = true) ∧ (szt Try.prog 7 = 4) ∧ (byt Try.prog 7 = 24) ∧ (zer Try.prog 7 = some (.agg #[(.int .i64 0), (.int .i64 0), (.bool false), (.int .u8 0)])) ∧ (flds Try.prog 8 = some [(2, 0), (3, 1), (4, 2), (6, 3)]) ∧ (isAggD (und Try.prog 8) = true) ∧ (okD (und Try.prog 8) = true) ∧ (szt Try.prog 8 = 4) ∧ (byt Try.prog 8 = 24) ∧ (zer Try.prog 8 = some (.agg #[(.int .i64 0), (.int .i64 0), (.bool false), (.int .u8 0)])) ∧ (und Try.prog 9 = .string) ∧ (szt Try.prog 9 = 1) ∧ (byt Try.prog 9 = 16) ∧ (zer Try.prog 9 = some (.string ByteArray.empty)) ∧ (und Try.prog 10 = .string) ∧ (szt Try.prog 10 = 1) ∧ (byt Try.prog 10 = 16) ∧ (zer Try.prog 10 = some (.string ByteArray.empty)) ∧ (und Try.prog 11 = .string) ∧ (szt Try.prog 11 = 1) ∧ (byt Try.prog 11 = 16) ∧ (zer Try.prog 11 = some (.string ByteArray.empty)) ∧ (und Try.prog 12 = .int .u64) ∧ (szt Try.prog 12 = 1) ∧ (byt Try.prog 12 = 8) ∧ (zer Try.prog 12 = some (.int .u64 0)) ∧ (flds Try.prog 13 = some [(9, 0), (12, 1)]) ∧ (isAggD (und Try.prog 13) = true) ∧ (okD (und Try.prog 13) = true) ∧ (szt Try.prog 13 = 2) ∧ (byt Try.prog 13 = 24) ∧ (zer Try.prog 13 = some (.agg #[(.string ByteArray.empty), (.int .u64 0)])) ∧ (flds Try.prog 14 = some [(9, 0), (12, 1)]) ∧ (isAggD (und Try.prog 14) = true) ∧ (okD (und Try.prog 14) = true) ∧ (szt Try.prog 14 = 2) ∧ (byt Try.prog 14 = 24) ∧ (zer Try.prog 14 = some (.agg #[(.string ByteArray.empty), (.int .u64 0)])) ∧ (und Try.prog 15 = .pointer 71) ∧ (szt Try.prog 15 = 1) ∧ (byt Try.prog 15 = 8) ∧ (zer Try.prog 15 = some (.pointer none)) ∧ (und Try.prog 16 = .pointer 74) ∧ (szt Try.prog 16 = 1) ∧ (byt Try.prog 16 = 8) ∧ (zer Try.prog 16 = some (.pointer none)) ∧ (und Try.prog 17 = .pointer 82) ∧ (szt Try.prog 17 = 1) ∧ (byt Try.prog 17 = 8) ∧ (zer Try.prog 17 = some (.pointer none)) ∧ (flds Try.prog 18 = some [(17, 0)]) ∧ (isAggD (und Try.prog 18) = true) ∧ (okD (und Try.prog 18) = true) ∧ (szt Try.prog 18 = 1) ∧ (byt Try.prog 18 = 8) ∧ (zer Try.prog 18 = some (.agg #[(.pointer none)])) ∧ (flds Try.prog 19 = some [(17, 0)]) ∧ (isAggD (und Try.prog 19) = true) ∧ (okD (und Try.prog 19) = true) ∧ (szt Try.prog 19 = 1) ∧ (byt Try.prog 19 = 8) ∧ (zer Try.prog 19 = some (.agg #[(.pointer none)])) ∧ (und Try.prog 21 = .int .i32) ∧ (szt Try.prog 21 = 1) ∧ (byt Try.prog 21 = 4) ∧ (zer Try.prog 21 = some (.int .i32 0)) ∧ (und Try.prog 22 = .slice 33) ∧ (szt Try.prog 22 = 1) ∧ (byt Try.prog 22 = 24) ∧ (zer Try.prog 22 = some (.slice none 0 0)) ∧ (und Try.prog 25 = .slice 5) ∧ (szt Try.prog 25 = 1) ∧ (byt Try.prog 25 = 24) ∧ (zer Try.prog 25 = some (.slice none 0 0)) ∧ (flds Try.prog 26 = some [(25, 0)]) ∧ (isAggD (und Try.prog 26) = true) ∧ (okD (und Try.prog 26) = true) ∧ (szt Try.prog 26 = 1) ∧ (byt Try.prog 26 = 24) ∧ (zer Try.prog 26 = some (.agg #[(.slice none 0 0)])) ∧ (flds Try.prog 27 = some [(25, 0)]) ∧ (isAggD (und Try.prog 27) = true) ∧ (okD (und Try.prog 27) = true) ∧ (szt Try.prog 27 = 1) ∧ (byt Try.prog 27 = 24) ∧ (zer Try.prog 27 = some (.agg #[(.slice none 0 0)])) ∧ (und Try.prog 29 = .pointer 27) ∧ (szt Try.prog 29 = 1) ∧ (byt Try.prog 29 = 8) ∧ (zer Try.prog 29 = some (.pointer none)) ∧ (und Try.prog 30 = .slice 37) ∧ (szt Try.prog 30 = 1) ∧ (byt Try.prog 30 = 24) ∧ (zer Try.prog 30 = some (.slice none 0 0)) ∧ (und Try.prog 31 = .slice 41) ∧ (szt Try.prog 31 = 1) ∧ (byt Try.prog 31 = 24) ∧ (zer Try.prog 31 = some (.slice none 0 0)) ∧ (flds Try.prog 32 = some [(3, 0), (3, 1), (30, 2), (9, 3), (31, 4)]) ∧ (isAggD (und Try.prog 32) = true) ∧ (okD (und Try.prog 32) = true) ∧ (szt Try.prog 32 = 5) ∧ (byt Try.prog 32 = 80) ∧ (zer Try.prog 32 = some (.agg #[(.int .i64 0), (.int .i64 0), (.slice none 0 0), (.string ByteArray.empty), (.slice none 0 0)])) ∧ (flds Try.prog 33 = some [(3, 0), (3, 1), (30, 2), (9, 3), (31, 4)]) ∧ (isAggD (und Try.prog 33) = true) ∧ (okD (und Try.prog 33) = true) ∧ (szt Try.prog 33 = 5) ∧ (byt Try.prog 33 = 80) ∧ (zer Try.prog 33 = some (.agg #[(.int .i64 0), (.int .i64 0), (.slice none 0 0), (.string ByteArray.empty), (.slice none 0 0)])) ∧ (und Try.prog 35 = .pointer 63) ∧ (szt Try.prog 35 = 1) ∧ (byt Try.prog 35 = 8) ∧ (zer Try.prog 35 = some (.pointer none)) ∧ (und Try.prog 37 = .int .u32) ∧ (szt Try.prog 37 = 1) ∧ (byt Try.prog 37 = 4) ∧ (zer Try.prog 37 = some (.int .u32 0)) ∧ (und Try.prog 40 = .array 32 5) ∧ (flds Try.prog 40 = none) ∧ (gl Try.prog 40 = true) ∧ (szt Try.prog 40 = 32) ∧ (byt Try.prog 40 = 32) ∧ (zer Try.prog 40 = some (.agg (iv .u8 (zl 32)).toArray)) ∧ (und Try.prog 41 = .array 32 5) ∧ (flds Try.prog 41 = none) ∧ (gl Try.prog 41 = true) ∧ (szt Try.prog 41 = 32) ∧ (byt Try.prog 41 = 32) ∧ (zer Try.prog 41 = some (.agg (iv .u8 (zl 32)).toArray)) ∧ (und Try.prog 47 = .int .i64) ∧ (szt Try.prog 47 = 1) ∧ (byt Try.prog 47 = 8) ∧ (zer Try.prog 47 = some (.int .i64 0)) ∧ (und Try.prog 55 = .int .u64) ∧ (szt Try.prog 55 = 1) ∧ (byt Try.prog 55 = 8) ∧ (zer Try.prog 55 = some (.int .u64 0)) ∧ (flds Try.prog 62 = some [(9, 0), (47, 1)]) ∧ (isAggD (und Try.prog 62) = true) ∧ (okD (und Try.prog 62) = true) ∧ (szt Try.prog 62 = 2) ∧ (byt Try.prog 62 = 24) ∧ (zer Try.prog 62 = some (.agg #[(.string ByteArray.empty), (.int .i64 0)])) ∧ (flds Try.prog 63 = some [(9, 0), (47, 1)]) ∧ (isAggD (und Try.prog 63) = true) ∧ (okD (und Try.prog 63) = true) ∧ (szt Try.prog 63 = 2) ∧ (byt Try.prog 63 = 24) ∧ (zer Try.prog 63 = some (.agg #[(.string ByteArray.empty), (.int .i64 0)])) ∧ (und Try.prog 64 = .int .u64) ∧ (szt Try.prog 64 = 1) ∧ (byt Try.prog 64 = 8) ∧ (zer Try.prog 64 = some (.int .u64 0)) ∧ (und Try.prog 69 = .slice 9) ∧ (szt Try.prog 69 = 1) ∧ (byt Try.prog 69 = 24) ∧ (zer Try.prog 69 = some (.slice none 0 0)) ∧ (flds Try.prog 70 = some [(17, 0), (17, 1), (17, 2), (9, 3)]) ∧ (isAggD (und Try.prog 70) = true) ∧ (okD (und Try.prog 70) = true) ∧ (szt Try.prog 70 = 4) ∧ (byt Try.prog 70 = 40) ∧ (zer Try.prog 70 = some (.agg #[(.pointer none), (.pointer none), (.pointer none), (.string ByteArray.empty)])) ∧ (flds Try.prog 71 = some [(17, 0), (17, 1), (17, 2), (9, 3)]) ∧ (isAggD (und Try.prog 71) = true) ∧ (okD (und Try.prog 71) = true) ∧ (szt Try.prog 71 = 4) ∧ (byt Try.prog 71 = 40) ∧ (zer Try.prog 71 = some (.agg #[(.pointer none), (.pointer none), (.pointer none), (.string ByteArray.empty)])) ∧ (und Try.prog 72 = .array 0 16) ∧ (flds Try.prog 72 = none) ∧ (szt Try.prog 72 = 0) ∧ (byt Try.prog 72 = 0) ∧ (zer Try.prog 72 = some (.agg #[])) ∧ (flds Try.prog 73 = some [(72, 0)]) ∧ (isAggD (und Try.prog 73) = true) ∧ (okD (und Try.prog 73) = true) ∧ (szt Try.prog 73 = 0) ∧ (byt Try.prog 73 = 0) ∧ (zer Try.prog 73 = some (.agg #[])) ∧ (flds Try.prog 74 = some [(72, 0)]) ∧ (isAggD (und Try.prog 74) = true) ∧ (okD (und Try.prog 74) = true) ∧ (szt Try.prog 74 = 0) ∧ (byt Try.prog 74 = 0) ∧ (zer Try.prog 74 = some (.agg #[])) ∧ (und Try.prog 75 = .int .u8) ∧ (szt Try.prog 75 = 1) ∧ (byt Try.prog 75 = 1) ∧ (zer Try.prog 75 = some (.int .u8 0)) ∧ (und Try.prog 76 = .int .u8) ∧ (szt Try.prog 76 = 1) ∧ (byt Try.prog 76 = 1) ∧ (zer Try.prog 76 = some (.int .u8 0)) ∧ (und Try.prog 78 = .pointer 5) ∧ (szt Try.prog 78 = 1) ∧ (byt Try.prog 78 = 8) ∧ (zer Try.prog 78 = some (.pointer none)) ∧ (und Try.prog 79 = .int .i32) ∧ (szt Try.prog 79 = 1) ∧ (byt Try.prog 79 = 4) ∧ (zer Try.prog 79 = some (.int .i32 0)) ∧ (und Try.prog 80 = .int .i32) ∧ (szt Try.prog 80 = 1) ∧ (byt Try.prog 80 = 4) ∧ (zer Try.prog 80 = some (.int .i32 0)) ∧ (flds Try.prog 81 = some [(12, 0), (12, 1), (37, 2), (75, 3), (5, 4), (5, 5), (76, 6), (77, 7), (78, 8), (79, 9), (80, 10)]) ∧ (isAggD (und Try.prog 81) = true) ∧ (okD (und Try.prog 81) = true) ∧ (szt Try.prog 81 = 11) ∧ (byt Try.prog 81 = 48) ∧ (zer Try.prog 81 = some (.agg #[(.int .u64 0), (.int .u64 0), (.int .u32 0), (.int .u8 0), (.int .u8 0), (.int .u8 0), (.int .u8 0), .nilFunc, (.pointer none), (.int .i32 0), (.int .i32 0)])) ∧ (flds Try.prog 82 = some [(12, 0), (12, 1), (37, 2), (75, 3), (5, 4), (5, 5), (76, 6), (77, 7), (78, 8), (79, 9), (80, 10)]) ∧ (isAggD (und Try.prog 82) = true) ∧ (okD (und Try.prog 82) = true) ∧ (szt Try.prog 82 = 11) ∧ (byt Try.prog 82 = 48) ∧ (zer Try.prog 82 = some (.agg #[(.int .u64 0), (.int .u64 0), (.int .u32 0), (.int .u8 0), (.int .u8 0), (.int .u8 0), (.int .u8 0), .nilFunc, (.pointer none), (.int .i32 0), (.int .i32 0)])) :=
  ⟨tab0, tab1, tab2, tab3, tab4, tab5, tab6, tab7, tab8, tab9, tab10, tab11, tab12, tab13, tab14, tab15, tab16, tab17, tab18, tab19, tab20, tab21, tab22, tab23, tab24, tab25, tab26, tab27, tab28, tab29, tab30, tab31, tab32, tab33, tab34, tab35, tab36, tab37, tab38, tab39, tab40, tab41, tab42, tab43, tab44, tab45, tab46, tab47, tab48, tab49, tab50, tab51, tab52, tab53, tab54, tab55, tab56, tab57, tab58, tab59, tab60, tab61, tab62, tab63, tab64, tab65, tab66, tab67, tab68, tab69, tab70, tab71, tab72, tab73, tab74, tab75, tab76, tab77, tab78, tab79, tab80, tab81, tab82, tab83, tab84, tab85, tab86, tab87, tab88, tab89, tab90, tab91, tab92, tab93, tab94, tab95, tab96, tab97, tab98, tab99, tab100, tab101, tab102, tab103, tab104, tab105, tab106, tab107, tab108, tab109, tab110, tab111, tab112, tab113, tab114, tab115, tab116, tab117, tab118, tab119, tab120, tab121, tab122, tab123, tab124, tab125, tab126, tab127, tab128, tab129, tab130, tab131, tab132, tab133, tab134, tab135, tab136, tab137, tab138, tab139, tab140, tab141, tab142, tab143, tab144, tab145, tab146, tab147, tab148, tab149, tab150, tab151, tab152, tab153, tab154, tab155, tab156, tab157, tab158, tab159, tab160, tab161, tab162, tab163, tab164, tab165, tab166, tab167, tab168, tab169, tab170, tab171, tab172, tab173, tab174, tab175, tab176, tab177, tab178, tab179, tab180, tab181, tab182, tab183, tab184, tab185, tab186, tab187, tab188, tab189, tab190, tab191, tab192, tab193, tab194, tab195, tab196, tab197, tab198, tab199, tab200, tab201, tab202, tab203, tab204, tab205, tab206, tab207, tab208, tab209, tab210, tab211, tab212, tab213, tab214, tab215, tab216, tab217, tab218, tab219, tab220, tab221, tab222, tab223, tab224, tab225, tab226, tab227, tab228, tab229, tab230, tab231, tab232, tab233, tab234, tab235, tab236, tab237, tab238, tab239, tab240⟩
end Go.Proofs.Ytpdijcaikjobiaa
