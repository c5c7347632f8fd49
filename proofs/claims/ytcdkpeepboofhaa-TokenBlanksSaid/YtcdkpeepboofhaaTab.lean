/-
  The types of this program: shapes, sizes, zero values. Each by the kernel.
-/
import Derived.Test.YtcdkpeepboofhaaXg
import Derived.Test.YtcdkpeepboofhaaChecked
namespace Go.Proofs.Ytcdkpeepboofhaa
open Go Go.RowKit
set_option maxRecDepth 100000
theorem tab0 : und Try.prog 2 = .int .i64 := by kernel_rfl
theorem tab1 : szt Try.prog 2 = 1 := by kernel_rfl
theorem tab2 : byt Try.prog 2 = 8 := by kernel_rfl
theorem tab3 : zer Try.prog 2 = some (.int .i64 0) := by kernel_rfl
theorem tab4 : und Try.prog 3 = .int .i64 := by kernel_rfl
theorem tab5 : szt Try.prog 3 = 1 := by kernel_rfl
theorem tab6 : byt Try.prog 3 = 8 := by kernel_rfl
theorem tab7 : zer Try.prog 3 = some (.int .i64 0) := by kernel_rfl
theorem tab8 : und Try.prog 4 = .bool := by kernel_rfl
theorem tab9 : szt Try.prog 4 = 1 := by kernel_rfl
theorem tab10 : byt Try.prog 4 = 1 := by kernel_rfl
theorem tab11 : zer Try.prog 4 = some (.bool false) := by kernel_rfl
theorem tab12 : und Try.prog 5 = .int .u8 := by kernel_rfl
theorem tab13 : szt Try.prog 5 = 1 := by kernel_rfl
theorem tab14 : byt Try.prog 5 = 1 := by kernel_rfl
theorem tab15 : zer Try.prog 5 = some (.int .u8 0) := by kernel_rfl
theorem tab16 : und Try.prog 6 = .int .u8 := by kernel_rfl
theorem tab17 : szt Try.prog 6 = 1 := by kernel_rfl
theorem tab18 : byt Try.prog 6 = 1 := by kernel_rfl
theorem tab19 : zer Try.prog 6 = some (.int .u8 0) := by kernel_rfl
theorem tab20 : flds Try.prog 7 = some [(2, 0), (3, 1), (4, 2), (6, 3)] := by kernel_rfl
theorem tab21 : isAggD (und Try.prog 7) = true := by kernel_rfl
theorem tab22 : okD (und Try.prog 7) = true := by kernel_rfl
theorem tab23 : szt Try.prog 7 = 4 := by kernel_rfl
theorem tab24 : byt Try.prog 7 = 24 := by kernel_rfl
theorem tab25 : zer Try.prog 7 = some (.agg #[(.int .i64 0), (.int .i64 0), (.bool false), (.int .u8 0)]) := by kernel_rfl
theorem tab26 : flds Try.prog 8 = some [(2, 0), (3, 1), (4, 2), (6, 3)] := by kernel_rfl
theorem tab27 : isAggD (und Try.prog 8) = true := by kernel_rfl
theorem tab28 : okD (und Try.prog 8) = true := by kernel_rfl
theorem tab29 : szt Try.prog 8 = 4 := by kernel_rfl
theorem tab30 : byt Try.prog 8 = 24 := by kernel_rfl
theorem tab31 : zer Try.prog 8 = some (.agg #[(.int .i64 0), (.int .i64 0), (.bool false), (.int .u8 0)]) := by kernel_rfl
theorem tab32 : und Try.prog 9 = .string := by kernel_rfl
theorem tab33 : szt Try.prog 9 = 1 := by kernel_rfl
theorem tab34 : byt Try.prog 9 = 16 := by kernel_rfl
theorem tab35 : zer Try.prog 9 = some (.string ByteArray.empty) := by kernel_rfl
theorem tab36 : und Try.prog 10 = .string := by kernel_rfl
theorem tab37 : szt Try.prog 10 = 1 := by kernel_rfl
theorem tab38 : byt Try.prog 10 = 16 := by kernel_rfl
theorem tab39 : zer Try.prog 10 = some (.string ByteArray.empty) := by kernel_rfl
theorem tab40 : und Try.prog 11 = .string := by kernel_rfl
theorem tab41 : szt Try.prog 11 = 1 := by kernel_rfl
theorem tab42 : byt Try.prog 11 = 16 := by kernel_rfl
theorem tab43 : zer Try.prog 11 = some (.string ByteArray.empty) := by kernel_rfl
theorem tab44 : und Try.prog 12 = .int .u64 := by kernel_rfl
theorem tab45 : szt Try.prog 12 = 1 := by kernel_rfl
theorem tab46 : byt Try.prog 12 = 8 := by kernel_rfl
theorem tab47 : zer Try.prog 12 = some (.int .u64 0) := by kernel_rfl
theorem tab48 : flds Try.prog 13 = some [(9, 0), (12, 1)] := by kernel_rfl
theorem tab49 : isAggD (und Try.prog 13) = true := by kernel_rfl
theorem tab50 : okD (und Try.prog 13) = true := by kernel_rfl
theorem tab51 : szt Try.prog 13 = 2 := by kernel_rfl
theorem tab52 : byt Try.prog 13 = 24 := by kernel_rfl
theorem tab53 : zer Try.prog 13 = some (.agg #[(.string ByteArray.empty), (.int .u64 0)]) := by kernel_rfl
theorem tab54 : flds Try.prog 14 = some [(9, 0), (12, 1)] := by kernel_rfl
theorem tab55 : isAggD (und Try.prog 14) = true := by kernel_rfl
theorem tab56 : okD (und Try.prog 14) = true := by kernel_rfl
theorem tab57 : szt Try.prog 14 = 2 := by kernel_rfl
theorem tab58 : byt Try.prog 14 = 24 := by kernel_rfl
theorem tab59 : zer Try.prog 14 = some (.agg #[(.string ByteArray.empty), (.int .u64 0)]) := by kernel_rfl
theorem tab60 : und Try.prog 15 = .pointer 46 := by kernel_rfl
theorem tab61 : szt Try.prog 15 = 1 := by kernel_rfl
theorem tab62 : byt Try.prog 15 = 8 := by kernel_rfl
theorem tab63 : zer Try.prog 15 = some (.pointer none) := by kernel_rfl
theorem tab64 : und Try.prog 16 = .pointer 49 := by kernel_rfl
theorem tab65 : szt Try.prog 16 = 1 := by kernel_rfl
theorem tab66 : byt Try.prog 16 = 8 := by kernel_rfl
theorem tab67 : zer Try.prog 16 = some (.pointer none) := by kernel_rfl
theorem tab68 : und Try.prog 17 = .pointer 59 := by kernel_rfl
theorem tab69 : szt Try.prog 17 = 1 := by kernel_rfl
theorem tab70 : byt Try.prog 17 = 8 := by kernel_rfl
theorem tab71 : zer Try.prog 17 = some (.pointer none) := by kernel_rfl
theorem tab72 : flds Try.prog 18 = some [(17, 0)] := by kernel_rfl
theorem tab73 : isAggD (und Try.prog 18) = true := by kernel_rfl
theorem tab74 : okD (und Try.prog 18) = true := by kernel_rfl
theorem tab75 : szt Try.prog 18 = 1 := by kernel_rfl
theorem tab76 : byt Try.prog 18 = 8 := by kernel_rfl
theorem tab77 : zer Try.prog 18 = some (.agg #[(.pointer none)]) := by kernel_rfl
theorem tab78 : flds Try.prog 19 = some [(17, 0)] := by kernel_rfl
theorem tab79 : isAggD (und Try.prog 19) = true := by kernel_rfl
theorem tab80 : okD (und Try.prog 19) = true := by kernel_rfl
theorem tab81 : szt Try.prog 19 = 1 := by kernel_rfl
theorem tab82 : byt Try.prog 19 = 8 := by kernel_rfl
theorem tab83 : zer Try.prog 19 = some (.agg #[(.pointer none)]) := by kernel_rfl
theorem tab84 : und Try.prog 21 = .int .i32 := by kernel_rfl
theorem tab85 : szt Try.prog 21 = 1 := by kernel_rfl
theorem tab86 : byt Try.prog 21 = 4 := by kernel_rfl
theorem tab87 : zer Try.prog 21 = some (.int .i32 0) := by kernel_rfl
theorem tab88 : und Try.prog 22 = .slice 5 := by kernel_rfl
theorem tab89 : szt Try.prog 22 = 1 := by kernel_rfl
theorem tab90 : byt Try.prog 22 = 24 := by kernel_rfl
theorem tab91 : zer Try.prog 22 = some (.slice none 0 0) := by kernel_rfl
theorem tab92 : und Try.prog 24 = .slice 29 := by kernel_rfl
theorem tab93 : szt Try.prog 24 = 1 := by kernel_rfl
theorem tab94 : byt Try.prog 24 = 24 := by kernel_rfl
theorem tab95 : zer Try.prog 24 = some (.slice none 0 0) := by kernel_rfl
theorem tab96 : und Try.prog 25 = .int .i64 := by kernel_rfl
theorem tab97 : szt Try.prog 25 = 1 := by kernel_rfl
theorem tab98 : byt Try.prog 25 = 8 := by kernel_rfl
theorem tab99 : zer Try.prog 25 = some (.int .i64 0) := by kernel_rfl
theorem tab100 : flds Try.prog 28 = some [(3, 0), (3, 1), (3, 2), (9, 3)] := by kernel_rfl
theorem tab101 : isAggD (und Try.prog 28) = true := by kernel_rfl
theorem tab102 : okD (und Try.prog 28) = true := by kernel_rfl
theorem tab103 : szt Try.prog 28 = 4 := by kernel_rfl
theorem tab104 : byt Try.prog 28 = 40 := by kernel_rfl
theorem tab105 : zer Try.prog 28 = some (.agg #[(.int .i64 0), (.int .i64 0), (.int .i64 0), (.string ByteArray.empty)]) := by kernel_rfl
theorem tab106 : flds Try.prog 29 = some [(3, 0), (3, 1), (3, 2), (9, 3)] := by kernel_rfl
theorem tab107 : isAggD (und Try.prog 29) = true := by kernel_rfl
theorem tab108 : okD (und Try.prog 29) = true := by kernel_rfl
theorem tab109 : cmpT Try.prog 29 = some [.int, .int, .int, .str] := by kernel_rfl
theorem tab110 : szt Try.prog 29 = 4 := by kernel_rfl
theorem tab111 : byt Try.prog 29 = 40 := by kernel_rfl
theorem tab112 : zer Try.prog 29 = some (.agg #[(.int .i64 0), (.int .i64 0), (.int .i64 0), (.string ByteArray.empty)]) := by kernel_rfl
theorem tab113 : und Try.prog 30 = .slice 9 := by kernel_rfl
theorem tab114 : szt Try.prog 30 = 1 := by kernel_rfl
theorem tab115 : byt Try.prog 30 = 24 := by kernel_rfl
theorem tab116 : zer Try.prog 30 = some (.slice none 0 0) := by kernel_rfl
theorem tab117 : und Try.prog 43 = .int .u64 := by kernel_rfl
theorem tab118 : szt Try.prog 43 = 1 := by kernel_rfl
theorem tab119 : byt Try.prog 43 = 8 := by kernel_rfl
theorem tab120 : zer Try.prog 43 = some (.int .u64 0) := by kernel_rfl
theorem tab121 : flds Try.prog 45 = some [(17, 0), (17, 1), (17, 2), (9, 3)] := by kernel_rfl
theorem tab122 : isAggD (und Try.prog 45) = true := by kernel_rfl
theorem tab123 : okD (und Try.prog 45) = true := by kernel_rfl
theorem tab124 : szt Try.prog 45 = 4 := by kernel_rfl
theorem tab125 : byt Try.prog 45 = 40 := by kernel_rfl
theorem tab126 : zer Try.prog 45 = some (.agg #[(.pointer none), (.pointer none), (.pointer none), (.string ByteArray.empty)]) := by kernel_rfl
theorem tab127 : flds Try.prog 46 = some [(17, 0), (17, 1), (17, 2), (9, 3)] := by kernel_rfl
theorem tab128 : isAggD (und Try.prog 46) = true := by kernel_rfl
theorem tab129 : okD (und Try.prog 46) = true := by kernel_rfl
theorem tab130 : szt Try.prog 46 = 4 := by kernel_rfl
theorem tab131 : byt Try.prog 46 = 40 := by kernel_rfl
theorem tab132 : zer Try.prog 46 = some (.agg #[(.pointer none), (.pointer none), (.pointer none), (.string ByteArray.empty)]) := by kernel_rfl
theorem tab133 : und Try.prog 47 = .array 0 16 := by kernel_rfl
theorem tab134 : flds Try.prog 47 = none := by kernel_rfl
theorem tab135 : cmpT Try.prog 47 = none := by kernel_rfl
theorem tab136 : szt Try.prog 47 = 0 := by kernel_rfl
theorem tab137 : byt Try.prog 47 = 0 := by kernel_rfl
theorem tab138 : zer Try.prog 47 = some (.agg #[]) := by kernel_rfl
theorem tab139 : flds Try.prog 48 = some [(47, 0)] := by kernel_rfl
theorem tab140 : isAggD (und Try.prog 48) = true := by kernel_rfl
theorem tab141 : okD (und Try.prog 48) = true := by kernel_rfl
theorem tab142 : szt Try.prog 48 = 0 := by kernel_rfl
theorem tab143 : byt Try.prog 48 = 0 := by kernel_rfl
theorem tab144 : zer Try.prog 48 = some (.agg #[]) := by kernel_rfl
theorem tab145 : flds Try.prog 49 = some [(47, 0)] := by kernel_rfl
theorem tab146 : isAggD (und Try.prog 49) = true := by kernel_rfl
theorem tab147 : okD (und Try.prog 49) = true := by kernel_rfl
theorem tab148 : szt Try.prog 49 = 0 := by kernel_rfl
theorem tab149 : byt Try.prog 49 = 0 := by kernel_rfl
theorem tab150 : zer Try.prog 49 = some (.agg #[]) := by kernel_rfl
theorem tab151 : und Try.prog 51 = .int .u32 := by kernel_rfl
theorem tab152 : szt Try.prog 51 = 1 := by kernel_rfl
theorem tab153 : byt Try.prog 51 = 4 := by kernel_rfl
theorem tab154 : zer Try.prog 51 = some (.int .u32 0) := by kernel_rfl
theorem tab155 : und Try.prog 52 = .int .u8 := by kernel_rfl
theorem tab156 : szt Try.prog 52 = 1 := by kernel_rfl
theorem tab157 : byt Try.prog 52 = 1 := by kernel_rfl
theorem tab158 : zer Try.prog 52 = some (.int .u8 0) := by kernel_rfl
theorem tab159 : und Try.prog 53 = .int .u8 := by kernel_rfl
theorem tab160 : szt Try.prog 53 = 1 := by kernel_rfl
theorem tab161 : byt Try.prog 53 = 1 := by kernel_rfl
theorem tab162 : zer Try.prog 53 = some (.int .u8 0) := by kernel_rfl
theorem tab163 : und Try.prog 55 = .pointer 5 := by kernel_rfl
theorem tab164 : szt Try.prog 55 = 1 := by kernel_rfl
theorem tab165 : byt Try.prog 55 = 8 := by kernel_rfl
theorem tab166 : zer Try.prog 55 = some (.pointer none) := by kernel_rfl
theorem tab167 : und Try.prog 56 = .int .i32 := by kernel_rfl
theorem tab168 : szt Try.prog 56 = 1 := by kernel_rfl
theorem tab169 : byt Try.prog 56 = 4 := by kernel_rfl
theorem tab170 : zer Try.prog 56 = some (.int .i32 0) := by kernel_rfl
theorem tab171 : und Try.prog 57 = .int .i32 := by kernel_rfl
theorem tab172 : szt Try.prog 57 = 1 := by kernel_rfl
theorem tab173 : byt Try.prog 57 = 4 := by kernel_rfl
theorem tab174 : zer Try.prog 57 = some (.int .i32 0) := by kernel_rfl
theorem tab175 : flds Try.prog 58 = some [(12, 0), (12, 1), (51, 2), (52, 3), (5, 4), (5, 5), (53, 6), (54, 7), (55, 8), (56, 9), (57, 10)] := by kernel_rfl
theorem tab176 : isAggD (und Try.prog 58) = true := by kernel_rfl
theorem tab177 : okD (und Try.prog 58) = true := by kernel_rfl
theorem tab178 : szt Try.prog 58 = 11 := by kernel_rfl
theorem tab179 : byt Try.prog 58 = 48 := by kernel_rfl
theorem tab180 : zer Try.prog 58 = some (.agg #[(.int .u64 0), (.int .u64 0), (.int .u32 0), (.int .u8 0), (.int .u8 0), (.int .u8 0), (.int .u8 0), .nilFunc, (.pointer none), (.int .i32 0), (.int .i32 0)]) := by kernel_rfl
theorem tab181 : flds Try.prog 59 = some [(12, 0), (12, 1), (51, 2), (52, 3), (5, 4), (5, 5), (53, 6), (54, 7), (55, 8), (56, 9), (57, 10)] := by kernel_rfl
theorem tab182 : isAggD (und Try.prog 59) = true := by kernel_rfl
theorem tab183 : okD (und Try.prog 59) = true := by kernel_rfl
theorem tab184 : szt Try.prog 59 = 11 := by kernel_rfl
theorem tab185 : byt Try.prog 59 = 48 := by kernel_rfl
theorem tab186 : zer Try.prog 59 = some (.agg #[(.int .u64 0), (.int .u64 0), (.int .u32 0), (.int .u8 0), (.int .u8 0), (.int .u8 0), (.int .u8 0), .nilFunc, (.pointer none), (.int .i32 0), (.int .i32 0)]) := by kernel_rfl
theorem tab : (und Try.prog 2 = .int .i64) ∧ (szt Try.prog 2 = 1) ∧ (byt Try.prog 2 = 8) ∧ (zer Try.prog 2 = some (.int .i64 0)) ∧ (und Try.prog 3 = .int .i64) ∧ (szt Try.prog 3 = 1) ∧ (byt Try.prog 3 = 8) ∧ (zer Try.prog 3 = some (.int .i64 0)) ∧ (und Try.prog 4 = .bool) ∧ (szt Try.prog 4 = 1) ∧ (byt Try.prog 4 = 1) ∧ (zer Try.prog 4 = some (.bool false)) ∧ (und Try.prog 5 = .int .u8) ∧ (szt Try.prog 5 = 1) ∧ (byt Try.prog 5 = 1) ∧ (zer Try.prog 5 = some (.int .u8 0)) ∧ (und Try.prog 6 = .int .u8) ∧ (szt Try.prog 6 = 1) ∧ (byt Try.prog 6 = 1) ∧ (zer Try.prog 6 = some (.int .u8 0)) ∧ (flds Try.prog 7 = some [(2, 0), (3, 1), (4, 2), (6, 3)]) ∧ (isAggD (und Try.prog 7) = true) ∧ (okD (und Try.prog 7) = true) ∧ (szt Try.prog 7 = 4) ∧ (byt Try.prog 7 = 24) ∧ (zer Try.prog 7 = some (.agg #[(.int .i64 0), (.int .i64 0), (.bool false), (.int .u8 0)])) ∧ (flds Try.prog 8 = some [(2, 0), (3, 1), (4, 2), (6, 3)]) ∧ (isAggD (und Try.prog 8) = true) ∧ (okD (und Try.prog 8) = true) ∧ (szt Try.prog 8 = 4) ∧ (byt Try.prog 8 = 24) ∧ (zer Try.prog 8 = some (.agg #[(.int .i64 0), (.int .i64 0), (.bool false), (.int .u8 0)])) ∧ (und Try.prog 9 = .string) ∧ (szt Try.prog 9 = 1) ∧ (byt Try.prog 9 = 16) ∧ (zer Try.prog 9 = some (.string ByteArray.empty)) ∧ (und Try.prog 10 = .string) ∧ (szt Try.prog 10 = 1) ∧ (byt Try.prog 10 = 16) ∧ (zer Try.prog 10 = some (.string ByteArray.empty)) ∧ (und Try.prog 11 = .string) ∧ (szt Try.prog 11 = 1) ∧ (byt Try.prog 11 = 16) ∧ (zer Try.prog 11 = some (.string ByteArray.empty)) ∧ (und Try.prog 12 = .int .u64) ∧ (szt Try.prog 12 = 1) ∧ (byt Try.prog 12 = 8) ∧ (zer Try.prog 12 = some (.int .u64 0)) ∧ (flds Try.prog 13 = some [(9, 0), (12, 1)]) ∧ (isAggD (und Try.prog 13) = true) ∧ (okD (und Try.prog 13) = true) ∧ (szt Try.prog 13 = 2) ∧ (byt Try.prog 13 = 24) ∧ (zer Try.prog 13 = some (.agg #[(.string ByteArray.empty), (.int .u64 0)])) ∧ (flds Try.prog 14 = some [(9, 0), (12, 1)]) ∧ (isAggD (und Try.prog 14) = true) ∧ (okD (und Try.prog 14) = true) ∧ (szt Try.prog 14 = 2) ∧ (byt Try.prog 14 = 24) ∧ (zer Try.prog 14 = some (.agg #[(.string ByteArray.empty), (.int .u64 0)])) ∧ (und Try.prog 15 = .pointer 46) ∧ (szt Try.prog 15 = 1) ∧ (byt Try.prog 15 = 8) ∧ (zer Try.prog 15 = some (.pointer none)) ∧ (und Try.prog 16 = .pointer 49) ∧ (szt Try.prog 16 = 1) ∧ (byt Try.prog 16 = 8) ∧ (zer Try.prog 16 = some (.pointer none)) ∧ (und Try.prog 17 = .pointer 59) ∧ (szt Try.prog 17 = 1) ∧ (byt Try.prog 17 = 8) ∧ (zer Try.prog 17 = some (.pointer none)) ∧ (flds Try.prog 18 = some [(17, 0)]) ∧ (isAggD (und Try.prog 18) = true) ∧ (okD (und Try.prog 18) = true) ∧ (szt Try.prog 18 = 1) ∧ (byt Try.prog 18 = 8) ∧ (zer Try.prog 18 = some (.agg #[(.pointer none)])) ∧ (flds Try.prog 19 = some [(17, 0)]) ∧ (isAggD (und Try.prog 19) = true) ∧ (okD (und Try.prog 19) = true) ∧ (szt Try.prog 19 = 1) ∧ (byt Try.prog 19 = 8) ∧ (zer Try.prog 19 = some (.agg #[(.pointer none)])) ∧ (und Try.prog 21 = .int .i32) ∧ (szt Try.prog 21 = 1) ∧ (byt Try.prog 21 = 4) ∧ (zer Try.prog 21 = some (.int .i32 0)) ∧ (und Try.prog 22 = .slice 5) ∧ (szt Try.prog 22 = 1) ∧ (byt Try.prog 22 = 24) ∧ (zer Try.prog 22 = some (.slice none 0 0)) ∧ (und Try.prog 24 = .slice 29) ∧ (szt Try.prog 24 = 1) ∧ (byt Try.prog 24 = 24) ∧ (zer Try.prog 24 = some (.slice none 0 0)) ∧ (und Try.prog 25 = .int .i64) ∧ (szt Try.prog 25 = 1) ∧ (byt Try.prog 25 = 8) ∧ (zer Try.prog 25 = some (.int .i64 0)) ∧ (flds Try.prog 28 = some [(3, 0), (3, 1), (3, 2), (9, 3)]) ∧ (isAggD (und Try.prog 28) = true) ∧ (okD (und Try.prog 28) = true) ∧ (szt Try.prog 28 = 4) ∧ (byt Try.prog 28 = 40) ∧ (zer Try.prog 28 = some (.agg #[(.int .i64 0), (.int .i64 0), (.int .i64 0), (.string ByteArray.empty)])) ∧ (flds Try.prog 29 = some [(3, 0), (3, 1), (3, 2), (9, 3)]) ∧ (isAggD (und Try.prog 29) = true) ∧ (okD (und Try.prog 29) = true) ∧ (cmpT Try.prog 29 = some [.int, .int, .int, .str]) ∧ (szt Try.prog 29 = 4) ∧ (byt Try.prog 29 = 40) ∧ (zer Try.prog 29 = some (.agg #[(.int .i64 0), (.int .i64 0), (.int .i64 0), (.string ByteArray.empty)])) ∧ (und Try.prog 30 = .slice 9) ∧ (szt Try.prog 30 = 1) ∧ (byt Try.prog 30 = 24) ∧ (zer Try.prog 30 = some (.slice none 0 0)) ∧ (und Try.prog 43 = .int .u64) ∧ (szt Try.prog 43 = 1) ∧ (byt Try.prog 43 = 8) ∧ (zer Try.prog 43 = some (.int .u64 0)) ∧ (flds Try.prog 45 = some [(17, 0), (17, 1), (17, 2), (9, 3)]) ∧ (isAggD (und Try.prog 45) = true) ∧ (okD (und Try.prog 45) = true) ∧ (szt Try.prog 45 = 4) ∧ (byt Try.prog 45 = 40) ∧ (zer Try.prog 45 = some (.agg #[(.pointer none), (.pointer none), (.pointer none), (.string ByteArray.empty)])) ∧ (flds Try.prog 46 = some [(17, 0), (17, 1), (17, 2), (9, 3)]) ∧ (isAggD (und Try.prog 46) = true) ∧ (okD (und Try.prog 46) = true) ∧ (szt Try.prog 46 = 4) ∧ (byt Try.prog 46 = 40) ∧ (zer Try.prog 46 = some (.agg #[(.pointer none), (.pointer none), (.pointer none), (.string ByteArray.empty)])) ∧ (und Try.prog 47 = .array 0 16) ∧ (flds Try.prog 47 = none) ∧ (cmpT Try.prog 47 = none) ∧ (szt Try.prog 47 = 0) ∧ (byt Try.prog 47 = 0) ∧ (zer Try.prog 47 = some (.agg #[])) ∧ (flds Try.prog 48 = some [(47, 0)]) ∧ (isAggD (und Try.prog 48) = true) ∧ (okD (und Try.prog 48) = true) ∧ (szt Try.prog 48 = 0) ∧ (byt Try.prog 48 = 0) ∧ (zer Try.prog 48 = some (.agg #[])) ∧ (flds Try.prog 49 = some [(47, 0)]) ∧ (isAggD (und Try.prog 49) = true) ∧ (okD (und Try.prog 49) = true) ∧ (szt Try.prog 49 = 0) ∧ (byt Try.prog 49 = 0) ∧ (zer Try.prog 49 = some (.agg #[])) ∧ (und Try.prog 51 = .int .u32) ∧ (szt Try.prog 51 = 1) ∧ (byt Try.prog 51 = 4) ∧ (zer Try.prog 51 = some (.int .u32 0)) ∧ (und Try.prog 52 = .int .u8) ∧ (szt Try.prog 52 = 1) ∧ (byt Try.prog 52 = 1) ∧ (zer Try.prog 52 = some (.int .u8 0)) ∧ (und Try.prog 53 = .int .u8) ∧ (szt Try.prog 53 = 1) ∧ (byt Try.prog 53 = 1) ∧ (zer Try.prog 53 = some (.int .u8 0)) ∧ (und Try.prog 55 = .pointer 5) ∧ (szt Try.prog 55 = 1) ∧ (byt Try.prog 55 = 8) ∧ (zer Try.prog 55 = some (.pointer none)) ∧ (und Try.prog 56 = .int .i32) ∧ (szt Try.prog 56 = 1) ∧ (byt Try.prog 56 = 4) ∧ (zer Try.prog 56 = some (.int .i32 0)) ∧ (und Try.prog 57 = .int .i32) ∧ (szt Try.prog 57 = 1) ∧ (byt Try.prog 57 = 4) ∧ (zer Try.prog 57 = some (.int .i32 0)) ∧ (flds Try.prog 58 = some [(12, 0), (12, 1), (51, 2), (52, 3), (5, 4), (5, 5), (53, 6), (54, 7), (55, 8), (56, 9), (57, 10)]) ∧ (isAggD (und Try.prog 58) = true) ∧ (okD (und Try.prog 58) = true) ∧ (szt Try.prog 58 = 11) ∧ (byt Try.prog 58 = 48) ∧ (zer Try.prog 58 = some (.agg #[(.int .u64 0), (.int .u64 0), (.int .u32 0), (.int .u8 0), (.int .u8 0), (.int .u8 0), (.int .u8 0), .nilFunc, (.pointer none), (.int .i32 0), (.int .i32 0)])) ∧ (flds Try.prog 59 = some [(12, 0), (12, 1), (51, 2), (52, 3), (5, 4), (5, 5), (53, 6), (54, 7), (55, 8), (56, 9), (57, 10)]) ∧ (isAggD (und Try.prog 59) = true) ∧ (okD (und Try.prog 59) = true) ∧ (szt Try.prog 59 = 11) ∧ (byt Try.prog 59 = 48) ∧ (zer Try.prog 59 = some (.agg #[(.int .u64 0), (.int .u64 0), (.int .u32 0), (.int .u8 0), (.int .u8 0), (.int .u8 0), (.int .u8 0), .nilFunc, (.pointer none), (.int .i32 0), (.int .i32 0)])) :=
  ⟨tab0, tab1, tab2, tab3, tab4, tab5, tab6, tab7, tab8, tab9, tab10, tab11, tab12, tab13, tab14, tab15, tab16, tab17, tab18, tab19, tab20, tab21, tab22, tab23, tab24, tab25, tab26, tab27, tab28, tab29, tab30, tab31, tab32, tab33, tab34, tab35, tab36, tab37, tab38, tab39, tab40, tab41, tab42, tab43, tab44, tab45, tab46, tab47, tab48, tab49, tab50, tab51, tab52, tab53, tab54, tab55, tab56, tab57, tab58, tab59, tab60, tab61, tab62, tab63, tab64, tab65, tab66, tab67, tab68, tab69, tab70, tab71, tab72, tab73, tab74, tab75, tab76, tab77, tab78, tab79, tab80, tab81, tab82, tab83, tab84, tab85, tab86, tab87, tab88, tab89, tab90, tab91, tab92, tab93, tab94, tab95, tab96, tab97, tab98, tab99, tab100, tab101, tab102, tab103, tab104, tab105, tab106, tab107, tab108, tab109, tab110, tab111, tab112, tab113, tab114, tab115, tab116, tab117, tab118, tab119, tab120, tab121, tab122, tab123, tab124, tab125, tab126, tab127, tab128, tab129, tab130, tab131, tab132, tab133, tab134, tab135, tab136, tab137, tab138, tab139, tab140, tab141, tab142, tab143, tab144, tab145, tab146, tab147, tab148, tab149, tab150, tab151, tab152, tab153, tab154, tab155, tab156, tab157, tab158, tab159, tab160, tab161, tab162, tab163, tab164, tab165, tab166, tab167, tab168, tab169, tab170, tab171, tab172, tab173, tab174, tab175, tab176, tab177, tab178, tab179, tab180, tab181, tab182, tab183, tab184, tab185, tab186⟩
end Go.Proofs.Ytcdkpeepboofhaa
