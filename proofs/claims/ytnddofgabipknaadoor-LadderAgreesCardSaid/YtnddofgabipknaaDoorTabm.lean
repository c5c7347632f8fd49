/-
  The types of this program: shapes, sizes, zero values. Each by the kernel.
-/
import Derived.Test.YtnddofgabipknaaDoorLibB
import Derived.Test.YtnddofgabipknaaDoorChecked
namespace Go.Proofs.YtnddofgabipknaaDoor
open Go Go.RowKit
set_option maxRecDepth 100000
theorem tab0 : und Tryd.prog 2 = .int .i64 := by kernel_rfl
theorem tab1 : szt Tryd.prog 2 = 1 := by kernel_rfl
theorem tab2 : byt Tryd.prog 2 = 8 := by kernel_rfl
theorem tab3 : zer Tryd.prog 2 = some (.int .i64 0) := by kernel_rfl
theorem tab4 : und Tryd.prog 3 = .int .i64 := by kernel_rfl
theorem tab5 : szt Tryd.prog 3 = 1 := by kernel_rfl
theorem tab6 : byt Tryd.prog 3 = 8 := by kernel_rfl
theorem tab7 : zer Tryd.prog 3 = some (.int .i64 0) := by kernel_rfl
theorem tab8 : und Tryd.prog 4 = .bool := by kernel_rfl
theorem tab9 : szt Tryd.prog 4 = 1 := by kernel_rfl
theorem tab10 : byt Tryd.prog 4 = 1 := by kernel_rfl
theorem tab11 : zer Tryd.prog 4 = some (.bool false) := by kernel_rfl
theorem tab12 : und Tryd.prog 5 = .int .u8 := by kernel_rfl
theorem tab13 : szt Tryd.prog 5 = 1 := by kernel_rfl
theorem tab14 : byt Tryd.prog 5 = 1 := by kernel_rfl
theorem tab15 : zer Tryd.prog 5 = some (.int .u8 0) := by kernel_rfl
theorem tab16 : und Tryd.prog 6 = .int .u8 := by kernel_rfl
theorem tab17 : szt Tryd.prog 6 = 1 := by kernel_rfl
theorem tab18 : byt Tryd.prog 6 = 1 := by kernel_rfl
theorem tab19 : zer Tryd.prog 6 = some (.int .u8 0) := by kernel_rfl
theorem tab20 : flds Tryd.prog 7 = some [(2, 0), (3, 1), (4, 2), (6, 3)] := by kernel_rfl
theorem tab21 : isAggD (und Tryd.prog 7) = true := by kernel_rfl
theorem tab22 : okD (und Tryd.prog 7) = true := by kernel_rfl
theorem tab23 : szt Tryd.prog 7 = 4 := by kernel_rfl
theorem tab24 : byt Tryd.prog 7 = 24 := by kernel_rfl
theorem tab25 : zer Tryd.prog 7 = some (.agg #[(.int .i64 0), (.int .i64 0), (.bool false), (.int .u8 0)]) := by kernel_rfl
theorem tab26 : flds Tryd.prog 8 = some [(2, 0), (3, 1), (4, 2), (6, 3)] := by kernel_rfl
theorem tab27 : isAggD (und Tryd.prog 8) = true := by kernel_rfl
theorem tab28 : okD (und Tryd.prog 8) = true := by kernel_rfl
theorem tab29 : szt Tryd.prog 8 = 4 := by kernel_rfl
theorem tab30 : byt Tryd.prog 8 = 24 := by kernel_rfl
theorem tab31 : zer Tryd.prog 8 = some (.agg #[(.int .i64 0), (.int .i64 0), (.bool false), (.int .u8 0)]) := by kernel_rfl
theorem tab32 : und Tryd.prog 9 = .string := by kernel_rfl
theorem tab33 : szt Tryd.prog 9 = 1 := by kernel_rfl
theorem tab34 : byt Tryd.prog 9 = 16 := by kernel_rfl
theorem tab35 : zer Tryd.prog 9 = some (.string ByteArray.empty) := by kernel_rfl
theorem tab36 : und Tryd.prog 10 = .string := by kernel_rfl
theorem tab37 : szt Tryd.prog 10 = 1 := by kernel_rfl
theorem tab38 : byt Tryd.prog 10 = 16 := by kernel_rfl
theorem tab39 : zer Tryd.prog 10 = some (.string ByteArray.empty) := by kernel_rfl
theorem tab40 : und Tryd.prog 11 = .string := by kernel_rfl
theorem tab41 : szt Tryd.prog 11 = 1 := by kernel_rfl
theorem tab42 : byt Tryd.prog 11 = 16 := by kernel_rfl
theorem tab43 : zer Tryd.prog 11 = some (.string ByteArray.empty) := by kernel_rfl
theorem tab44 : und Tryd.prog 12 = .int .u64 := by kernel_rfl
theorem tab45 : szt Tryd.prog 12 = 1 := by kernel_rfl
theorem tab46 : byt Tryd.prog 12 = 8 := by kernel_rfl
theorem tab47 : zer Tryd.prog 12 = some (.int .u64 0) := by kernel_rfl
theorem tab48 : flds Tryd.prog 13 = some [(9, 0), (12, 1)] := by kernel_rfl
theorem tab49 : isAggD (und Tryd.prog 13) = true := by kernel_rfl
theorem tab50 : okD (und Tryd.prog 13) = true := by kernel_rfl
theorem tab51 : szt Tryd.prog 13 = 2 := by kernel_rfl
theorem tab52 : byt Tryd.prog 13 = 24 := by kernel_rfl
theorem tab53 : zer Tryd.prog 13 = some (.agg #[(.string ByteArray.empty), (.int .u64 0)]) := by kernel_rfl
theorem tab54 : flds Tryd.prog 14 = some [(9, 0), (12, 1)] := by kernel_rfl
theorem tab55 : isAggD (und Tryd.prog 14) = true := by kernel_rfl
theorem tab56 : okD (und Tryd.prog 14) = true := by kernel_rfl
theorem tab57 : szt Tryd.prog 14 = 2 := by kernel_rfl
theorem tab58 : byt Tryd.prog 14 = 24 := by kernel_rfl
theorem tab59 : zer Tryd.prog 14 = some (.agg #[(.string ByteArray.empty), (.int .u64 0)]) := by kernel_rfl
theorem tab60 : und Tryd.prog 15 = .pointer 74 := by kernel_rfl
theorem tab61 : szt Tryd.prog 15 = 1 := by kernel_rfl
theorem tab62 : byt Tryd.prog 15 = 8 := by kernel_rfl
theorem tab63 : zer Tryd.prog 15 = some (.pointer none) := by kernel_rfl
theorem tab64 : und Tryd.prog 16 = .pointer 77 := by kernel_rfl
theorem tab65 : szt Tryd.prog 16 = 1 := by kernel_rfl
theorem tab66 : byt Tryd.prog 16 = 8 := by kernel_rfl
theorem tab67 : zer Tryd.prog 16 = some (.pointer none) := by kernel_rfl
theorem tab68 : und Tryd.prog 17 = .pointer 86 := by kernel_rfl
theorem tab69 : szt Tryd.prog 17 = 1 := by kernel_rfl
theorem tab70 : byt Tryd.prog 17 = 8 := by kernel_rfl
theorem tab71 : zer Tryd.prog 17 = some (.pointer none) := by kernel_rfl
theorem tab72 : flds Tryd.prog 18 = some [(17, 0)] := by kernel_rfl
theorem tab73 : isAggD (und Tryd.prog 18) = true := by kernel_rfl
theorem tab74 : okD (und Tryd.prog 18) = true := by kernel_rfl
theorem tab75 : szt Tryd.prog 18 = 1 := by kernel_rfl
theorem tab76 : byt Tryd.prog 18 = 8 := by kernel_rfl
theorem tab77 : zer Tryd.prog 18 = some (.agg #[(.pointer none)]) := by kernel_rfl
theorem tab78 : flds Tryd.prog 19 = some [(17, 0)] := by kernel_rfl
theorem tab79 : isAggD (und Tryd.prog 19) = true := by kernel_rfl
theorem tab80 : okD (und Tryd.prog 19) = true := by kernel_rfl
theorem tab81 : szt Tryd.prog 19 = 1 := by kernel_rfl
theorem tab82 : byt Tryd.prog 19 = 8 := by kernel_rfl
theorem tab83 : zer Tryd.prog 19 = some (.agg #[(.pointer none)]) := by kernel_rfl
theorem tab84 : und Tryd.prog 21 = .int .i32 := by kernel_rfl
theorem tab85 : szt Tryd.prog 21 = 1 := by kernel_rfl
theorem tab86 : byt Tryd.prog 21 = 4 := by kernel_rfl
theorem tab87 : zer Tryd.prog 21 = some (.int .i32 0) := by kernel_rfl
theorem tab88 : und Tryd.prog 22 = .array 32 5 := by kernel_rfl
theorem tab89 : flds Tryd.prog 22 = none := by kernel_rfl
theorem tab90 : gl Tryd.prog 22 = true := by kernel_rfl
theorem tab91 : szt Tryd.prog 22 = 32 := by kernel_rfl
theorem tab92 : byt Tryd.prog 22 = 32 := by kernel_rfl
theorem tab93 : zer Tryd.prog 22 = some (.agg (iv .u8 (zl 32)).toArray) := by kernel_rfl
theorem tab94 : und Tryd.prog 23 = .array 32 5 := by kernel_rfl
theorem tab95 : flds Tryd.prog 23 = none := by kernel_rfl
theorem tab96 : gl Tryd.prog 23 = true := by kernel_rfl
theorem tab97 : szt Tryd.prog 23 = 32 := by kernel_rfl
theorem tab98 : byt Tryd.prog 23 = 32 := by kernel_rfl
theorem tab99 : zer Tryd.prog 23 = some (.agg (iv .u8 (zl 32)).toArray) := by kernel_rfl
theorem tab100 : und Tryd.prog 32 = .int .u64 := by kernel_rfl
theorem tab101 : szt Tryd.prog 32 = 1 := by kernel_rfl
theorem tab102 : byt Tryd.prog 32 = 8 := by kernel_rfl
theorem tab103 : zer Tryd.prog 32 = some (.int .u64 0) := by kernel_rfl
theorem tab104 : und Tryd.prog 33 = .array 4 32 := by kernel_rfl
theorem tab105 : flds Tryd.prog 33 = none := by kernel_rfl
theorem tab106 : gl Tryd.prog 33 = true := by kernel_rfl
theorem tab107 : szt Tryd.prog 33 = 4 := by kernel_rfl
theorem tab108 : byt Tryd.prog 33 = 32 := by kernel_rfl
theorem tab109 : zer Tryd.prog 33 = some (.agg (iv .u64 (zl 4)).toArray) := by kernel_rfl
theorem tab110 : und Tryd.prog 34 = .array 4 32 := by kernel_rfl
theorem tab111 : flds Tryd.prog 34 = none := by kernel_rfl
theorem tab112 : gl Tryd.prog 34 = true := by kernel_rfl
theorem tab113 : szt Tryd.prog 34 = 4 := by kernel_rfl
theorem tab114 : byt Tryd.prog 34 = 32 := by kernel_rfl
theorem tab115 : zer Tryd.prog 34 = some (.agg (iv .u64 (zl 4)).toArray) := by kernel_rfl
theorem tab116 : flds Tryd.prog 35 = some [(34, 0)] := by kernel_rfl
theorem tab117 : isAggD (und Tryd.prog 35) = true := by kernel_rfl
theorem tab118 : okD (und Tryd.prog 35) = true := by kernel_rfl
theorem tab119 : szt Tryd.prog 35 = 4 := by kernel_rfl
theorem tab120 : byt Tryd.prog 35 = 32 := by kernel_rfl
theorem tab121 : zer Tryd.prog 35 = some (.agg (iv .u64 (zl 4)).toArray) := by kernel_rfl
theorem tab122 : flds Tryd.prog 36 = some [(34, 0)] := by kernel_rfl
theorem tab123 : isAggD (und Tryd.prog 36) = true := by kernel_rfl
theorem tab124 : okD (und Tryd.prog 36) = true := by kernel_rfl
theorem tab125 : szt Tryd.prog 36 = 4 := by kernel_rfl
theorem tab126 : byt Tryd.prog 36 = 32 := by kernel_rfl
theorem tab127 : zer Tryd.prog 36 = some (.agg (iv .u64 (zl 4)).toArray) := by kernel_rfl
theorem tab128 : und Tryd.prog 39 = .int .u32 := by kernel_rfl
theorem tab129 : szt Tryd.prog 39 = 1 := by kernel_rfl
theorem tab130 : byt Tryd.prog 39 = 4 := by kernel_rfl
theorem tab131 : zer Tryd.prog 39 = some (.int .u32 0) := by kernel_rfl
theorem tab132 : flds Tryd.prog 45 = some [(36, 0), (36, 4)] := by kernel_rfl
theorem tab133 : isAggD (und Tryd.prog 45) = true := by kernel_rfl
theorem tab134 : okD (und Tryd.prog 45) = true := by kernel_rfl
theorem tab135 : szt Tryd.prog 45 = 8 := by kernel_rfl
theorem tab136 : byt Tryd.prog 45 = 64 := by kernel_rfl
theorem tab137 : zer Tryd.prog 45 = some (.agg (iv .u64 (zl 8)).toArray) := by kernel_rfl
theorem tab138 : flds Tryd.prog 46 = some [(36, 0), (36, 4)] := by kernel_rfl
theorem tab139 : isAggD (und Tryd.prog 46) = true := by kernel_rfl
theorem tab140 : okD (und Tryd.prog 46) = true := by kernel_rfl
theorem tab141 : szt Tryd.prog 46 = 8 := by kernel_rfl
theorem tab142 : byt Tryd.prog 46 = 64 := by kernel_rfl
theorem tab143 : zer Tryd.prog 46 = some (.agg (iv .u64 (zl 8)).toArray) := by kernel_rfl
theorem tab144 : und Tryd.prog 53 = .slice 32 := by kernel_rfl
theorem tab145 : szt Tryd.prog 53 = 1 := by kernel_rfl
theorem tab146 : byt Tryd.prog 53 = 24 := by kernel_rfl
theorem tab147 : zer Tryd.prog 53 = some (.slice none 0 0) := by kernel_rfl
theorem tab148 : und Tryd.prog 56 = .int .u64 := by kernel_rfl
theorem tab149 : szt Tryd.prog 56 = 1 := by kernel_rfl
theorem tab150 : byt Tryd.prog 56 = 8 := by kernel_rfl
theorem tab151 : zer Tryd.prog 56 = some (.int .u64 0) := by kernel_rfl
theorem tab152 : und Tryd.prog 62 = .slice 36 := by kernel_rfl
theorem tab153 : szt Tryd.prog 62 = 1 := by kernel_rfl
theorem tab154 : byt Tryd.prog 62 = 24 := by kernel_rfl
theorem tab155 : zer Tryd.prog 62 = some (.slice none 0 0) := by kernel_rfl
theorem tab156 : und Tryd.prog 67 = .array 8 32 := by kernel_rfl
theorem tab157 : flds Tryd.prog 67 = none := by kernel_rfl
theorem tab158 : gl Tryd.prog 67 = true := by kernel_rfl
theorem tab159 : szt Tryd.prog 67 = 8 := by kernel_rfl
theorem tab160 : byt Tryd.prog 67 = 64 := by kernel_rfl
theorem tab161 : zer Tryd.prog 67 = some (.agg (iv .u64 (zl 8)).toArray) := by kernel_rfl
theorem tab162 : flds Tryd.prog 73 = some [(17, 0), (17, 1), (17, 2), (9, 3)] := by kernel_rfl
theorem tab163 : isAggD (und Tryd.prog 73) = true := by kernel_rfl
theorem tab164 : okD (und Tryd.prog 73) = true := by kernel_rfl
theorem tab165 : szt Tryd.prog 73 = 4 := by kernel_rfl
theorem tab166 : byt Tryd.prog 73 = 40 := by kernel_rfl
theorem tab167 : zer Tryd.prog 73 = some (.agg #[(.pointer none), (.pointer none), (.pointer none), (.string ByteArray.empty)]) := by kernel_rfl
theorem tab168 : flds Tryd.prog 74 = some [(17, 0), (17, 1), (17, 2), (9, 3)] := by kernel_rfl
theorem tab169 : isAggD (und Tryd.prog 74) = true := by kernel_rfl
theorem tab170 : okD (und Tryd.prog 74) = true := by kernel_rfl
theorem tab171 : szt Tryd.prog 74 = 4 := by kernel_rfl
theorem tab172 : byt Tryd.prog 74 = 40 := by kernel_rfl
theorem tab173 : zer Tryd.prog 74 = some (.agg #[(.pointer none), (.pointer none), (.pointer none), (.string ByteArray.empty)]) := by kernel_rfl
theorem tab174 : und Tryd.prog 75 = .array 0 16 := by kernel_rfl
theorem tab175 : flds Tryd.prog 75 = none := by kernel_rfl
theorem tab176 : szt Tryd.prog 75 = 0 := by kernel_rfl
theorem tab177 : byt Tryd.prog 75 = 0 := by kernel_rfl
theorem tab178 : zer Tryd.prog 75 = some (.agg #[]) := by kernel_rfl
theorem tab179 : flds Tryd.prog 76 = some [(75, 0)] := by kernel_rfl
theorem tab180 : isAggD (und Tryd.prog 76) = true := by kernel_rfl
theorem tab181 : okD (und Tryd.prog 76) = true := by kernel_rfl
theorem tab182 : szt Tryd.prog 76 = 0 := by kernel_rfl
theorem tab183 : byt Tryd.prog 76 = 0 := by kernel_rfl
theorem tab184 : zer Tryd.prog 76 = some (.agg #[]) := by kernel_rfl
theorem tab185 : flds Tryd.prog 77 = some [(75, 0)] := by kernel_rfl
theorem tab186 : isAggD (und Tryd.prog 77) = true := by kernel_rfl
theorem tab187 : okD (und Tryd.prog 77) = true := by kernel_rfl
theorem tab188 : szt Tryd.prog 77 = 0 := by kernel_rfl
theorem tab189 : byt Tryd.prog 77 = 0 := by kernel_rfl
theorem tab190 : zer Tryd.prog 77 = some (.agg #[]) := by kernel_rfl
theorem tab191 : und Tryd.prog 79 = .int .u8 := by kernel_rfl
theorem tab192 : szt Tryd.prog 79 = 1 := by kernel_rfl
theorem tab193 : byt Tryd.prog 79 = 1 := by kernel_rfl
theorem tab194 : zer Tryd.prog 79 = some (.int .u8 0) := by kernel_rfl
theorem tab195 : und Tryd.prog 80 = .int .u8 := by kernel_rfl
theorem tab196 : szt Tryd.prog 80 = 1 := by kernel_rfl
theorem tab197 : byt Tryd.prog 80 = 1 := by kernel_rfl
theorem tab198 : zer Tryd.prog 80 = some (.int .u8 0) := by kernel_rfl
theorem tab199 : und Tryd.prog 82 = .pointer 5 := by kernel_rfl
theorem tab200 : szt Tryd.prog 82 = 1 := by kernel_rfl
theorem tab201 : byt Tryd.prog 82 = 8 := by kernel_rfl
theorem tab202 : zer Tryd.prog 82 = some (.pointer none) := by kernel_rfl
theorem tab203 : und Tryd.prog 83 = .int .i32 := by kernel_rfl
theorem tab204 : szt Tryd.prog 83 = 1 := by kernel_rfl
theorem tab205 : byt Tryd.prog 83 = 4 := by kernel_rfl
theorem tab206 : zer Tryd.prog 83 = some (.int .i32 0) := by kernel_rfl
theorem tab207 : und Tryd.prog 84 = .int .i32 := by kernel_rfl
theorem tab208 : szt Tryd.prog 84 = 1 := by kernel_rfl
theorem tab209 : byt Tryd.prog 84 = 4 := by kernel_rfl
theorem tab210 : zer Tryd.prog 84 = some (.int .i32 0) := by kernel_rfl
theorem tab211 : flds Tryd.prog 85 = some [(12, 0), (12, 1), (39, 2), (79, 3), (5, 4), (5, 5), (80, 6), (81, 7), (82, 8), (83, 9), (84, 10)] := by kernel_rfl
theorem tab212 : isAggD (und Tryd.prog 85) = true := by kernel_rfl
theorem tab213 : okD (und Tryd.prog 85) = true := by kernel_rfl
theorem tab214 : szt Tryd.prog 85 = 11 := by kernel_rfl
theorem tab215 : byt Tryd.prog 85 = 48 := by kernel_rfl
theorem tab216 : zer Tryd.prog 85 = some (.agg #[(.int .u64 0), (.int .u64 0), (.int .u32 0), (.int .u8 0), (.int .u8 0), (.int .u8 0), (.int .u8 0), .nilFunc, (.pointer none), (.int .i32 0), (.int .i32 0)]) := by kernel_rfl
theorem tab217 : flds Tryd.prog 86 = some [(12, 0), (12, 1), (39, 2), (79, 3), (5, 4), (5, 5), (80, 6), (81, 7), (82, 8), (83, 9), (84, 10)] := by kernel_rfl
theorem tab218 : isAggD (und Tryd.prog 86) = true := by kernel_rfl
theorem tab219 : okD (und Tryd.prog 86) = true := by kernel_rfl
theorem tab220 : szt Tryd.prog 86 = 11 := by kernel_rfl
theorem tab221 : byt Tryd.prog 86 = 48 := by kernel_rfl
theorem tab222 : zer Tryd.prog 86 = some (.agg #[(.int .u64 0), (.int .u64 0), (.int .u32 0), (.int .u8 0), (.int .u8 0), (.int .u8 0), (.int .u8 0), .nilFunc, (.pointer none), (.int .i32 0), (.int .i32 0)]) := by kernel_rfl
theorem tab : (und Tryd.prog 2 = .int .i64) ∧ (szt Tryd.prog 2 = 1) ∧ (byt Tryd.prog 2 = 8) ∧ (zer Tryd.prog 2 = some (.int .i64 0)) ∧ (und Tryd.prog 3 = .int .i64) ∧ (szt Tryd.prog 3 = 1) ∧ (byt Tryd.prog 3 = 8) ∧ (zer Tryd.prog 3 = some (.int .i64 0)) ∧ (und Tryd.prog 4 = .bool) ∧ (szt Tryd.prog 4 = 1) ∧ (byt Tryd.prog 4 = 1) ∧ (zer Tryd.prog 4 = some (.bool false)) ∧ (und Tryd.prog 5 = .int .u8) ∧ (szt Tryd.prog 5 = 1) ∧ (byt Tryd.prog 5 = 1) ∧ (zer Tryd.prog 5 = some (.int .u8 0)) ∧ (und Tryd.prog 6 = .int .u8) ∧ (szt Tryd.prog 6 = 1) ∧ (byt Tryd.prog 6 = 1) ∧ (zer Tryd.prog 6 = some (.int .u8 0)) ∧ (flds Tryd.prog 7 = some [(2, 0), (3, 1), (4, 2), (6, 3)]) ∧ (isAggD (und Tryd.prog 7) = true) ∧ (okD (und Tryd.prog 7) = true) ∧ (szt Tryd.prog 7 = 4) ∧ (byt Tryd.prog 7 = 24) ∧ (zer Tryd.prog 7 = some (.agg #[(.int .i64 0), (.int .i64 0), (.bool false), (.int .u8 0)])) ∧ (flds Tryd.prog 8 = some [(2, 0), (3, 1), (4, 2), (6, 3)]) ∧ (isAggD (und Tryd.prog 8) = true) ∧ (okD (und Tryd.prog 8) = true) ∧ (szt Tryd.prog 8 = 4) ∧ (byt Tryd.prog 8 = 24) ∧ (zer Tryd.prog 8 = some (.agg #[(.int .i64 0), (.int .i64 0), (.bool false), (.int .u8 0)])) ∧ (und Tryd.prog 9 = .string) ∧ (szt Tryd.prog 9 = 1) ∧ (byt Tryd.prog 9 = 16) ∧ (zer Tryd.prog 9 = some (.string ByteArray.empty)) ∧ (und Tryd.prog 10 = .string) ∧ (szt Tryd.prog 10 = 1) ∧ (byt Tryd.prog 10 = 16) ∧ (zer Tryd.prog 10 = some (.string ByteArray.empty)) ∧ (und Tryd.prog 11 = .string) ∧ (szt Tryd.prog 11 = 1) ∧ (byt Tryd.prog 11 = 16) ∧ (zer Tryd.prog 11 = some (.string ByteArray.empty)) ∧ (und Tryd.prog 12 = .int .u64) ∧ (szt Tryd.prog 12 = 1) ∧ (byt Tryd.prog 12 = 8) ∧ (zer Tryd.prog 12 = some (.int .u64 0)) ∧ (flds Tryd.prog 13 = some [(9, 0), (12, 1)]) ∧ (isAggD (und Tryd.prog 13) = true) ∧ (okD (und Tryd.prog 13) = true) ∧ (szt Tryd.prog 13 = 2) ∧ (byt Tryd.prog 13 = 24) ∧ (zer Tryd.prog 13 = some (.agg #[(.string ByteArray.empty), (.int .u64 0)])) ∧ (flds Tryd.prog 14 = some [(9, 0), (12, 1)]) ∧ (isAggD (und Tryd.prog 14) = true) ∧ (okD (und Tryd.prog 14) = true) ∧ (szt Tryd.prog 14 = 2) ∧ (byt Tryd.prog 14 = 24) ∧ (zer Tryd.prog 14 = some (.agg #[(.string ByteArray.empty), (.int .u64 0)])) ∧ (und Tryd.prog 15 = .pointer 74) ∧ (szt Tryd.prog 15 = 1) ∧ (byt Tryd.prog 15 = 8) ∧ (zer Tryd.prog 15 = some (.pointer none)) ∧ (und Tryd.prog 16 = .pointer 77) ∧ (szt Tryd.prog 16 = 1) ∧ (byt Tryd.prog 16 = 8) ∧ (zer Tryd.prog 16 = some (.pointer none)) ∧ (und Tryd.prog 17 = .pointer 86) ∧ (szt Tryd.prog 17 = 1) ∧ (byt Tryd.prog 17 = 8) ∧ (zer Tryd.prog 17 = some (.pointer none)) ∧ (flds Tryd.prog 18 = some [(17, 0)]) ∧ (isAggD (und Tryd.prog 18) = true) ∧ (okD (und Tryd.prog 18) = true) ∧ (szt Tryd.prog 18 = 1) ∧ (byt Tryd.prog 18 = 8) ∧ (zer Tryd.prog 18 = some (.agg #[(.pointer none)])) ∧ (flds Tryd.prog 19 = some [(17, 0)]) ∧ (isAggD (und Tryd.prog 19) = true) ∧ (okD (und Tryd.prog 19) = true) ∧ (szt Tryd.prog 19 = 1) ∧ (byt Tryd.prog 19 = 8) ∧ (zer Tryd.prog 19 = some (.agg #[(.pointer none)])) ∧ (und Tryd.prog 21 = .int .i32) ∧ (szt Tryd.prog 21 = 1) ∧ (byt Tryd.prog 21 = 4) ∧ (zer Tryd.prog 21 = some (.int .i32 0)) ∧ (und Tryd.prog 22 = .array 32 5) ∧ (flds Tryd.prog 22 = none) ∧ (gl Tryd.prog 22 = true) ∧ (szt Tryd.prog 22 = 32) ∧ (byt Tryd.prog 22 = 32) ∧ (zer Tryd.prog 22 = some (.agg (iv .u8 (zl 32)).toArray)) ∧ (und Tryd.prog 23 = .array 32 5) ∧ (flds Tryd.prog 23 = none) ∧ (gl Tryd.prog 23 = true) ∧ (szt Tryd.prog 23 = 32) ∧ (byt Tryd.prog 23 = 32) ∧ (zer Tryd.prog 23 = some (.agg (iv .u8 (zl 32)).toArray)) ∧ (und Tryd.prog 32 = .int .u64) ∧ (szt Tryd.prog 32 = 1) ∧ (byt Tryd.prog 32 = 8) ∧ (zer Tryd.prog 32 = some (.int .u64 0)) ∧ (und Tryd.prog 33 = .array 4 32) ∧ (flds Tryd.prog 33 = none) ∧ (gl Tryd.prog 33 = true) ∧ (szt Tryd.prog 33 = 4) ∧ (byt Tryd.prog 33 = 32) ∧ (zer Tryd.prog 33 = some (.agg (iv .u64 (zl 4)).toArray)) ∧ (und Tryd.prog 34 = .array 4 32) ∧ (flds Tryd.prog 34 = none) ∧ (gl Tryd.prog 34 = true) ∧ (szt Tryd.prog 34 = 4) ∧ (byt Tryd.prog 34 = 32) ∧ (zer Tryd.prog 34 = some (.agg (iv .u64 (zl 4)).toArray)) ∧ (flds Tryd.prog 35 = some [(34, 0)]) ∧ (isAggD (und Tryd.prog 35) = true) ∧ (okD (und Tryd.prog 35) = true) ∧ (szt Tryd.prog 35 = 4) ∧ (byt Tryd.prog 35 = 32) ∧ (zer Tryd.prog 35 = some (.agg (iv .u64 (zl 4)).toArray)) ∧ (flds Tryd.prog 36 = some [(34, 0)]) ∧ (isAggD (und Tryd.prog 36) = true) ∧ (okD (und Tryd.prog 36) = true) ∧ (szt Tryd.prog 36 = 4) ∧ (byt Tryd.prog 36 = 32) ∧ (zer Tryd.prog 36 = some (.agg (iv .u64 (zl 4)).toArray)) ∧ (und Tryd.prog 39 = .int .u32) ∧ (szt Tryd.prog 39 = 1) ∧ (byt Tryd.prog 39 = 4) ∧ (zer Tryd.prog 39 = some (.int .u32 0)) ∧ (flds Tryd.prog 45 = some [(36, 0), (36, 4)]) ∧ (isAggD (und Tryd.prog 45) = true) ∧ (okD (und Tryd.prog 45) = true) ∧ (szt Tryd.prog 45 = 8) ∧ (byt Tryd.prog 45 = 64) ∧ (zer Tryd.prog 45 = some (.agg (iv .u64 (zl 8)).toArray)) ∧ (flds Tryd.prog 46 = some [(36, 0), (36, 4)]) ∧ (isAggD (und Tryd.prog 46) = true) ∧ (okD (und Tryd.prog 46) = true) ∧ (szt Tryd.prog 46 = 8) ∧ (byt Tryd.prog 46 = 64) ∧ (zer Tryd.prog 46 = some (.agg (iv .u64 (zl 8)).toArray)) ∧ (und Tryd.prog 53 = .slice 32) ∧ (szt Tryd.prog 53 = 1) ∧ (byt Tryd.prog 53 = 24) ∧ (zer Tryd.prog 53 = some (.slice none 0 0)) ∧ (und Tryd.prog 56 = .int .u64) ∧ (szt Tryd.prog 56 = 1) ∧ (byt Tryd.prog 56 = 8) ∧ (zer Tryd.prog 56 = some (.int .u64 0)) ∧ (und Tryd.prog 62 = .slice 36) ∧ (szt Tryd.prog 62 = 1) ∧ (byt Tryd.prog 62 = 24) ∧ (zer Tryd.prog 62 = some (.slice none 0 0)) ∧ (und Tryd.prog 67 = .array 8 32) ∧ (flds Tryd.prog 67 = none) ∧ (gl Tryd.prog 67 = true) ∧ (szt Tryd.prog 67 = 8) ∧ (byt Tryd.prog 67 = 64) ∧ (zer Tryd.prog 67 = some (.agg (iv .u64 (zl 8)).toArray)) ∧ (flds Tryd.prog 73 = some [(17, 0), (17, 1), (17, 2), (9, 3)]) ∧ (isAggD (und Tryd.prog 73) = true) ∧ (okD (und Tryd.prog 73) = true) ∧ (szt Tryd.prog 73 = 4) ∧ (byt Tryd.prog 73 = 40) ∧ (zer Tryd.prog 73 = some (.agg #[(.pointer none), (.pointer none), (.pointer none), (.string ByteArray.empty)])) ∧ (flds Tryd.prog 74 = some [(17, 0), (17, 1), (17, 2), (9, 3)]) ∧ (isAggD (und Tryd.prog 74) = true) ∧ (okD (und Tryd.prog 74) = true) ∧ (szt Tryd.prog 74 = 4) ∧ (byt Tryd.prog 74 = 40) ∧ (zer Tryd.prog 74 = some (.agg #[(.pointer none), (.pointer none), (.pointer none), (.string ByteArray.empty)])) ∧ (und Tryd.prog 75 = .array 0 16) ∧ (flds Tryd.prog 75 = none) ∧ (szt Tryd.prog 75 = 0) ∧ (byt Tryd.prog 75 = 0) ∧ (zer Tryd.prog 75 = some (.agg #[])) ∧ (flds Tryd.prog 76 = some [(75, 0)]) ∧ (isAggD (und Tryd.prog 76) = true) ∧ (okD (und Tryd.prog 76) = true) ∧ (szt Tryd.prog 76 = 0) ∧ (byt Tryd.prog 76 = 0) ∧ (zer Tryd.prog 76 = some (.agg #[])) ∧ (flds Tryd.prog 77 = some [(75, 0)]) ∧ (isAggD (und Tryd.prog 77) = true) ∧ (okD (und Tryd.prog 77) = true) ∧ (szt Tryd.prog 77 = 0) ∧ (byt Tryd.prog 77 = 0) ∧ (zer Tryd.prog 77 = some (.agg #[])) ∧ (und Tryd.prog 79 = .int .u8) ∧ (szt Tryd.prog 79 = 1) ∧ (byt Tryd.prog 79 = 1) ∧ (zer Tryd.prog 79 = some (.int .u8 0)) ∧ (und Tryd.prog 80 = .int .u8) ∧ (szt Tryd.prog 80 = 1) ∧ (byt Tryd.prog 80 = 1) ∧ (zer Tryd.prog 80 = some (.int .u8 0)) ∧ (und Tryd.prog 82 = .pointer 5) ∧ (szt Tryd.prog 82 = 1) ∧ (byt Tryd.prog 82 = 8) ∧ (zer Tryd.prog 82 = some (.pointer none)) ∧ (und Tryd.prog 83 = .int .i32) ∧ (szt Tryd.prog 83 = 1) ∧ (byt Tryd.prog 83 = 4) ∧ (zer Tryd.prog 83 = some (.int .i32 0)) ∧ (und Tryd.prog 84 = .int .i32) ∧ (szt Tryd.prog 84 = 1) ∧ (byt Tryd.prog 84 = 4) ∧ (zer Tryd.prog 84 = some (.int .i32 0)) ∧ (flds Tryd.prog 85 = some [(12, 0), (12, 1), (39, 2), (79, 3), (5, 4), (5, 5), (80, 6), (81, 7), (82, 8), (83, 9), (84, 10)]) ∧ (isAggD (und Tryd.prog 85) = true) ∧ (okD (und Tryd.prog 85) = true) ∧ (szt Tryd.prog 85 = 11) ∧ (byt Tryd.prog 85 = 48) ∧ (zer Tryd.prog 85 = some (.agg #[(.int .u64 0), (.int .u64 0), (.int .u32 0), (.int .u8 0), (.int .u8 0), (.int .u8 0), (.int .u8 0), .nilFunc, (.pointer none), (.int .i32 0), (.int .i32 0)])) ∧ (flds Tryd.prog 86 = some [(12, 0), (12, 1), (39, 2), (79, 3), (5, 4), (5, 5), (80, 6), (81, 7), (82, 8), (83, 9), (84, 10)]) ∧ (isAggD (und Tryd.prog 86) = true) ∧ (okD (und Tryd.prog 86) = true) ∧ (szt Tryd.prog 86 = 11) ∧ (byt Tryd.prog 86 = 48) ∧ (zer Tryd.prog 86 = some (.agg #[(.int .u64 0), (.int .u64 0), (.int .u32 0), (.int .u8 0), (.int .u8 0), (.int .u8 0), (.int .u8 0), .nilFunc, (.pointer none), (.int .i32 0), (.int .i32 0)])) :=
  ⟨tab0, tab1, tab2, tab3, tab4, tab5, tab6, tab7, tab8, tab9, tab10, tab11, tab12, tab13, tab14, tab15, tab16, tab17, tab18, tab19, tab20, tab21, tab22, tab23, tab24, tab25, tab26, tab27, tab28, tab29, tab30, tab31, tab32, tab33, tab34, tab35, tab36, tab37, tab38, tab39, tab40, tab41, tab42, tab43, tab44, tab45, tab46, tab47, tab48, tab49, tab50, tab51, tab52, tab53, tab54, tab55, tab56, tab57, tab58, tab59, tab60, tab61, tab62, tab63, tab64, tab65, tab66, tab67, tab68, tab69, tab70, tab71, tab72, tab73, tab74, tab75, tab76, tab77, tab78, tab79, tab80, tab81, tab82, tab83, tab84, tab85, tab86, tab87, tab88, tab89, tab90, tab91, tab92, tab93, tab94, tab95, tab96, tab97, tab98, tab99, tab100, tab101, tab102, tab103, tab104, tab105, tab106, tab107, tab108, tab109, tab110, tab111, tab112, tab113, tab114, tab115, tab116, tab117, tab118, tab119, tab120, tab121, tab122, tab123, tab124, tab125, tab126, tab127, tab128, tab129, tab130, tab131, tab132, tab133, tab134, tab135, tab136, tab137, tab138, tab139, tab140, tab141, tab142, tab143, tab144, tab145, tab146, tab147, tab148, tab149, tab150, tab151, tab152, tab153, tab154, tab155, tab156, tab157, tab158, tab159, tab160, tab161, tab162, tab163, tab164, tab165, tab166, tab167, tab168, tab169, tab170, tab171, tab172, tab173, tab174, tab175, tab176, tab177, tab178, tab179, tab180, tab181, tab182, tab183, tab184, tab185, tab186, tab187, tab188, tab189, tab190, tab191, tab192, tab193, tab194, tab195, tab196, tab197, tab198, tab199, tab200, tab201, tab202, tab203, tab204, tab205, tab206, tab207, tab208, tab209, tab210, tab211, tab212, tab213, tab214, tab215, tab216, tab217, tab218, tab219, tab220, tab221, tab222⟩
end Go.Proofs.YtnddofgabipknaaDoor
