/-
  The types of this program: shapes, sizes, zero values. Each by the kernel.
-/
import Derived.Test.YtjfhdckcjkgjnaaDoorXg
import Derived.Test.YtjfhdckcjkgjnaaDoorChecked
namespace Go.Proofs.YtjfhdckcjkgjnaaDoor
open Go Go.RowKit
set_option maxRecDepth 100000
theorem tab0 : und Tryd.prog 2 = .int .i64 := by kernel_rfl
theorem tab1 : szt Tryd.prog 2 = 1 := by kernel_rfl
theorem tab2 : byt Tryd.prog 2 = 8 := by kernel_rfl
theorem tab3 : zer Tryd.prog 2 = some (.int .i64 0) := by kernel_rfl
theorem tab4 : und Tryd.prog 3 = .int .i64 := by kernel_rfl
theorem tab5 : szt Tryd.prog 3 = 1 := by kernel_rfl
theorem tab6 : byt Tryd.prog 3 = 8 := by kernel_rfl
theorem tab7 : zer Tryd.prog 3 = some (.int .i64 0) := by kernel_rfl
theorem tab8 : und Tryd.prog 4 = .bool := by kernel_rfl
theorem tab9 : szt Tryd.prog 4 = 1 := by kernel_rfl
theorem tab10 : byt Tryd.prog 4 = 1 := by kernel_rfl
theorem tab11 : zer Tryd.prog 4 = some (.bool false) := by kernel_rfl
theorem tab12 : und Tryd.prog 5 = .int .u8 := by kernel_rfl
theorem tab13 : szt Tryd.prog 5 = 1 := by kernel_rfl
theorem tab14 : byt Tryd.prog 5 = 1 := by kernel_rfl
theorem tab15 : zer Tryd.prog 5 = some (.int .u8 0) := by kernel_rfl
theorem tab16 : und Tryd.prog 6 = .int .u8 := by kernel_rfl
theorem tab17 : szt Tryd.prog 6 = 1 := by kernel_rfl
theorem tab18 : byt Tryd.prog 6 = 1 := by kernel_rfl
theorem tab19 : zer Tryd.prog 6 = some (.int .u8 0) := by kernel_rfl
theorem tab20 : flds Tryd.prog 7 = some [(2, 0), (3, 1), (4, 2), (6, 3)] := by kernel_rfl
theorem tab21 : isAggD (und Tryd.prog 7) = true := by kernel_rfl
theorem tab22 : okD (und Tryd.prog 7) = true := by kernel_rfl
theorem tab23 : szt Tryd.prog 7 = 4 := by kernel_rfl
theorem tab24 : byt Tryd.prog 7 = 24 := by kernel_rfl
theorem tab25 : zer Tryd.prog 7 = some (.agg #[(.int .i64 0), (.int .i64 0), (.bool false), (.int .u8 0)]) := by kernel_rfl
theorem tab26 : flds Tryd.prog 8 = some [(2, 0), (3, 1), (4, 2), (6, 3)] := by kernel_rfl
theorem tab27 : isAggD (und Tryd.prog 8) = true := by kernel_rfl
theorem tab28 : okD (und Tryd.prog 8) = true := by kernel_rfl
theorem tab29 : szt Tryd.prog 8 = 4 := by kernel_rfl
theorem tab30 : byt Tryd.prog 8 = 24 := by kernel_rfl
theorem tab31 : zer Tryd.prog 8 = some (.agg #[(.int .i64 0), (.int .i64 0), (.bool false), (.int .u8 0)]) := by kernel_rfl
theorem tab32 : und Tryd.prog 9 = .string := by kernel_rfl
theorem tab33 : szt Tryd.prog 9 = 1 := by kernel_rfl
theorem tab34 : byt Tryd.prog 9 = 16 := by kernel_rfl
theorem tab35 : zer Tryd.prog 9 = some (.string ByteArray.empty) := by kernel_rfl
theorem tab36 : und Tryd.prog 10 = .string := by kernel_rfl
theorem tab37 : szt Tryd.prog 10 = 1 := by kernel_rfl
theorem tab38 : byt Tryd.prog 10 = 16 := by kernel_rfl
theorem tab39 : zer Tryd.prog 10 = some (.string ByteArray.empty) := by kernel_rfl
theorem tab40 : und Tryd.prog 11 = .string := by kernel_rfl
theorem tab41 : szt Tryd.prog 11 = 1 := by kernel_rfl
theorem tab42 : byt Tryd.prog 11 = 16 := by kernel_rfl
theorem tab43 : zer Tryd.prog 11 = some (.string ByteArray.empty) := by kernel_rfl
theorem tab44 : und Tryd.prog 12 = .int .u64 := by kernel_rfl
theorem tab45 : szt Tryd.prog 12 = 1 := by kernel_rfl
theorem tab46 : byt Tryd.prog 12 = 8 := by kernel_rfl
theorem tab47 : zer Tryd.prog 12 = some (.int .u64 0) := by kernel_rfl
theorem tab48 : flds Tryd.prog 13 = some [(9, 0), (12, 1)] := by kernel_rfl
theorem tab49 : isAggD (und Tryd.prog 13) = true := by kernel_rfl
theorem tab50 : okD (und Tryd.prog 13) = true := by kernel_rfl
theorem tab51 : szt Tryd.prog 13 = 2 := by kernel_rfl
theorem tab52 : byt Tryd.prog 13 = 24 := by kernel_rfl
theorem tab53 : zer Tryd.prog 13 = some (.agg #[(.string ByteArray.empty), (.int .u64 0)]) := by kernel_rfl
theorem tab54 : flds Tryd.prog 14 = some [(9, 0), (12, 1)] := by kernel_rfl
theorem tab55 : isAggD (und Tryd.prog 14) = true := by kernel_rfl
theorem tab56 : okD (und Tryd.prog 14) = true := by kernel_rfl
theorem tab57 : szt Tryd.prog 14 = 2 := by kernel_rfl
theorem tab58 : byt Tryd.prog 14 = 24 := by kernel_rfl
theorem tab59 : zer Tryd.prog 14 = some (.agg #[(.string ByteArray.empty), (.int .u64 0)]) := by kernel_rfl
theorem tab60 : und Tryd.prog 15 = .pointer 92 := by kernel_rfl
theorem tab61 : szt Tryd.prog 15 = 1 := by kernel_rfl
theorem tab62 : byt Tryd.prog 15 = 8 := by kernel_rfl
theorem tab63 : zer Tryd.prog 15 = some (.pointer none) := by kernel_rfl
theorem tab64 : und Tryd.prog 16 = .pointer 95 := by kernel_rfl
theorem tab65 : szt Tryd.prog 16 = 1 := by kernel_rfl
theorem tab66 : byt Tryd.prog 16 = 8 := by kernel_rfl
theorem tab67 : zer Tryd.prog 16 = some (.pointer none) := by kernel_rfl
theorem tab68 : und Tryd.prog 17 = .pointer 102 := by kernel_rfl
theorem tab69 : szt Tryd.prog 17 = 1 := by kernel_rfl
theorem tab70 : byt Tryd.prog 17 = 8 := by kernel_rfl
theorem tab71 : zer Tryd.prog 17 = some (.pointer none) := by kernel_rfl
theorem tab72 : flds Tryd.prog 18 = some [(17, 0)] := by kernel_rfl
theorem tab73 : isAggD (und Tryd.prog 18) = true := by kernel_rfl
theorem tab74 : okD (und Tryd.prog 18) = true := by kernel_rfl
theorem tab75 : szt Tryd.prog 18 = 1 := by kernel_rfl
theorem tab76 : byt Tryd.prog 18 = 8 := by kernel_rfl
theorem tab77 : zer Tryd.prog 18 = some (.agg #[(.pointer none)]) := by kernel_rfl
theorem tab78 : flds Tryd.prog 19 = some [(17, 0)] := by kernel_rfl
theorem tab79 : isAggD (und Tryd.prog 19) = true := by kernel_rfl
theorem tab80 : okD (und Tryd.prog 19) = true := by kernel_rfl
theorem tab81 : szt Tryd.prog 19 = 1 := by kernel_rfl
theorem tab82 : byt Tryd.prog 19 = 8 := by kernel_rfl
theorem tab83 : zer Tryd.prog 19 = some (.agg #[(.pointer none)]) := by kernel_rfl
theorem tab84 : und Tryd.prog 21 = .int .i32 := by kernel_rfl
theorem tab85 : szt Tryd.prog 21 = 1 := by kernel_rfl
theorem tab86 : byt Tryd.prog 21 = 4 := by kernel_rfl
theorem tab87 : zer Tryd.prog 21 = some (.int .i32 0) := by kernel_rfl
theorem tab88 : und Tryd.prog 22 = .slice 9 := by kernel_rfl
theorem tab89 : szt Tryd.prog 22 = 1 := by kernel_rfl
theorem tab90 : byt Tryd.prog 22 = 24 := by kernel_rfl
theorem tab91 : zer Tryd.prog 22 = some (.slice none 0 0) := by kernel_rfl
theorem tab92 : und Tryd.prog 25 = .array 32 5 := by kernel_rfl
theorem tab93 : flds Tryd.prog 25 = none := by kernel_rfl
theorem tab94 : cmpT Tryd.prog 25 = none := by kernel_rfl
theorem tab95 : gl Tryd.prog 25 = true := by kernel_rfl
theorem tab96 : szt Tryd.prog 25 = 32 := by kernel_rfl
theorem tab97 : byt Tryd.prog 25 = 32 := by kernel_rfl
theorem tab98 : zer Tryd.prog 25 = some (.agg (iv .u8 (zl 32)).toArray) := by kernel_rfl
theorem tab99 : und Tryd.prog 26 = .array 32 5 := by kernel_rfl
theorem tab100 : flds Tryd.prog 26 = none := by kernel_rfl
theorem tab101 : cmpT Tryd.prog 26 = none := by kernel_rfl
theorem tab102 : gl Tryd.prog 26 = true := by kernel_rfl
theorem tab103 : szt Tryd.prog 26 = 32 := by kernel_rfl
theorem tab104 : byt Tryd.prog 26 = 32 := by kernel_rfl
theorem tab105 : zer Tryd.prog 26 = some (.agg (iv .u8 (zl 32)).toArray) := by kernel_rfl
theorem tab106 : und Tryd.prog 30 = .pointer 41 := by kernel_rfl
theorem tab107 : szt Tryd.prog 30 = 1 := by kernel_rfl
theorem tab108 : byt Tryd.prog 30 = 8 := by kernel_rfl
theorem tab109 : zer Tryd.prog 30 = some (.pointer none) := by kernel_rfl
theorem tab110 : und Tryd.prog 33 = .int .u64 := by kernel_rfl
theorem tab111 : szt Tryd.prog 33 = 1 := by kernel_rfl
theorem tab112 : byt Tryd.prog 33 = 8 := by kernel_rfl
theorem tab113 : zer Tryd.prog 33 = some (.int .u64 0) := by kernel_rfl
theorem tab114 : und Tryd.prog 35 = .int .u32 := by kernel_rfl
theorem tab115 : szt Tryd.prog 35 = 1 := by kernel_rfl
theorem tab116 : byt Tryd.prog 35 = 4 := by kernel_rfl
theorem tab117 : zer Tryd.prog 35 = some (.int .u32 0) := by kernel_rfl
theorem tab118 : und Tryd.prog 36 = .array 8 35 := by kernel_rfl
theorem tab119 : flds Tryd.prog 36 = none := by kernel_rfl
theorem tab120 : cmpT Tryd.prog 36 = none := by kernel_rfl
theorem tab121 : gl Tryd.prog 36 = true := by kernel_rfl
theorem tab122 : szt Tryd.prog 36 = 8 := by kernel_rfl
theorem tab123 : byt Tryd.prog 36 = 32 := by kernel_rfl
theorem tab124 : zer Tryd.prog 36 = some (.agg (iv .u32 (zl 8)).toArray) := by kernel_rfl
theorem tab125 : und Tryd.prog 37 = .array 64 5 := by kernel_rfl
theorem tab126 : flds Tryd.prog 37 = none := by kernel_rfl
theorem tab127 : cmpT Tryd.prog 37 = none := by kernel_rfl
theorem tab128 : gl Tryd.prog 37 = true := by kernel_rfl
theorem tab129 : szt Tryd.prog 37 = 64 := by kernel_rfl
theorem tab130 : byt Tryd.prog 37 = 64 := by kernel_rfl
theorem tab131 : zer Tryd.prog 37 = some (.agg (iv .u8 (zl 64)).toArray) := by kernel_rfl
theorem tab132 : flds Tryd.prog 38 = some [(36, 0), (37, 8), (33, 72)] := by kernel_rfl
theorem tab133 : isAggD (und Tryd.prog 38) = true := by kernel_rfl
theorem tab134 : okD (und Tryd.prog 38) = true := by kernel_rfl
theorem tab135 : szt Tryd.prog 38 = 73 := by kernel_rfl
theorem tab136 : byt Tryd.prog 38 = 104 := by kernel_rfl
theorem tab137 : zer Tryd.prog 38 = some (.agg #[(.int .u32 0), (.int .u32 0), (.int .u32 0), (.int .u32 0), (.int .u32 0), (.int .u32 0), (.int .u32 0), (.int .u32 0), (.int .u8 0), (.int .u8 0), (.int .u8 0), (.int .u8 0), (.int .u8 0), (.int .u8 0), (.int .u8 0), (.int .u8 0), (.int .u8 0), (.int .u8 0), (.int .u8 0), (.int .u8 0), (.int .u8 0), (.int .u8 0), (.int .u8 0), (.int .u8 0), (.int .u8 0), (.int .u8 0), (.int .u8 0), (.int .u8 0), (.int .u8 0), (.int .u8 0), (.int .u8 0), (.int .u8 0), (.int .u8 0), (.int .u8 0), (.int .u8 0), (.int .u8 0), (.int .u8 0), (.int .u8 0), (.int .u8 0), (.int .u8 0), (.int .u8 0), (.int .u8 0), (.int .u8 0), (.int .u8 0), (.int .u8 0), (.int .u8 0), (.int .u8 0), (.int .u8 0), (.int .u8 0), (.int .u8 0), (.int .u8 0), (.int .u8 0), (.int .u8 0), (.int .u8 0), (.int .u8 0), (.int .u8 0), (.int .u8 0), (.int .u8 0), (.int .u8 0), (.int .u8 0), (.int .u8 0), (.int .u8 0), (.int .u8 0), (.int .u8 0), (.int .u8 0), (.int .u8 0), (.int .u8 0), (.int .u8 0), (.int .u8 0), (.int .u8 0), (.int .u8 0), (.int .u8 0), (.int .u64 0)]) := by kernel_rfl
theorem tab138 : flds Tryd.prog 39 = some [(36, 0), (37, 8), (33, 72)] := by kernel_rfl
theorem tab139 : isAggD (und Tryd.prog 39) = true := by kernel_rfl
theorem tab140 : okD (und Tryd.prog 39) = true := by kernel_rfl
theorem tab141 : szt Tryd.prog 39 = 73 := by kernel_rfl
theorem tab142 : byt Tryd.prog 39 = 104 := by kernel_rfl
theorem tab143 : zer Tryd.prog 39 = some (.agg #[(.int .u32 0), (.int .u32 0), (.int .u32 0), (.int .u32 0), (.int .u32 0), (.int .u32 0), (.int .u32 0), (.int .u32 0), (.int .u8 0), (.int .u8 0), (.int .u8 0), (.int .u8 0), (.int .u8 0), (.int .u8 0), (.int .u8 0), (.int .u8 0), (.int .u8 0), (.int .u8 0), (.int .u8 0), (.int .u8 0), (.int .u8 0), (.int .u8 0), (.int .u8 0), (.int .u8 0), (.int .u8 0), (.int .u8 0), (.int .u8 0), (.int .u8 0), (.int .u8 0), (.int .u8 0), (.int .u8 0), (.int .u8 0), (.int .u8 0), (.int .u8 0), (.int .u8 0), (.int .u8 0), (.int .u8 0), (.int .u8 0), (.int .u8 0), (.int .u8 0), (.int .u8 0), (.int .u8 0), (.int .u8 0), (.int .u8 0), (.int .u8 0), (.int .u8 0), (.int .u8 0), (.int .u8 0), (.int .u8 0), (.int .u8 0), (.int .u8 0), (.int .u8 0), (.int .u8 0), (.int .u8 0), (.int .u8 0), (.int .u8 0), (.int .u8 0), (.int .u8 0), (.int .u8 0), (.int .u8 0), (.int .u8 0), (.int .u8 0), (.int .u8 0), (.int .u8 0), (.int .u8 0), (.int .u8 0), (.int .u8 0), (.int .u8 0), (.int .u8 0), (.int .u8 0), (.int .u8 0), (.int .u8 0), (.int .u64 0)]) := by kernel_rfl
theorem tab144 : flds Tryd.prog 40 = some [(39, 0), (37, 73)] := by kernel_rfl
theorem tab145 : isAggD (und Tryd.prog 40) = true := by kernel_rfl
theorem tab146 : okD (und Tryd.prog 40) = true := by kernel_rfl
theorem tab147 : szt Tryd.prog 40 = 137 := by kernel_rfl
theorem tab148 : byt Tryd.prog 40 = 168 := by kernel_rfl
theorem tab149 : zer Tryd.prog 40 = some (.agg #[(.int .u32 0), (.int .u32 0), (.int .u32 0), (.int .u32 0), (.int .u32 0), (.int .u32 0), (.int .u32 0), (.int .u32 0), (.int .u8 0), (.int .u8 0), (.int .u8 0), (.int .u8 0), (.int .u8 0), (.int .u8 0), (.int .u8 0), (.int .u8 0), (.int .u8 0), (.int .u8 0), (.int .u8 0), (.int .u8 0), (.int .u8 0), (.int .u8 0), (.int .u8 0), (.int .u8 0), (.int .u8 0), (.int .u8 0), (.int .u8 0), (.int .u8 0), (.int .u8 0), (.int .u8 0), (.int .u8 0), (.int .u8 0), (.int .u8 0), (.int .u8 0), (.int .u8 0), (.int .u8 0), (.int .u8 0), (.int .u8 0), (.int .u8 0), (.int .u8 0), (.int .u8 0), (.int .u8 0), (.int .u8 0), (.int .u8 0), (.int .u8 0), (.int .u8 0), (.int .u8 0), (.int .u8 0), (.int .u8 0), (.int .u8 0), (.int .u8 0), (.int .u8 0), (.int .u8 0), (.int .u8 0), (.int .u8 0), (.int .u8 0), (.int .u8 0), (.int .u8 0), (.int .u8 0), (.int .u8 0), (.int .u8 0), (.int .u8 0), (.int .u8 0), (.int .u8 0), (.int .u8 0), (.int .u8 0), (.int .u8 0), (.int .u8 0), (.int .u8 0), (.int .u8 0), (.int .u8 0), (.int .u8 0), (.int .u64 0), (.int .u8 0), (.int .u8 0), (.int .u8 0), (.int .u8 0), (.int .u8 0), (.int .u8 0), (.int .u8 0), (.int .u8 0), (.int .u8 0), (.int .u8 0), (.int .u8 0), (.int .u8 0), (.int .u8 0), (.int .u8 0), (.int .u8 0), (.int .u8 0), (.int .u8 0), (.int .u8 0), (.int .u8 0), (.int .u8 0), (.int .u8 0), (.int .u8 0), (.int .u8 0), (.int .u8 0), (.int .u8 0), (.int .u8 0), (.int .u8 0), (.int .u8 0), (.int .u8 0), (.int .u8 0), (.int .u8 0), (.int .u8 0), (.int .u8 0), (.int .u8 0), (.int .u8 0), (.int .u8 0), (.int .u8 0), (.int .u8 0), (.int .u8 0), (.int .u8 0), (.int .u8 0), (.int .u8 0), (.int .u8 0), (.int .u8 0), (.int .u8 0), (.int .u8 0), (.int .u8 0), (.int .u8 0), (.int .u8 0), (.int .u8 0), (.int .u8 0), (.int .u8 0), (.int .u8 0), (.int .u8 0), (.int .u8 0), (.int .u8 0), (.int .u8 0), (.int .u8 0), (.int .u8 0), (.int .u8 0), (.int .u8 0), (.int .u8 0), (.int .u8 0), (.int .u8 0)]) := by kernel_rfl
theorem tab150 : flds Tryd.prog 41 = some [(39, 0), (37, 73)] := by kernel_rfl
theorem tab151 : isAggD (und Tryd.prog 41) = true := by kernel_rfl
theorem tab152 : okD (und Tryd.prog 41) = true := by kernel_rfl
theorem tab153 : szt Tryd.prog 41 = 137 := by kernel_rfl
theorem tab154 : byt Tryd.prog 41 = 168 := by kernel_rfl
theorem tab155 : zer Tryd.prog 41 = some (.agg #[(.int .u32 0), (.int .u32 0), (.int .u32 0), (.int .u32 0), (.int .u32 0), (.int .u32 0), (.int .u32 0), (.int .u32 0), (.int .u8 0), (.int .u8 0), (.int .u8 0), (.int .u8 0), (.int .u8 0), (.int .u8 0), (.int .u8 0), (.int .u8 0), (.int .u8 0), (.int .u8 0), (.int .u8 0), (.int .u8 0), (.int .u8 0), (.int .u8 0), (.int .u8 0), (.int .u8 0), (.int .u8 0), (.int .u8 0), (.int .u8 0), (.int .u8 0), (.int .u8 0), (.int .u8 0), (.int .u8 0), (.int .u8 0), (.int .u8 0), (.int .u8 0), (.int .u8 0), (.int .u8 0), (.int .u8 0), (.int .u8 0), (.int .u8 0), (.int .u8 0), (.int .u8 0), (.int .u8 0), (.int .u8 0), (.int .u8 0), (.int .u8 0), (.int .u8 0), (.int .u8 0), (.int .u8 0), (.int .u8 0), (.int .u8 0), (.int .u8 0), (.int .u8 0), (.int .u8 0), (.int .u8 0), (.int .u8 0), (.int .u8 0), (.int .u8 0), (.int .u8 0), (.int .u8 0), (.int .u8 0), (.int .u8 0), (.int .u8 0), (.int .u8 0), (.int .u8 0), (.int .u8 0), (.int .u8 0), (.int .u8 0), (.int .u8 0), (.int .u8 0), (.int .u8 0), (.int .u8 0), (.int .u8 0), (.int .u64 0), (.int .u8 0), (.int .u8 0), (.int .u8 0), (.int .u8 0), (.int .u8 0), (.int .u8 0), (.int .u8 0), (.int .u8 0), (.int .u8 0), (.int .u8 0), (.int .u8 0), (.int .u8 0), (.int .u8 0), (.int .u8 0), (.int .u8 0), (.int .u8 0), (.int .u8 0), (.int .u8 0), (.int .u8 0), (.int .u8 0), (.int .u8 0), (.int .u8 0), (.int .u8 0), (.int .u8 0), (.int .u8 0), (.int .u8 0), (.int .u8 0), (.int .u8 0), (.int .u8 0), (.int .u8 0), (.int .u8 0), (.int .u8 0), (.int .u8 0), (.int .u8 0), (.int .u8 0), (.int .u8 0), (.int .u8 0), (.int .u8 0), (.int .u8 0), (.int .u8 0), (.int .u8 0), (.int .u8 0), (.int .u8 0), (.int .u8 0), (.int .u8 0), (.int .u8 0), (.int .u8 0), (.int .u8 0), (.int .u8 0), (.int .u8 0), (.int .u8 0), (.int .u8 0), (.int .u8 0), (.int .u8 0), (.int .u8 0), (.int .u8 0), (.int .u8 0), (.int .u8 0), (.int .u8 0), (.int .u8 0), (.int .u8 0), (.int .u8 0), (.int .u8 0), (.int .u8 0)]) := by kernel_rfl
theorem tab156 : und Tryd.prog 43 = .int .i64 := by kernel_rfl
theorem tab157 : szt Tryd.prog 43 = 1 := by kernel_rfl
theorem tab158 : byt Tryd.prog 43 = 8 := by kernel_rfl
theorem tab159 : zer Tryd.prog 43 = some (.int .i64 0) := by kernel_rfl
theorem tab160 : und Tryd.prog 49 = .slice 5 := by kernel_rfl
theorem tab161 : szt Tryd.prog 49 = 1 := by kernel_rfl
theorem tab162 : byt Tryd.prog 49 = 24 := by kernel_rfl
theorem tab163 : zer Tryd.prog 49 = some (.slice none 0 0) := by kernel_rfl
theorem tab164 : und Tryd.prog 50 = .int .u64 := by kernel_rfl
theorem tab165 : szt Tryd.prog 50 = 1 := by kernel_rfl
theorem tab166 : byt Tryd.prog 50 = 8 := by kernel_rfl
theorem tab167 : zer Tryd.prog 50 = some (.int .u64 0) := by kernel_rfl
theorem tab168 : und Tryd.prog 54 = .int .u16 := by kernel_rfl
theorem tab169 : szt Tryd.prog 54 = 1 := by kernel_rfl
theorem tab170 : byt Tryd.prog 54 = 2 := by kernel_rfl
theorem tab171 : zer Tryd.prog 54 = some (.int .u16 0) := by kernel_rfl
theorem tab172 : und Tryd.prog 60 = .pointer 39 := by kernel_rfl
theorem tab173 : szt Tryd.prog 60 = 1 := by kernel_rfl
theorem tab174 : byt Tryd.prog 60 = 8 := by kernel_rfl
theorem tab175 : zer Tryd.prog 60 = some (.pointer none) := by kernel_rfl
theorem tab176 : und Tryd.prog 61 = .pointer 63 := by kernel_rfl
theorem tab177 : szt Tryd.prog 61 = 1 := by kernel_rfl
theorem tab178 : byt Tryd.prog 61 = 8 := by kernel_rfl
theorem tab179 : zer Tryd.prog 61 = some (.pointer none) := by kernel_rfl
theorem tab180 : flds Tryd.prog 62 = some [(61, 0), (49, 1)] := by kernel_rfl
theorem tab181 : isAggD (und Tryd.prog 62) = true := by kernel_rfl
theorem tab182 : okD (und Tryd.prog 62) = true := by kernel_rfl
theorem tab183 : szt Tryd.prog 62 = 2 := by kernel_rfl
theorem tab184 : byt Tryd.prog 62 = 32 := by kernel_rfl
theorem tab185 : zer Tryd.prog 62 = some (.agg #[(.pointer none), (.slice none 0 0)]) := by kernel_rfl
theorem tab186 : flds Tryd.prog 63 = some [(61, 0), (49, 1)] := by kernel_rfl
theorem tab187 : isAggD (und Tryd.prog 63) = true := by kernel_rfl
theorem tab188 : okD (und Tryd.prog 63) = true := by kernel_rfl
theorem tab189 : szt Tryd.prog 63 = 2 := by kernel_rfl
theorem tab190 : byt Tryd.prog 63 = 32 := by kernel_rfl
theorem tab191 : zer Tryd.prog 63 = some (.agg #[(.pointer none), (.slice none 0 0)]) := by kernel_rfl
theorem tab192 : und Tryd.prog 73 = .array 64 35 := by kernel_rfl
theorem tab193 : flds Tryd.prog 73 = none := by kernel_rfl
theorem tab194 : cmpT Tryd.prog 73 = none := by kernel_rfl
theorem tab195 : gl Tryd.prog 73 = true := by kernel_rfl
theorem tab196 : szt Tryd.prog 73 = 64 := by kernel_rfl
theorem tab197 : byt Tryd.prog 73 = 256 := by kernel_rfl
theorem tab198 : zer Tryd.prog 73 = some (.agg (iv .u32 (zl 64)).toArray) := by kernel_rfl
theorem tab199 : und Tryd.prog 76 = .pointer 5 := by kernel_rfl
theorem tab200 : szt Tryd.prog 76 = 1 := by kernel_rfl
theorem tab201 : byt Tryd.prog 76 = 8 := by kernel_rfl
theorem tab202 : zer Tryd.prog 76 = some (.pointer none) := by kernel_rfl
theorem tab203 : und Tryd.prog 77 = .array 8 5 := by kernel_rfl
theorem tab204 : flds Tryd.prog 77 = none := by kernel_rfl
theorem tab205 : cmpT Tryd.prog 77 = none := by kernel_rfl
theorem tab206 : gl Tryd.prog 77 = true := by kernel_rfl
theorem tab207 : szt Tryd.prog 77 = 8 := by kernel_rfl
theorem tab208 : byt Tryd.prog 77 = 8 := by kernel_rfl
theorem tab209 : zer Tryd.prog 77 = some (.agg (iv .u8 (zl 8)).toArray) := by kernel_rfl
theorem tab210 : flds Tryd.prog 91 = some [(17, 0), (17, 1), (17, 2), (9, 3)] := by kernel_rfl
theorem tab211 : isAggD (und Tryd.prog 91) = true := by kernel_rfl
theorem tab212 : okD (und Tryd.prog 91) = true := by kernel_rfl
theorem tab213 : szt Tryd.prog 91 = 4 := by kernel_rfl
theorem tab214 : byt Tryd.prog 91 = 40 := by kernel_rfl
theorem tab215 : zer Tryd.prog 91 = some (.agg #[(.pointer none), (.pointer none), (.pointer none), (.string ByteArray.empty)]) := by kernel_rfl
theorem tab216 : flds Tryd.prog 92 = some [(17, 0), (17, 1), (17, 2), (9, 3)] := by kernel_rfl
theorem tab217 : isAggD (und Tryd.prog 92) = true := by kernel_rfl
theorem tab218 : okD (und Tryd.prog 92) = true := by kernel_rfl
theorem tab219 : szt Tryd.prog 92 = 4 := by kernel_rfl
theorem tab220 : byt Tryd.prog 92 = 40 := by kernel_rfl
theorem tab221 : zer Tryd.prog 92 = some (.agg #[(.pointer none), (.pointer none), (.pointer none), (.string ByteArray.empty)]) := by kernel_rfl
theorem tab222 : und Tryd.prog 93 = .array 0 16 := by kernel_rfl
theorem tab223 : flds Tryd.prog 93 = none := by kernel_rfl
theorem tab224 : cmpT Tryd.prog 93 = none := by kernel_rfl
theorem tab225 : szt Tryd.prog 93 = 0 := by kernel_rfl
theorem tab226 : byt Tryd.prog 93 = 0 := by kernel_rfl
theorem tab227 : zer Tryd.prog 93 = some (.agg #[]) := by kernel_rfl
theorem tab228 : flds Tryd.prog 94 = some [(93, 0)] := by kernel_rfl
theorem tab229 : isAggD (und Tryd.prog 94) = true := by kernel_rfl
theorem tab230 : okD (und Tryd.prog 94) = true := by kernel_rfl
theorem tab231 : szt Tryd.prog 94 = 0 := by kernel_rfl
theorem tab232 : byt Tryd.prog 94 = 0 := by kernel_rfl
theorem tab233 : zer Tryd.prog 94 = some (.agg #[]) := by kernel_rfl
theorem tab234 : flds Tryd.prog 95 = some [(93, 0)] := by kernel_rfl
theorem tab235 : isAggD (und Tryd.prog 95) = true := by kernel_rfl
theorem tab236 : okD (und Tryd.prog 95) = true := by kernel_rfl
theorem tab237 : szt Tryd.prog 95 = 0 := by kernel_rfl
theorem tab238 : byt Tryd.prog 95 = 0 := by kernel_rfl
theorem tab239 : zer Tryd.prog 95 = some (.agg #[]) := by kernel_rfl
theorem tab240 : und Tryd.prog 96 = .int .u8 := by kernel_rfl
theorem tab241 : szt Tryd.prog 96 = 1 := by kernel_rfl
theorem tab242 : byt Tryd.prog 96 = 1 := by kernel_rfl
theorem tab243 : zer Tryd.prog 96 = some (.int .u8 0) := by kernel_rfl
theorem tab244 : und Tryd.prog 97 = .int .u8 := by kernel_rfl
theorem tab245 : szt Tryd.prog 97 = 1 := by kernel_rfl
theorem tab246 : byt Tryd.prog 97 = 1 := by kernel_rfl
theorem tab247 : zer Tryd.prog 97 = some (.int .u8 0) := by kernel_rfl
theorem tab248 : und Tryd.prog 99 = .int .i32 := by kernel_rfl
theorem tab249 : szt Tryd.prog 99 = 1 := by kernel_rfl
theorem tab250 : byt Tryd.prog 99 = 4 := by kernel_rfl
theorem tab251 : zer Tryd.prog 99 = some (.int .i32 0) := by kernel_rfl
theorem tab252 : und Tryd.prog 100 = .int .i32 := by kernel_rfl
theorem tab253 : szt Tryd.prog 100 = 1 := by kernel_rfl
theorem tab254 : byt Tryd.prog 100 = 4 := by kernel_rfl
theorem tab255 : zer Tryd.prog 100 = some (.int .i32 0) := by kernel_rfl
theorem tab256 : flds Tryd.prog 101 = some [(12, 0), (12, 1), (35, 2), (96, 3), (5, 4), (5, 5), (97, 6), (98, 7), (76, 8), (99, 9), (100, 10)] := by kernel_rfl
theorem tab257 : isAggD (und Tryd.prog 101) = true := by kernel_rfl
theorem tab258 : okD (und Tryd.prog 101) = true := by kernel_rfl
theorem tab259 : szt Tryd.prog 101 = 11 := by kernel_rfl
theorem tab260 : byt Tryd.prog 101 = 48 := by kernel_rfl
theorem tab261 : zer Tryd.prog 101 = some (.agg #[(.int .u64 0), (.int .u64 0), (.int .u32 0), (.int .u8 0), (.int .u8 0), (.int .u8 0), (.int .u8 0), .nilFunc, (.pointer none), (.int .i32 0), (.int .i32 0)]) := by kernel_rfl
theorem tab262 : flds Tryd.prog 102 = some [(12, 0), (12, 1), (35, 2), (96, 3), (5, 4), (5, 5), (97, 6), (98, 7), (76, 8), (99, 9), (100, 10)] := by kernel_rfl
theorem tab263 : isAggD (und Tryd.prog 102) = true := by kernel_rfl
theorem tab264 : okD (und Tryd.prog 102) = true := by kernel_rfl
theorem tab265 : szt Tryd.prog 102 = 11 := by kernel_rfl
theorem tab266 : byt Tryd.prog 102 = 48 := by kernel_rfl
theorem tab267 : zer Tryd.prog 102 = some (.agg #[(.int .u64 0), (.int .u64 0), (.int .u32 0), (.int .u8 0), (.int .u8 0), (.int .u8 0), (.int .u8 0), .nilFunc, (.pointer none), (.int .i32 0), (.int .i32 0)]) := by kernel_rfl
theorem tab : (und Tryd.prog 2 = .int .i64) ∧ (szt Tryd.prog 2 = 1) ∧ (byt Tryd.prog 2 = 8) ∧ (zer Tryd.prog 2 = some (.int .i64 0)) ∧ (und Tryd.prog 3 = .int .i64) ∧ (szt Tryd.prog 3 = 1) ∧ (byt Tryd.prog 3 = 8) ∧ (zer Tryd.prog 3 = some (.int .i64 0)) ∧ (und Tryd.prog 4 = .bool) ∧ (szt Tryd.prog 4 = 1) ∧ (byt Tryd.prog 4 = 1) ∧ (zer Tryd.prog 4 = some (.bool false)) ∧ (und Tryd.prog 5 = .int .u8) ∧ (szt Tryd.prog 5 = 1) ∧ (byt Tryd.prog 5 = 1) ∧ (zer Tryd.prog 5 = some (.int .u8 0)) ∧ (und Tryd.prog 6 = .int .u8) ∧ (szt Tryd.prog 6 = 1) ∧ (byt Tryd.prog 6 = 1) ∧ (zer Tryd.prog 6 = some (.int .u8 0)) ∧ (flds Tryd.prog 7 = some [(2, 0), (3, 1), (4, 2), (6, 3)]) ∧ (isAggD (und Tryd.prog 7) = true) ∧ (okD (und Tryd.prog 7) = true) ∧ (szt Tryd.prog 7 = 4) ∧ (byt Tryd.prog 7 = 24) ∧ (zer Tryd.prog 7 = some (.agg #[(.int .i64 0), (.int .i64 0), (.bool false), (.int .u8 0)])) ∧ (flds Tryd.prog 8 = some [(2, 0), (3, 1), (4, 2), (6, 3)]) ∧ (isAggD (und Tryd.prog 8) = true) ∧ (okD (und Tryd.prog 8) = true) ∧ (szt Tryd.prog 8 = 4) ∧ (byt Tryd.prog 8 = 24) ∧ (zer Tryd.prog 8 = some (.agg #[(.int .i64 0), (.int .i64 0), (.bool false), (.int .u8 0)])) ∧ (und Tryd.prog 9 = .string) ∧ (szt Tryd.prog 9 = 1) ∧ (byt Tryd.prog 9 = 16) ∧ (zer Tryd.prog 9 = some (.string ByteArray.empty)) ∧ (und Tryd.prog 10 = .string) ∧ (szt Tryd.prog 10 = 1) ∧ (byt Tryd.prog 10 = 16) ∧ (zer Tryd.prog 10 = some (.string ByteArray.empty)) ∧ (und Tryd.prog 11 = .string) ∧ (szt Tryd.prog 11 = 1) ∧ (byt Tryd.prog 11 = 16) ∧ (zer Tryd.prog 11 = some (.string ByteArray.empty)) ∧ (und Tryd.prog 12 = .int .u64) ∧ (szt Tryd.prog 12 = 1) ∧ (byt Tryd.prog 12 = 8) ∧ (zer Tryd.prog 12 = some (.int .u64 0)) ∧ (flds Tryd.prog 13 = some [(9, 0), (12, 1)]) ∧ (isAggD (und Tryd.prog 13) = true) ∧ (okD (und Tryd.prog 13) = true) ∧ (szt Tryd.prog 13 = 2) ∧ (byt Tryd.prog 13 = 24) ∧ (zer Tryd.prog 13 = some (.agg #[(.string ByteArray.empty), (.int .u64 0)])) ∧ (flds Tryd.prog 14 = some [(9, 0), (12, 1)]) ∧ (isAggD (und Tryd.prog 14) = true) ∧ (okD (und Tryd.prog 14) = true) ∧ (szt Tryd.prog 14 = 2) ∧ (byt Tryd.prog 14 = 24) ∧ (zer Tryd.prog 14 = some (.agg #[(.string ByteArray.empty), (.int .u64 0)])) ∧ (und Tryd.prog 15 = .pointer 92) ∧ (szt Tryd.prog 15 = 1) ∧ (byt Tryd.prog 15 = 8) ∧ (zer Tryd.prog 15 = some (.pointer none)) ∧ (und Tryd.prog 16 = .pointer 95) ∧ (szt Tryd.prog 16 = 1) ∧ (byt Tryd.prog 16 = 8) ∧ (zer Tryd.prog 16 = some (.pointer none)) ∧ (und Tryd.prog 17 = .pointer 102) ∧ (szt Tryd.prog 17 = 1) ∧ (byt Tryd.prog 17 = 8) ∧ (zer Tryd.prog 17 = some (.pointer none)) ∧ (flds Tryd.prog 18 = some [(17, 0)]) ∧ (isAggD (und Tryd.prog 18) = true) ∧ (okD (und Tryd.prog 18) = true) ∧ (szt Tryd.prog 18 = 1) ∧ (byt Tryd.prog 18 = 8) ∧ (zer Tryd.prog 18 = some (.agg #[(.pointer none)])) ∧ (flds Tryd.prog 19 = some [(17, 0)]) ∧ (isAggD (und Tryd.prog 19) = true) ∧ (okD (und Tryd.prog 19) = true) ∧ (szt Tryd.prog 19 = 1) ∧ (byt Tryd.prog 19 = 8) ∧ (zer Tryd.prog 19 = some (.agg #[(.pointer none)])) ∧ (und Tryd.prog 21 = .int .i32) ∧ (szt Tryd.prog 21 = 1) ∧ (byt Tryd.prog 21 = 4) ∧ (zer Tryd.prog 21 = some (.int .i32 0)) ∧ (und Tryd.prog 22 = .slice 9) ∧ (szt Tryd.prog 22 = 1) ∧ (byt Tryd.prog 22 = 24) ∧ (zer Tryd.prog 22 = some (.slice none 0 0)) ∧ (und Tryd.prog 25 = .array 32 5) ∧ (flds Tryd.prog 25 = none) ∧ (cmpT Tryd.prog 25 = none) ∧ (gl Tryd.prog 25 = true) ∧ (szt Tryd.prog 25 = 32) ∧ (byt Tryd.prog 25 = 32) ∧ (zer Tryd.prog 25 = some (.agg (iv .u8 (zl 32)).toArray)) ∧ (und Tryd.prog 26 = .array 32 5) ∧ (flds Tryd.prog 26 = none) ∧ (cmpT Tryd.prog 26 = none) ∧ (gl Tryd.prog 26 = true) ∧ (szt Tryd.prog 26 = 32) ∧ (byt Tryd.prog 26 = 32) ∧ (zer Tryd.prog 26 = some (.agg (iv .u8 (zl 32)).toArray)) ∧ (und Tryd.prog 30 = .pointer 41) ∧ (szt Tryd.prog 30 = 1) ∧ (byt Tryd.prog 30 = 8) ∧ (zer Tryd.prog 30 = some (.pointer none)) ∧ (und Tryd.prog 33 = .int .u64) ∧ (szt Tryd.prog 33 = 1) ∧ (byt Tryd.prog 33 = 8) ∧ (zer Tryd.prog 33 = some (.int .u64 0)) ∧ (und Tryd.prog 35 = .int .u32) ∧ (szt Tryd.prog 35 = 1) ∧ (byt Tryd.prog 35 = 4) ∧ (zer Tryd.prog 35 = some (.int .u32 0)) ∧ (und Tryd.prog 36 = .array 8 35) ∧ (flds Tryd.prog 36 = none) ∧ (cmpT Tryd.prog 36 = none) ∧ (gl Tryd.prog 36 = true) ∧ (szt Tryd.prog 36 = 8) ∧ (byt Tryd.prog 36 = 32) ∧ (zer Tryd.prog 36 = some (.agg (iv .u32 (zl 8)).toArray)) ∧ (und Tryd.prog 37 = .array 64 5) ∧ (flds Tryd.prog 37 = none) ∧ (cmpT Tryd.prog 37 = none) ∧ (gl Tryd.prog 37 = true) ∧ (szt Tryd.prog 37 = 64) ∧ (byt Tryd.prog 37 = 64) ∧ (zer Tryd.prog 37 = some (.agg (iv .u8 (zl 64)).toArray)) ∧ (flds Tryd.prog 38 = some [(36, 0), (37, 8), (33, 72)]) ∧ (isAggD (und Tryd.prog 38) = true) ∧ (okD (und Tryd.prog 38) = true) ∧ (szt Tryd.prog 38 = 73) ∧ (byt Tryd.prog 38 = 104) ∧ (zer Tryd.prog 38 = some (.agg #[(.int .u32 0), (.int .u32 0), (.int .u32 0), (.int .u32 0), (.int .u32 0), (.int .u32 0), (.int .u32 0), (.int .u32 0), (.int .u8 0), (.int .u8 0), (.int .u8 0), (.int .u8 0), (.int .u8 0), (.int .u8 0), (.int .u8 0), (.int .u8 0), (.int .u8 0), (.int .u8 0), (.int .u8 0), (.int .u8 0), (.int .u8 0), (.int .u8 0), (.int .u8 0), (.int .u8 0), (.int .u8 0), (.int .u8 0), (.int .u8 0), (.int .u8 0), (.int .u8 0), (.int .u8 0), (.int .u8 0), (.int .u8 0), (.int .u8 0), (.int .u8 0), (.int .u8 0), (.int .u8 0), (.int .u8 0), (.int .u8 0), (.int .u8 0), (.int .u8 0), (.int .u8 0), (.int .u8 0), (.int .u8 0), (.int .u8 0), (.int .u8 0), (.int .u8 0), (.int .u8 0), (.int .u8 0), (.int .u8 0), (.int .u8 0), (.int .u8 0), (.int .u8 0), (.int .u8 0), (.int .u8 0), (.int .u8 0), (.int .u8 0), (.int .u8 0), (.int .u8 0), (.int .u8 0), (.int .u8 0), (.int .u8 0), (.int .u8 0), (.int .u8 0), (.int .u8 0), (.int .u8 0), (.int .u8 0), (.int .u8 0), (.int .u8 0), (.int .u8 0), (.int .u8 0), (.int .u8 0), (.int .u8 0), (.int .u64 0)])) ∧ (flds Tryd.prog 39 = some [(36, 0), (37, 8), (33, 72)]) ∧ (isAggD (und Tryd.prog 39) = true) ∧ (okD (und Tryd.prog 39) = true) ∧ (szt Tryd.prog 39 = 73) ∧ (byt Tryd.prog 39 = 104) ∧ (zer Tryd.prog 39 = some (.agg #[(.int .u32 0), (.int .u32 0), (.int .u32 0), (.int .u32 0), (.int .u32 0), (.int .u32 0), (.int .u32 0), (.int .u32 0), (.int .u8 0), (.int .u8 0), (.int .u8 0), (.int .u8 0), (.int .u8 0), (.int .u8 0), (.int .u8 0), (.int .u8 0), (.int .u8 0), (.int .u8 0), (.int .u8 0), (.int .u8 0), (.int .u8 0), (.int .u8 0), (.int .u8 0), (.int .u8 0), (.int .u8 0), (.int .u8 0), (.int .u8 0), (.int .u8 0), (.int .u8 0), (.int .u8 0), (.int .u8 0), (.int .u8 0), (.int .u8 0), (.int .u8 0), (.int .u8 0), (.int .u8 0), (.int .u8 0), (.int .u8 0), (.int .u8 0), (.int .u8 0), (.int .u8 0), (.int .u8 0), (.int .u8 0), (.int .u8 0), (.int .u8 0), (.int .u8 0), (.int .u8 0), (.int .u8 0), (.int .u8 0), (.int .u8 0), (.int .u8 0), (.int .u8 0), (.int .u8 0), (.int .u8 0), (.int .u8 0), (.int .u8 0), (.int .u8 0), (.int .u8 0), (.int .u8 0), (.int .u8 0), (.int .u8 0), (.int .u8 0), (.int .u8 0), (.int .u8 0), (.int .u8 0), (.int .u8 0), (.int .u8 0), (.int .u8 0), (.int .u8 0), (.int .u8 0), (.int .u8 0), (.int .u8 0), (.int .u64 0)])) ∧ (flds Tryd.prog 40 = some [(39, 0), (37, 73)]) ∧ (isAggD (und Tryd.prog 40) = true) ∧ (okD (und Tryd.prog 40) = true) ∧ (szt Tryd.prog 40 = 137) ∧ (byt Tryd.prog 40 = 168) ∧ (zer Tryd.prog 40 = some (.agg #[(.int .u32 0), (.int .u32 0), (.int .u32 0), (.int .u32 0), (.int .u32 0), (.int .u32 0), (.int .u32 0), (.int .u32 0), (.int .u8 0), (.int .u8 0), (.int .u8 0), (.int .u8 0), (.int .u8 0), (.int .u8 0), (.int .u8 0), (.int .u8 0), (.int .u8 0), (.int .u8 0), (.int .u8 0), (.int .u8 0), (.int .u8 0), (.int .u8 0), (.int .u8 0), (.int .u8 0), (.int .u8 0), (.int .u8 0), (.int .u8 0), (.int .u8 0), (.int .u8 0), (.int .u8 0), (.int .u8 0), (.int .u8 0), (.int .u8 0), (.int .u8 0), (.int .u8 0), (.int .u8 0), (.int .u8 0), (.int .u8 0), (.int .u8 0), (.int .u8 0), (.int .u8 0), (.int .u8 0), (.int .u8 0), (.int .u8 0), (.int .u8 0), (.int .u8 0), (.int .u8 0), (.int .u8 0), (.int .u8 0), (.int .u8 0), (.int .u8 0), (.int .u8 0), (.int .u8 0), (.int .u8 0), (.int .u8 0), (.int .u8 0), (.int .u8 0), (.int .u8 0), (.int .u8 0), (.int .u8 0), (.int .u8 0), (.int .u8 0), (.int .u8 0), (.int .u8 0), (.int .u8 0), (.int .u8 0), (.int .u8 0), (.int .u8 0), (.int .u8 0), (.int .u8 0), (.int .u8 0), (.int .u8 0), (.int .u64 0), (.int .u8 0), (.int .u8 0), (.int .u8 0), (.int .u8 0), (.int .u8 0), (.int .u8 0), (.int .u8 0), (.int .u8 0), (.int .u8 0), (.int .u8 0), (.int .u8 0), (.int .u8 0), (.int .u8 0), (.int .u8 0), (.int .u8 0), (.int .u8 0), (.int .u8 0), (.int .u8 0), (.int .u8 0), (.int .u8 0), (.int .u8 0), (.int .u8 0), (.int .u8 0), (.int .u8 0), (.int .u8 0), (.int .u8 0), (.int .u8 0), (.int .u8 0), (.int .u8 0), (.int .u8 0), (.int .u8 0), (.int .u8 0), (.int .u8 0), (.int .u8 0), (.int .u8 0), (.int .u8 0), (.int .u8 0), (.int .u8 0), (.int .u8 0), (.int .u8 0), (.int .u8 0), (.int .u8 0), (.int .u8 0), (.int .u8 0), (.int .u8 0), (.int .u8 0), (.int .u8 0), (.int .u8 0), (.int .u8 0), (.int .u8 0), (.int .u8 0), (.int .u8 0), (.int .u8 0), (.int .u8 0), (.int .u8 0), (.int .u8 0), (.int .u8 0), (.int .u8 0), (.int .u8 0), (.int .u8 0), (.int .u8 0), (.int .u8 0), (.int .u8 0), (.int .u8 0)])) ∧ (flds Tryd.prog 41 = some [(39, 0), (37, 73)]) ∧ (isAggD (und Tryd.prog 41) = true) ∧ (okD (und Tryd.prog 41) = true) ∧ (szt Tryd.prog 41 = 137) ∧ (byt Tryd.prog 41 = 168) ∧ (zer Tryd.prog 41 = some (.agg #[(.int .u32 0), (.int .u32 0), (.int .u32 0), (.int .u32 0), (.int .u32 0), (.int .u32 0), (.int .u32 0), (.int .u32 0), (.int .u8 0), (.int .u8 0), (.int .u8 0), (.int .u8 0), (.int .u8 0), (.int .u8 0), (.int .u8 0), (.int .u8 0), (.int .u8 0), (.int .u8 0), (.int .u8 0), (.int .u8 0), (.int .u8 0), (.int .u8 0), (.int .u8 0), (.int .u8 0), (.int .u8 0), (.int .u8 0), (.int .u8 0), (.int .u8 0), (.int .u8 0), (.int .u8 0), (.int .u8 0), (.int .u8 0), (.int .u8 0), (.int .u8 0), (.int .u8 0), (.int .u8 0), (.int .u8 0), (.int .u8 0), (.int .u8 0), (.int .u8 0), (.int .u8 0), (.int .u8 0), (.int .u8 0), (.int .u8 0), (.int .u8 0), (.int .u8 0), (.int .u8 0), (.int .u8 0), (.int .u8 0), (.int .u8 0), (.int .u8 0), (.int .u8 0), (.int .u8 0), (.int .u8 0), (.int .u8 0), (.int .u8 0), (.int .u8 0), (.int .u8 0), (.int .u8 0), (.int .u8 0), (.int .u8 0), (.int .u8 0), (.int .u8 0), (.int .u8 0), (.int .u8 0), (.int .u8 0), (.int .u8 0), (.int .u8 0), (.int .u8 0), (.int .u8 0), (.int .u8 0), (.int .u8 0), (.int .u64 0), (.int .u8 0), (.int .u8 0), (.int .u8 0), (.int .u8 0), (.int .u8 0), (.int .u8 0), (.int .u8 0), (.int .u8 0), (.int .u8 0), (.int .u8 0), (.int .u8 0), (.int .u8 0), (.int .u8 0), (.int .u8 0), (.int .u8 0), (.int .u8 0), (.int .u8 0), (.int .u8 0), (.int .u8 0), (.int .u8 0), (.int .u8 0), (.int .u8 0), (.int .u8 0), (.int .u8 0), (.int .u8 0), (.int .u8 0), (.int .u8 0), (.int .u8 0), (.int .u8 0), (.int .u8 0), (.int .u8 0), (.int .u8 0), (.int .u8 0), (.int .u8 0), (.int .u8 0), (.int .u8 0), (.int .u8 0), (.int .u8 0), (.int .u8 0), (.int .u8 0), (.int .u8 0), (.int .u8 0), (.int .u8 0), (.int .u8 0), (.int .u8 0), (.int .u8 0), (.int .u8 0), (.int .u8 0), (.int .u8 0), (.int .u8 0), (.int .u8 0), (.int .u8 0), (.int .u8 0), (.int .u8 0), (.int .u8 0), (.int .u8 0), (.int .u8 0), (.int .u8 0), (.int .u8 0), (.int .u8 0), (.int .u8 0), (.int .u8 0), (.int .u8 0), (.int .u8 0)])) ∧ (und Tryd.prog 43 = .int .i64) ∧ (szt Tryd.prog 43 = 1) ∧ (byt Tryd.prog 43 = 8) ∧ (zer Tryd.prog 43 = some (.int .i64 0)) ∧ (und Tryd.prog 49 = .slice 5) ∧ (szt Tryd.prog 49 = 1) ∧ (byt Tryd.prog 49 = 24) ∧ (zer Tryd.prog 49 = some (.slice none 0 0)) ∧ (und Tryd.prog 50 = .int .u64) ∧ (szt Tryd.prog 50 = 1) ∧ (byt Tryd.prog 50 = 8) ∧ (zer Tryd.prog 50 = some (.int .u64 0)) ∧ (und Tryd.prog 54 = .int .u16) ∧ (szt Tryd.prog 54 = 1) ∧ (byt Tryd.prog 54 = 2) ∧ (zer Tryd.prog 54 = some (.int .u16 0)) ∧ (und Tryd.prog 60 = .pointer 39) ∧ (szt Tryd.prog 60 = 1) ∧ (byt Tryd.prog 60 = 8) ∧ (zer Tryd.prog 60 = some (.pointer none)) ∧ (und Tryd.prog 61 = .pointer 63) ∧ (szt Tryd.prog 61 = 1) ∧ (byt Tryd.prog 61 = 8) ∧ (zer Tryd.prog 61 = some (.pointer none)) ∧ (flds Tryd.prog 62 = some [(61, 0), (49, 1)]) ∧ (isAggD (und Tryd.prog 62) = true) ∧ (okD (und Tryd.prog 62) = true) ∧ (szt Tryd.prog 62 = 2) ∧ (byt Tryd.prog 62 = 32) ∧ (zer Tryd.prog 62 = some (.agg #[(.pointer none), (.slice none 0 0)])) ∧ (flds Tryd.prog 63 = some [(61, 0), (49, 1)]) ∧ (isAggD (und Tryd.prog 63) = true) ∧ (okD (und Tryd.prog 63) = true) ∧ (szt Tryd.prog 63 = 2) ∧ (byt Tryd.prog 63 = 32) ∧ (zer Tryd.prog 63 = some (.agg #[(.pointer none), (.slice none 0 0)])) ∧ (und Tryd.prog 73 = .array 64 35) ∧ (flds Tryd.prog 73 = none) ∧ (cmpT Tryd.prog 73 = none) ∧ (gl Tryd.prog 73 = true) ∧ (szt Tryd.prog 73 = 64) ∧ (byt Tryd.prog 73 = 256) ∧ (zer Tryd.prog 73 = some (.agg (iv .u32 (zl 64)).toArray)) ∧ (und Tryd.prog 76 = .pointer 5) ∧ (szt Tryd.prog 76 = 1) ∧ (byt Tryd.prog 76 = 8) ∧ (zer Tryd.prog 76 = some (.pointer none)) ∧ (und Tryd.prog 77 = .array 8 5) ∧ (flds Tryd.prog 77 = none) ∧ (cmpT Tryd.prog 77 = none) ∧ (gl Tryd.prog 77 = true) ∧ (szt Tryd.prog 77 = 8) ∧ (byt Tryd.prog 77 = 8) ∧ (zer Tryd.prog 77 = some (.agg (iv .u8 (zl 8)).toArray)) ∧ (flds Tryd.prog 91 = some [(17, 0), (17, 1), (17, 2), (9, 3)]) ∧ (isAggD (und Tryd.prog 91) = true) ∧ (okD (und Tryd.prog 91) = true) ∧ (szt Tryd.prog 91 = 4) ∧ (byt Tryd.prog 91 = 40) ∧ (zer Tryd.prog 91 = some (.agg #[(.pointer none), (.pointer none), (.pointer none), (.string ByteArray.empty)])) ∧ (flds Tryd.prog 92 = some [(17, 0), (17, 1), (17, 2), (9, 3)]) ∧ (isAggD (und Tryd.prog 92) = true) ∧ (okD (und Tryd.prog 92) = true) ∧ (szt Tryd.prog 92 = 4) ∧ (byt Tryd.prog 92 = 40) ∧ (zer Tryd.prog 92 = some (.agg #[(.pointer none), (.pointer none), (.pointer none), (.string ByteArray.empty)])) ∧ (und Tryd.prog 93 = .array 0 16) ∧ (flds Tryd.prog 93 = none) ∧ (cmpT Tryd.prog 93 = none) ∧ (szt Tryd.prog 93 = 0) ∧ (byt Tryd.prog 93 = 0) ∧ (zer Tryd.prog 93 = some (.agg #[])) ∧ (flds Tryd.prog 94 = some [(93, 0)]) ∧ (isAggD (und Tryd.prog 94) = true) ∧ (okD (und Tryd.prog 94) = true) ∧ (szt Tryd.prog 94 = 0) ∧ (byt Tryd.prog 94 = 0) ∧ (zer Tryd.prog 94 = some (.agg #[])) ∧ (flds Tryd.prog 95 = some [(93, 0)]) ∧ (isAggD (und Tryd.prog 95) = true) ∧ (okD (und Tryd.prog 95) = true) ∧ (szt Tryd.prog 95 = 0) ∧ (byt Tryd.prog 95 = 0) ∧ (zer Tryd.prog 95 = some (.agg #[])) ∧ (und Tryd.prog 96 = .int .u8) ∧ (szt Tryd.prog 96 = 1) ∧ (byt Tryd.prog 96 = 1) ∧ (zer Tryd.prog 96 = some (.int .u8 0)) ∧ (und Tryd.prog 97 = .int .u8) ∧ (szt Tryd.prog 97 = 1) ∧ (byt Tryd.prog 97 = 1) ∧ (zer Tryd.prog 97 = some (.int .u8 0)) ∧ (und Tryd.prog 99 = .int .i32) ∧ (szt Tryd.prog 99 = 1) ∧ (byt Tryd.prog 99 = 4) ∧ (zer Tryd.prog 99 = some (.int .i32 0)) ∧ (und Tryd.prog 100 = .int .i32) ∧ (szt Tryd.prog 100 = 1) ∧ (byt Tryd.prog 100 = 4) ∧ (zer Tryd.prog 100 = some (.int .i32 0)) ∧ (flds Tryd.prog 101 = some [(12, 0), (12, 1), (35, 2), (96, 3), (5, 4), (5, 5), (97, 6), (98, 7), (76, 8), (99, 9), (100, 10)]) ∧ (isAggD (und Tryd.prog 101) = true) ∧ (okD (und Tryd.prog 101) = true) ∧ (szt Tryd.prog 101 = 11) ∧ (byt Tryd.prog 101 = 48) ∧ (zer Tryd.prog 101 = some (.agg #[(.int .u64 0), (.int .u64 0), (.int .u32 0), (.int .u8 0), (.int .u8 0), (.int .u8 0), (.int .u8 0), .nilFunc, (.pointer none), (.int .i32 0), (.int .i32 0)])) ∧ (flds Tryd.prog 102 = some [(12, 0), (12, 1), (35, 2), (96, 3), (5, 4), (5, 5), (97, 6), (98, 7), (76, 8), (99, 9), (100, 10)]) ∧ (isAggD (und Tryd.prog 102) = true) ∧ (okD (und Tryd.prog 102) = true) ∧ (szt Tryd.prog 102 = 11) ∧ (byt Tryd.prog 102 = 48) ∧ (zer Tryd.prog 102 = some (.agg #[(.int .u64 0), (.int .u64 0), (.int .u32 0), (.int .u8 0), (.int .u8 0), (.int .u8 0), (.int .u8 0), .nilFunc, (.pointer none), (.int .i32 0), (.int .i32 0)])) :=
  ⟨tab0, tab1, tab2, tab3, tab4, tab5, tab6, tab7, tab8, tab9, tab10, tab11, tab12, tab13, tab14, tab15, tab16, tab17, tab18, tab19, tab20, tab21, tab22, tab23, tab24, tab25, tab26, tab27, tab28, tab29, tab30, tab31, tab32, tab33, tab34, tab35, tab36, tab37, tab38, tab39, tab40, tab41, tab42, tab43, tab44, tab45, tab46, tab47, tab48, tab49, tab50, tab51, tab52, tab53, tab54, tab55, tab56, tab57, tab58, tab59, tab60, tab61, tab62, tab63, tab64, tab65, tab66, tab67, tab68, tab69, tab70, tab71, tab72, tab73, tab74, tab75, tab76, tab77, tab78, tab79, tab80, tab81, tab82, tab83, tab84, tab85, tab86, tab87, tab88, tab89, tab90, tab91, tab92, tab93, tab94, tab95, tab96, tab97, tab98, tab99, tab100, tab101, tab102, tab103, tab104, tab105, tab106, tab107, tab108, tab109, tab110, tab111, tab112, tab113, tab114, tab115, tab116, tab117, tab118, tab119, tab120, tab121, tab122, tab123, tab124, tab125, tab126, tab127, tab128, tab129, tab130, tab131, tab132, tab133, tab134, tab135, tab136, tab137, tab138, tab139, tab140, tab141, tab142, tab143, tab144, tab145, tab146, tab147, tab148, tab149, tab150, tab151, tab152, tab153, tab154, tab155, tab156, tab157, tab158, tab159, tab160, tab161, tab162, tab163, tab164, tab165, tab166, tab167, tab168, tab169, tab170, tab171, tab172, tab173, tab174, tab175, tab176, tab177, tab178, tab179, tab180, tab181, tab182, tab183, tab184, tab185, tab186, tab187, tab188, tab189, tab190, tab191, tab192, tab193, tab194, tab195, tab196, tab197, tab198, tab199, tab200, tab201, tab202, tab203, tab204, tab205, tab206, tab207, tab208, tab209, tab210, tab211, tab212, tab213, tab214, tab215, tab216, tab217, tab218, tab219, tab220, tab221, tab222, tab223, tab224, tab225, tab226, tab227, tab228, tab229, tab230, tab231, tab232, tab233, tab234, tab235, tab236, tab237, tab238, tab239, tab240, tab241, tab242, tab243, tab244, tab245, tab246, tab247, tab248, tab249, tab250, tab251, tab252, tab253, tab254, tab255, tab256, tab257, tab258, tab259, tab260, tab261, tab262, tab263, tab264, tab265, tab266, tab267⟩
end Go.Proofs.YtjfhdckcjkgjnaaDoor
