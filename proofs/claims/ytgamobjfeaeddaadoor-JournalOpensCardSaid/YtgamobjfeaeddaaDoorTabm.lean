/-
  The types of this program: shapes, sizes, zero values. Each by the kernel.
-/
import Derived.Test.YtgamobjfeaeddaaDoorMoA
import Derived.Test.YtgamobjfeaeddaaDoorChecked
namespace Go.Proofs.YtgamobjfeaeddaaDoor
open Go Go.RowKit
set_option maxRecDepth 100000
theorem tab0 : und Tryd.prog 2 = .int .i64 := by kernel_rfl
theorem tab1 : szt Tryd.prog 2 = 1 := by kernel_rfl
theorem tab2 : byt Tryd.prog 2 = 8 := by kernel_rfl
theorem tab3 : zer Tryd.prog 2 = some (.int .i64 0) := by kernel_rfl
theorem tab4 : und Tryd.prog 3 = .int .i64 := by kernel_rfl
theorem tab5 : szt Tryd.prog 3 = 1 := by kernel_rfl
theorem tab6 : byt Tryd.prog 3 = 8 := by kernel_rfl
theorem tab7 : zer Tryd.prog 3 = some (.int .i64 0) := by kernel_rfl
theorem tab8 : und Tryd.prog 4 = .bool := by kernel_rfl
theorem tab9 : szt Tryd.prog 4 = 1 := by kernel_rfl
theorem tab10 : byt Tryd.prog 4 = 1 := by kernel_rfl
theorem tab11 : zer Tryd.prog 4 = some (.bool false) := by kernel_rfl
theorem tab12 : und Tryd.prog 5 = .int .u8 := by kernel_rfl
theorem tab13 : szt Tryd.prog 5 = 1 := by kernel_rfl
theorem tab14 : byt Tryd.prog 5 = 1 := by kernel_rfl
theorem tab15 : zer Tryd.prog 5 = some (.int .u8 0) := by kernel_rfl
theorem tab16 : und Tryd.prog 6 = .int .u8 := by kernel_rfl
theorem tab17 : szt Tryd.prog 6 = 1 := by kernel_rfl
theorem tab18 : byt Tryd.prog 6 = 1 := by kernel_rfl
theorem tab19 : zer Tryd.prog 6 = some (.int .u8 0) := by kernel_rfl
theorem tab20 : flds Tryd.prog 7 = some [(2, 0), (3, 1), (4, 2), (6, 3)] := by kernel_rfl
theorem tab21 : isAggD (und Tryd.prog 7) = true := by kernel_rfl
theorem tab22 : okD (und Tryd.prog 7) = true := by kernel_rfl
theorem tab23 : szt Tryd.prog 7 = 4 := by kernel_rfl
theorem tab24 : byt Tryd.prog 7 = 24 := by kernel_rfl
theorem tab25 : zer Tryd.prog 7 = some (.agg #[(.int .i64 0), (.int .i64 0), (.bool false), (.int .u8 0)]) := by kernel_rfl
theorem tab26 : flds Tryd.prog 8 = some [(2, 0), (3, 1), (4, 2), (6, 3)] := by kernel_rfl
theorem tab27 : isAggD (und Tryd.prog 8) = true := by kernel_rfl
theorem tab28 : okD (und Tryd.prog 8) = true := by kernel_rfl
theorem tab29 : szt Tryd.prog 8 = 4 := by kernel_rfl
theorem tab30 : byt Tryd.prog 8 = 24 := by kernel_rfl
theorem tab31 : zer Tryd.prog 8 = some (.agg #[(.int .i64 0), (.int .i64 0), (.bool false), (.int .u8 0)]) := by kernel_rfl
theorem tab32 : und Tryd.prog 9 = .string := by kernel_rfl
theorem tab33 : szt Tryd.prog 9 = 1 := by kernel_rfl
theorem tab34 : byt Tryd.prog 9 = 16 := by kernel_rfl
theorem tab35 : zer Tryd.prog 9 = some (.string ByteArray.empty) := by kernel_rfl
theorem tab36 : und Tryd.prog 10 = .string := by kernel_rfl
theorem tab37 : szt Tryd.prog 10 = 1 := by kernel_rfl
theorem tab38 : byt Tryd.prog 10 = 16 := by kernel_rfl
theorem tab39 : zer Tryd.prog 10 = some (.string ByteArray.empty) := by kernel_rfl
theorem tab40 : und Tryd.prog 11 = .string := by kernel_rfl
theorem tab41 : szt Tryd.prog 11 = 1 := by kernel_rfl
theorem tab42 : byt Tryd.prog 11 = 16 := by kernel_rfl
theorem tab43 : zer Tryd.prog 11 = some (.string ByteArray.empty) := by kernel_rfl
theorem tab44 : und Tryd.prog 12 = .int .u64 := by kernel_rfl
theorem tab45 : szt Tryd.prog 12 = 1 := by kernel_rfl
theorem tab46 : byt Tryd.prog 12 = 8 := by kernel_rfl
theorem tab47 : zer Tryd.prog 12 = some (.int .u64 0) := by kernel_rfl
theorem tab48 : flds Tryd.prog 13 = some [(9, 0), (12, 1)] := by kernel_rfl
theorem tab49 : isAggD (und Tryd.prog 13) = true := by kernel_rfl
theorem tab50 : okD (und Tryd.prog 13) = true := by kernel_rfl
theorem tab51 : szt Tryd.prog 13 = 2 := by kernel_rfl
theorem tab52 : byt Tryd.prog 13 = 24 := by kernel_rfl
theorem tab53 : zer Tryd.prog 13 = some (.agg #[(.string ByteArray.empty), (.int .u64 0)]) := by kernel_rfl
theorem tab54 : flds Tryd.prog 14 = some [(9, 0), (12, 1)] := by kernel_rfl
theorem tab55 : isAggD (und Tryd.prog 14) = true := by kernel_rfl
theorem tab56 : okD (und Tryd.prog 14) = true := by kernel_rfl
theorem tab57 : szt Tryd.prog 14 = 2 := by kernel_rfl
theorem tab58 : byt Tryd.prog 14 = 24 := by kernel_rfl
theorem tab59 : zer Tryd.prog 14 = some (.agg #[(.string ByteArray.empty), (.int .u64 0)]) := by kernel_rfl
theorem tab60 : und Tryd.prog 15 = .pointer 157 := by kernel_rfl
theorem tab61 : szt Tryd.prog 15 = 1 := by kernel_rfl
theorem tab62 : byt Tryd.prog 15 = 8 := by kernel_rfl
theorem tab63 : zer Tryd.prog 15 = some (.pointer none) := by kernel_rfl
theorem tab64 : und Tryd.prog 16 = .pointer 160 := by kernel_rfl
theorem tab65 : szt Tryd.prog 16 = 1 := by kernel_rfl
theorem tab66 : byt Tryd.prog 16 = 8 := by kernel_rfl
theorem tab67 : zer Tryd.prog 16 = some (.pointer none) := by kernel_rfl
theorem tab68 : und Tryd.prog 17 = .pointer 167 := by kernel_rfl
theorem tab69 : szt Tryd.prog 17 = 1 := by kernel_rfl
theorem tab70 : byt Tryd.prog 17 = 8 := by kernel_rfl
theorem tab71 : zer Tryd.prog 17 = some (.pointer none) := by kernel_rfl
theorem tab72 : flds Tryd.prog 18 = some [(17, 0)] := by kernel_rfl
theorem tab73 : isAggD (und Tryd.prog 18) = true := by kernel_rfl
theorem tab74 : okD (und Tryd.prog 18) = true := by kernel_rfl
theorem tab75 : szt Tryd.prog 18 = 1 := by kernel_rfl
theorem tab76 : byt Tryd.prog 18 = 8 := by kernel_rfl
theorem tab77 : zer Tryd.prog 18 = some (.agg #[(.pointer none)]) := by kernel_rfl
theorem tab78 : flds Tryd.prog 19 = some [(17, 0)] := by kernel_rfl
theorem tab79 : isAggD (und Tryd.prog 19) = true := by kernel_rfl
theorem tab80 : okD (und Tryd.prog 19) = true := by kernel_rfl
theorem tab81 : szt Tryd.prog 19 = 1 := by kernel_rfl
theorem tab82 : byt Tryd.prog 19 = 8 := by kernel_rfl
theorem tab83 : zer Tryd.prog 19 = some (.agg #[(.pointer none)]) := by kernel_rfl
theorem tab84 : und Tryd.prog 21 = .int .i32 := by kernel_rfl
theorem tab85 : szt Tryd.prog 21 = 1 := by kernel_rfl
theorem tab86 : byt Tryd.prog 21 = 4 := by kernel_rfl
theorem tab87 : zer Tryd.prog 21 = some (.int .i32 0) := by kernel_rfl
theorem tab88 : und Tryd.prog 22 = .slice 9 := by kernel_rfl
theorem tab89 : szt Tryd.prog 22 = 1 := by kernel_rfl
theorem tab90 : byt Tryd.prog 22 = 24 := by kernel_rfl
theorem tab91 : zer Tryd.prog 22 = some (.slice none 0 0) := by kernel_rfl
theorem tab92 : und Tryd.prog 25 = .int .u64 := by kernel_rfl
theorem tab93 : szt Tryd.prog 25 = 1 := by kernel_rfl
theorem tab94 : byt Tryd.prog 25 = 8 := by kernel_rfl
theorem tab95 : zer Tryd.prog 25 = some (.int .u64 0) := by kernel_rfl
theorem tab96 : und Tryd.prog 26 = .pointer 61 := by kernel_rfl
theorem tab97 : szt Tryd.prog 26 = 1 := by kernel_rfl
theorem tab98 : byt Tryd.prog 26 = 8 := by kernel_rfl
theorem tab99 : zer Tryd.prog 26 = some (.pointer none) := by kernel_rfl
theorem tab100 : und Tryd.prog 28 = .pointer 36 := by kernel_rfl
theorem tab101 : szt Tryd.prog 28 = 1 := by kernel_rfl
theorem tab102 : byt Tryd.prog 28 = 8 := by kernel_rfl
theorem tab103 : zer Tryd.prog 28 = some (.pointer none) := by kernel_rfl
theorem tab104 : und Tryd.prog 34 = .slice 3 := by kernel_rfl
theorem tab105 : szt Tryd.prog 34 = 1 := by kernel_rfl
theorem tab106 : byt Tryd.prog 34 = 24 := by kernel_rfl
theorem tab107 : zer Tryd.prog 34 = some (.slice none 0 0) := by kernel_rfl
theorem tab108 : flds Tryd.prog 35 = some [(22, 0), (34, 1), (22, 2), (3, 3), (4, 4)] := by kernel_rfl
theorem tab109 : isAggD (und Tryd.prog 35) = true := by kernel_rfl
theorem tab110 : okD (und Tryd.prog 35) = true := by kernel_rfl
theorem tab111 : szt Tryd.prog 35 = 5 := by kernel_rfl
theorem tab112 : byt Tryd.prog 35 = 88 := by kernel_rfl
theorem tab113 : zer Tryd.prog 35 = some (.agg #[(.slice none 0 0), (.slice none 0 0), (.slice none 0 0), (.int .i64 0), (.bool false)]) := by kernel_rfl
theorem tab114 : flds Tryd.prog 36 = some [(22, 0), (34, 1), (22, 2), (3, 3), (4, 4)] := by kernel_rfl
theorem tab115 : isAggD (und Tryd.prog 36) = true := by kernel_rfl
theorem tab116 : okD (und Tryd.prog 36) = true := by kernel_rfl
theorem tab117 : szt Tryd.prog 36 = 5 := by kernel_rfl
theorem tab118 : byt Tryd.prog 36 = 88 := by kernel_rfl
theorem tab119 : zer Tryd.prog 36 = some (.agg #[(.slice none 0 0), (.slice none 0 0), (.slice none 0 0), (.int .i64 0), (.bool false)]) := by kernel_rfl
theorem tab120 : und Tryd.prog 37 = .slice 5 := by kernel_rfl
theorem tab121 : szt Tryd.prog 37 = 1 := by kernel_rfl
theorem tab122 : byt Tryd.prog 37 = 24 := by kernel_rfl
theorem tab123 : zer Tryd.prog 37 = some (.slice none 0 0) := by kernel_rfl
theorem tab124 : und Tryd.prog 38 = .pointer 72 := by kernel_rfl
theorem tab125 : szt Tryd.prog 38 = 1 := by kernel_rfl
theorem tab126 : byt Tryd.prog 38 = 8 := by kernel_rfl
theorem tab127 : zer Tryd.prog 38 = some (.pointer none) := by kernel_rfl
theorem tab128 : und Tryd.prog 39 = .int .i64 := by kernel_rfl
theorem tab129 : szt Tryd.prog 39 = 1 := by kernel_rfl
theorem tab130 : byt Tryd.prog 39 = 8 := by kernel_rfl
theorem tab131 : zer Tryd.prog 39 = some (.int .i64 0) := by kernel_rfl
theorem tab132 : und Tryd.prog 42 = .pointer 51 := by kernel_rfl
theorem tab133 : szt Tryd.prog 42 = 1 := by kernel_rfl
theorem tab134 : byt Tryd.prog 42 = 8 := by kernel_rfl
theorem tab135 : zer Tryd.prog 42 = some (.pointer none) := by kernel_rfl
theorem tab136 : flds Tryd.prog 50 = some [(28, 0), (3, 1), (22, 2)] := by kernel_rfl
theorem tab137 : isAggD (und Tryd.prog 50) = true := by kernel_rfl
theorem tab138 : okD (und Tryd.prog 50) = true := by kernel_rfl
theorem tab139 : szt Tryd.prog 50 = 3 := by kernel_rfl
theorem tab140 : byt Tryd.prog 50 = 40 := by kernel_rfl
theorem tab141 : zer Tryd.prog 50 = some (.agg #[(.pointer none), (.int .i64 0), (.slice none 0 0)]) := by kernel_rfl
theorem tab142 : flds Tryd.prog 51 = some [(28, 0), (3, 1), (22, 2)] := by kernel_rfl
theorem tab143 : isAggD (und Tryd.prog 51) = true := by kernel_rfl
theorem tab144 : okD (und Tryd.prog 51) = true := by kernel_rfl
theorem tab145 : szt Tryd.prog 51 = 3 := by kernel_rfl
theorem tab146 : byt Tryd.prog 51 = 40 := by kernel_rfl
theorem tab147 : zer Tryd.prog 51 = some (.agg #[(.pointer none), (.int .i64 0), (.slice none 0 0)]) := by kernel_rfl
theorem tab148 : und Tryd.prog 53 = .slice 55 := by kernel_rfl
theorem tab149 : szt Tryd.prog 53 = 1 := by kernel_rfl
theorem tab150 : byt Tryd.prog 53 = 24 := by kernel_rfl
theorem tab151 : zer Tryd.prog 53 = some (.slice none 0 0) := by kernel_rfl
theorem tab152 : flds Tryd.prog 54 = some [(3, 0), (3, 1), (22, 2), (37, 3)] := by kernel_rfl
theorem tab153 : isAggD (und Tryd.prog 54) = true := by kernel_rfl
theorem tab154 : okD (und Tryd.prog 54) = true := by kernel_rfl
theorem tab155 : szt Tryd.prog 54 = 4 := by kernel_rfl
theorem tab156 : byt Tryd.prog 54 = 64 := by kernel_rfl
theorem tab157 : zer Tryd.prog 54 = some (.agg #[(.int .i64 0), (.int .i64 0), (.slice none 0 0), (.slice none 0 0)]) := by kernel_rfl
theorem tab158 : flds Tryd.prog 55 = some [(3, 0), (3, 1), (22, 2), (37, 3)] := by kernel_rfl
theorem tab159 : isAggD (und Tryd.prog 55) = true := by kernel_rfl
theorem tab160 : okD (und Tryd.prog 55) = true := by kernel_rfl
theorem tab161 : szt Tryd.prog 55 = 4 := by kernel_rfl
theorem tab162 : byt Tryd.prog 55 = 64 := by kernel_rfl
theorem tab163 : zer Tryd.prog 55 = some (.agg #[(.int .i64 0), (.int .i64 0), (.slice none 0 0), (.slice none 0 0)]) := by kernel_rfl
theorem tab164 : und Tryd.prog 58 = .slice 90 := by kernel_rfl
theorem tab165 : szt Tryd.prog 58 = 1 := by kernel_rfl
theorem tab166 : byt Tryd.prog 58 = 24 := by kernel_rfl
theorem tab167 : zer Tryd.prog 58 = some (.slice none 0 0) := by kernel_rfl
theorem tab168 : und Tryd.prog 59 = .slice 92 := by kernel_rfl
theorem tab169 : szt Tryd.prog 59 = 1 := by kernel_rfl
theorem tab170 : byt Tryd.prog 59 = 24 := by kernel_rfl
theorem tab171 : zer Tryd.prog 59 = some (.slice none 0 0) := by kernel_rfl
theorem tab172 : flds Tryd.prog 60 = some [(58, 0), (58, 1), (59, 2), (3, 3), (4, 4)] := by kernel_rfl
theorem tab173 : isAggD (und Tryd.prog 60) = true := by kernel_rfl
theorem tab174 : okD (und Tryd.prog 60) = true := by kernel_rfl
theorem tab175 : szt Tryd.prog 60 = 5 := by kernel_rfl
theorem tab176 : byt Tryd.prog 60 = 88 := by kernel_rfl
theorem tab177 : zer Tryd.prog 60 = some (.agg #[(.slice none 0 0), (.slice none 0 0), (.slice none 0 0), (.int .i64 0), (.bool false)]) := by kernel_rfl
theorem tab178 : flds Tryd.prog 61 = some [(58, 0), (58, 1), (59, 2), (3, 3), (4, 4)] := by kernel_rfl
theorem tab179 : isAggD (und Tryd.prog 61) = true := by kernel_rfl
theorem tab180 : okD (und Tryd.prog 61) = true := by kernel_rfl
theorem tab181 : szt Tryd.prog 61 = 5 := by kernel_rfl
theorem tab182 : byt Tryd.prog 61 = 88 := by kernel_rfl
theorem tab183 : zer Tryd.prog 61 = some (.agg #[(.slice none 0 0), (.slice none 0 0), (.slice none 0 0), (.int .i64 0), (.bool false)]) := by kernel_rfl
theorem tab184 : und Tryd.prog 63 = .array 32 5 := by kernel_rfl
theorem tab185 : flds Tryd.prog 63 = none := by kernel_rfl
theorem tab186 : cmpT Tryd.prog 63 = none := by kernel_rfl
theorem tab187 : gl Tryd.prog 63 = true := by kernel_rfl
theorem tab188 : szt Tryd.prog 63 = 32 := by kernel_rfl
theorem tab189 : byt Tryd.prog 63 = 32 := by kernel_rfl
theorem tab190 : zer Tryd.prog 63 = some (.agg (iv .u8 (zl 32)).toArray) := by kernel_rfl
theorem tab191 : und Tryd.prog 64 = .array 32 5 := by kernel_rfl
theorem tab192 : flds Tryd.prog 64 = none := by kernel_rfl
theorem tab193 : cmpT Tryd.prog 64 = none := by kernel_rfl
theorem tab194 : gl Tryd.prog 64 = true := by kernel_rfl
theorem tab195 : szt Tryd.prog 64 = 32 := by kernel_rfl
theorem tab196 : byt Tryd.prog 64 = 32 := by kernel_rfl
theorem tab197 : zer Tryd.prog 64 = some (.agg (iv .u8 (zl 32)).toArray) := by kernel_rfl
theorem tab198 : flds Tryd.prog 71 = some [(26, 0), (22, 1), (3, 2), (3, 3)] := by kernel_rfl
theorem tab199 : isAggD (und Tryd.prog 71) = true := by kernel_rfl
theorem tab200 : okD (und Tryd.prog 71) = true := by kernel_rfl
theorem tab201 : szt Tryd.prog 71 = 4 := by kernel_rfl
theorem tab202 : byt Tryd.prog 71 = 48 := by kernel_rfl
theorem tab203 : zer Tryd.prog 71 = some (.agg #[(.pointer none), (.slice none 0 0), (.int .i64 0), (.int .i64 0)]) := by kernel_rfl
theorem tab204 : flds Tryd.prog 72 = some [(26, 0), (22, 1), (3, 2), (3, 3)] := by kernel_rfl
theorem tab205 : isAggD (und Tryd.prog 72) = true := by kernel_rfl
theorem tab206 : okD (und Tryd.prog 72) = true := by kernel_rfl
theorem tab207 : szt Tryd.prog 72 = 4 := by kernel_rfl
theorem tab208 : byt Tryd.prog 72 = 48 := by kernel_rfl
theorem tab209 : zer Tryd.prog 72 = some (.agg #[(.pointer none), (.slice none 0 0), (.int .i64 0), (.int .i64 0)]) := by kernel_rfl
theorem tab210 : und Tryd.prog 81 = .pointer 83 := by kernel_rfl
theorem tab211 : szt Tryd.prog 81 = 1 := by kernel_rfl
theorem tab212 : byt Tryd.prog 81 = 8 := by kernel_rfl
theorem tab213 : zer Tryd.prog 81 = some (.pointer none) := by kernel_rfl
theorem tab214 : flds Tryd.prog 82 = some [(9, 0), (3, 1)] := by kernel_rfl
theorem tab215 : isAggD (und Tryd.prog 82) = true := by kernel_rfl
theorem tab216 : okD (und Tryd.prog 82) = true := by kernel_rfl
theorem tab217 : szt Tryd.prog 82 = 2 := by kernel_rfl
theorem tab218 : byt Tryd.prog 82 = 24 := by kernel_rfl
theorem tab219 : zer Tryd.prog 82 = some (.agg #[(.string ByteArray.empty), (.int .i64 0)]) := by kernel_rfl
theorem tab220 : flds Tryd.prog 83 = some [(9, 0), (3, 1)] := by kernel_rfl
theorem tab221 : isAggD (und Tryd.prog 83) = true := by kernel_rfl
theorem tab222 : okD (und Tryd.prog 83) = true := by kernel_rfl
theorem tab223 : cmpT Tryd.prog 83 = some [.str, .int] := by kernel_rfl
theorem tab224 : szt Tryd.prog 83 = 2 := by kernel_rfl
theorem tab225 : byt Tryd.prog 83 = 24 := by kernel_rfl
theorem tab226 : zer Tryd.prog 83 = some (.agg #[(.string ByteArray.empty), (.int .i64 0)]) := by kernel_rfl
theorem tab227 : und Tryd.prog 89 = .array 256 5 := by kernel_rfl
theorem tab228 : flds Tryd.prog 89 = none := by kernel_rfl
theorem tab229 : cmpT Tryd.prog 89 = none := by kernel_rfl
theorem tab230 : gl Tryd.prog 89 = true := by kernel_rfl
theorem tab231 : szt Tryd.prog 89 = 256 := by kernel_rfl
theorem tab232 : byt Tryd.prog 89 = 256 := by kernel_rfl
theorem tab233 : zer Tryd.prog 89 = some (.agg (iv .u8 (zl 256)).toArray) := by kernel_rfl
theorem tab234 : und Tryd.prog 90 = .array 256 5 := by kernel_rfl
theorem tab235 : flds Tryd.prog 90 = none := by kernel_rfl
theorem tab236 : cmpT Tryd.prog 90 = none := by kernel_rfl
theorem tab237 : gl Tryd.prog 90 = true := by kernel_rfl
theorem tab238 : szt Tryd.prog 90 = 256 := by kernel_rfl
theorem tab239 : byt Tryd.prog 90 = 256 := by kernel_rfl
theorem tab240 : zer Tryd.prog 90 = some (.agg (iv .u8 (zl 256)).toArray) := by kernel_rfl
theorem tab241 : flds Tryd.prog 91 = some [(3, 0), (90, 1)] := by kernel_rfl
theorem tab242 : isAggD (und Tryd.prog 91) = true := by kernel_rfl
theorem tab243 : okD (und Tryd.prog 91) = true := by kernel_rfl
theorem tab244 : szt Tryd.prog 91 = 257 := by kernel_rfl
theorem tab245 : byt Tryd.prog 91 = 264 := by kernel_rfl
theorem tab246 : zer Tryd.prog 91 = some (.agg ([(.int .i64 0)] ++ iv .u8 (zl 256) : List Value).toArray) := by kernel_rfl
theorem tab247 : flds Tryd.prog 92 = some [(3, 0), (90, 1)] := by kernel_rfl
theorem tab248 : isAggD (und Tryd.prog 92) = true := by kernel_rfl
theorem tab249 : okD (und Tryd.prog 92) = true := by kernel_rfl
theorem tab250 : szt Tryd.prog 92 = 257 := by kernel_rfl
theorem tab251 : byt Tryd.prog 92 = 264 := by kernel_rfl
theorem tab252 : zer Tryd.prog 92 = some (.agg ([(.int .i64 0)] ++ iv .u8 (zl 256) : List Value).toArray) := by kernel_rfl
theorem tab253 : und Tryd.prog 94 = .int .u32 := by kernel_rfl
theorem tab254 : szt Tryd.prog 94 = 1 := by kernel_rfl
theorem tab255 : byt Tryd.prog 94 = 4 := by kernel_rfl
theorem tab256 : zer Tryd.prog 94 = some (.int .u32 0) := by kernel_rfl
theorem tab257 : und Tryd.prog 95 = .array 8 94 := by kernel_rfl
theorem tab258 : flds Tryd.prog 95 = none := by kernel_rfl
theorem tab259 : cmpT Tryd.prog 95 = none := by kernel_rfl
theorem tab260 : gl Tryd.prog 95 = true := by kernel_rfl
theorem tab261 : szt Tryd.prog 95 = 8 := by kernel_rfl
theorem tab262 : byt Tryd.prog 95 = 32 := by kernel_rfl
theorem tab263 : zer Tryd.prog 95 = some (.agg (iv .u32 (zl 8)).toArray) := by kernel_rfl
theorem tab264 : und Tryd.prog 98 = .pointer 132 := by kernel_rfl
theorem tab265 : szt Tryd.prog 98 = 1 := by kernel_rfl
theorem tab266 : byt Tryd.prog 98 = 8 := by kernel_rfl
theorem tab267 : zer Tryd.prog 98 = some (.pointer none) := by kernel_rfl
theorem tab268 : und Tryd.prog 100 = .pointer 102 := by kernel_rfl
theorem tab269 : szt Tryd.prog 100 = 1 := by kernel_rfl
theorem tab270 : byt Tryd.prog 100 = 8 := by kernel_rfl
theorem tab271 : zer Tryd.prog 100 = some (.pointer none) := by kernel_rfl
theorem tab272 : flds Tryd.prog 101 = some [(100, 0), (37, 1)] := by kernel_rfl
theorem tab273 : isAggD (und Tryd.prog 101) = true := by kernel_rfl
theorem tab274 : okD (und Tryd.prog 101) = true := by kernel_rfl
theorem tab275 : szt Tryd.prog 101 = 2 := by kernel_rfl
theorem tab276 : byt Tryd.prog 101 = 32 := by kernel_rfl
theorem tab277 : zer Tryd.prog 101 = some (.agg #[(.pointer none), (.slice none 0 0)]) := by kernel_rfl
theorem tab278 : flds Tryd.prog 102 = some [(100, 0), (37, 1)] := by kernel_rfl
theorem tab279 : isAggD (und Tryd.prog 102) = true := by kernel_rfl
theorem tab280 : okD (und Tryd.prog 102) = true := by kernel_rfl
theorem tab281 : szt Tryd.prog 102 = 2 := by kernel_rfl
theorem tab282 : byt Tryd.prog 102 = 32 := by kernel_rfl
theorem tab283 : zer Tryd.prog 102 = some (.agg #[(.pointer none), (.slice none 0 0)]) := by kernel_rfl
theorem tab284 : flds Tryd.prog 111 = some [(37, 0)] := by kernel_rfl
theorem tab285 : isAggD (und Tryd.prog 111) = true := by kernel_rfl
theorem tab286 : okD (und Tryd.prog 111) = true := by kernel_rfl
theorem tab287 : szt Tryd.prog 111 = 1 := by kernel_rfl
theorem tab288 : byt Tryd.prog 111 = 24 := by kernel_rfl
theorem tab289 : zer Tryd.prog 111 = some (.agg #[(.slice none 0 0)]) := by kernel_rfl
theorem tab290 : flds Tryd.prog 112 = some [(37, 0)] := by kernel_rfl
theorem tab291 : isAggD (und Tryd.prog 112) = true := by kernel_rfl
theorem tab292 : okD (und Tryd.prog 112) = true := by kernel_rfl
theorem tab293 : szt Tryd.prog 112 = 1 := by kernel_rfl
theorem tab294 : byt Tryd.prog 112 = 24 := by kernel_rfl
theorem tab295 : zer Tryd.prog 112 = some (.agg #[(.slice none 0 0)]) := by kernel_rfl
theorem tab296 : flds Tryd.prog 114 = some [(3, 0), (9, 1)] := by kernel_rfl
theorem tab297 : isAggD (und Tryd.prog 114) = true := by kernel_rfl
theorem tab298 : okD (und Tryd.prog 114) = true := by kernel_rfl
theorem tab299 : szt Tryd.prog 114 = 2 := by kernel_rfl
theorem tab300 : byt Tryd.prog 114 = 24 := by kernel_rfl
theorem tab301 : zer Tryd.prog 114 = some (.agg #[(.int .i64 0), (.string ByteArray.empty)]) := by kernel_rfl
theorem tab302 : flds Tryd.prog 115 = some [(3, 0), (9, 1)] := by kernel_rfl
theorem tab303 : isAggD (und Tryd.prog 115) = true := by kernel_rfl
theorem tab304 : okD (und Tryd.prog 115) = true := by kernel_rfl
theorem tab305 : cmpT Tryd.prog 115 = some [.int, .str] := by kernel_rfl
theorem tab306 : szt Tryd.prog 115 = 2 := by kernel_rfl
theorem tab307 : byt Tryd.prog 115 = 24 := by kernel_rfl
theorem tab308 : zer Tryd.prog 115 = some (.agg #[(.int .i64 0), (.string ByteArray.empty)]) := by kernel_rfl
theorem tab309 : und Tryd.prog 116 = .slice 115 := by kernel_rfl
theorem tab310 : szt Tryd.prog 116 = 1 := by kernel_rfl
theorem tab311 : byt Tryd.prog 116 = 24 := by kernel_rfl
theorem tab312 : zer Tryd.prog 116 = some (.slice none 0 0) := by kernel_rfl
theorem tab313 : und Tryd.prog 118 = .slice 116 := by kernel_rfl
theorem tab314 : szt Tryd.prog 118 = 1 := by kernel_rfl
theorem tab315 : byt Tryd.prog 118 = 24 := by kernel_rfl
theorem tab316 : zer Tryd.prog 118 = some (.slice none 0 0) := by kernel_rfl
theorem tab317 : und Tryd.prog 119 = .slice 22 := by kernel_rfl
theorem tab318 : szt Tryd.prog 119 = 1 := by kernel_rfl
theorem tab319 : byt Tryd.prog 119 = 24 := by kernel_rfl
theorem tab320 : zer Tryd.prog 119 = some (.slice none 0 0) := by kernel_rfl
theorem tab321 : und Tryd.prog 121 = .int .u64 := by kernel_rfl
theorem tab322 : szt Tryd.prog 121 = 1 := by kernel_rfl
theorem tab323 : byt Tryd.prog 121 = 8 := by kernel_rfl
theorem tab324 : zer Tryd.prog 121 = some (.int .u64 0) := by kernel_rfl
theorem tab325 : und Tryd.prog 122 = .array 8 5 := by kernel_rfl
theorem tab326 : flds Tryd.prog 122 = none := by kernel_rfl
theorem tab327 : cmpT Tryd.prog 122 = none := by kernel_rfl
theorem tab328 : gl Tryd.prog 122 = true := by kernel_rfl
theorem tab329 : szt Tryd.prog 122 = 8 := by kernel_rfl
theorem tab330 : byt Tryd.prog 122 = 8 := by kernel_rfl
theorem tab331 : zer Tryd.prog 122 = some (.agg (iv .u8 (zl 8)).toArray) := by kernel_rfl
theorem tab332 : und Tryd.prog 123 = .array 64 94 := by kernel_rfl
theorem tab333 : flds Tryd.prog 123 = none := by kernel_rfl
theorem tab334 : cmpT Tryd.prog 123 = none := by kernel_rfl
theorem tab335 : gl Tryd.prog 123 = true := by kernel_rfl
theorem tab336 : szt Tryd.prog 123 = 64 := by kernel_rfl
theorem tab337 : byt Tryd.prog 123 = 256 := by kernel_rfl
theorem tab338 : zer Tryd.prog 123 = some (.agg (iv .u32 (zl 64)).toArray) := by kernel_rfl
theorem tab339 : flds Tryd.prog 131 = some [(9, 0), (39, 1)] := by kernel_rfl
theorem tab340 : isAggD (und Tryd.prog 131) = true := by kernel_rfl
theorem tab341 : okD (und Tryd.prog 131) = true := by kernel_rfl
theorem tab342 : szt Tryd.prog 131 = 2 := by kernel_rfl
theorem tab343 : byt Tryd.prog 131 = 24 := by kernel_rfl
theorem tab344 : zer Tryd.prog 131 = some (.agg #[(.string ByteArray.empty), (.int .i64 0)]) := by kernel_rfl
theorem tab345 : flds Tryd.prog 132 = some [(9, 0), (39, 1)] := by kernel_rfl
theorem tab346 : isAggD (und Tryd.prog 132) = true := by kernel_rfl
theorem tab347 : okD (und Tryd.prog 132) = true := by kernel_rfl
theorem tab348 : cmpT Tryd.prog 132 = some [.str, .int] := by kernel_rfl
theorem tab349 : szt Tryd.prog 132 = 2 := by kernel_rfl
theorem tab350 : byt Tryd.prog 132 = 24 := by kernel_rfl
theorem tab351 : zer Tryd.prog 132 = some (.agg #[(.string ByteArray.empty), (.int .i64 0)]) := by kernel_rfl
theorem tab352 : und Tryd.prog 135 = .pointer 5 := by kernel_rfl
theorem tab353 : szt Tryd.prog 135 = 1 := by kernel_rfl
theorem tab354 : byt Tryd.prog 135 = 8 := by kernel_rfl
theorem tab355 : zer Tryd.prog 135 = some (.pointer none) := by kernel_rfl
theorem tab356 : und Tryd.prog 138 = .pointer 112 := by kernel_rfl
theorem tab357 : szt Tryd.prog 138 = 1 := by kernel_rfl
theorem tab358 : byt Tryd.prog 138 = 8 := by kernel_rfl
theorem tab359 : zer Tryd.prog 138 = some (.pointer none) := by kernel_rfl
theorem tab360 : und Tryd.prog 144 = .array 64 5 := by kernel_rfl
theorem tab361 : flds Tryd.prog 144 = none := by kernel_rfl
theorem tab362 : cmpT Tryd.prog 144 = none := by kernel_rfl
theorem tab363 : gl Tryd.prog 144 = true := by kernel_rfl
theorem tab364 : szt Tryd.prog 144 = 64 := by kernel_rfl
theorem tab365 : byt Tryd.prog 144 = 64 := by kernel_rfl
theorem tab366 : zer Tryd.prog 144 = some (.agg (iv .u8 (zl 64)).toArray) := by kernel_rfl
theorem tab367 : flds Tryd.prog 145 = some [(95, 0), (144, 8), (121, 72)] := by kernel_rfl
theorem tab368 : isAggD (und Tryd.prog 145) = true := by kernel_rfl
theorem tab369 : okD (und Tryd.prog 145) = true := by kernel_rfl
theorem tab370 : szt Tryd.prog 145 = 73 := by kernel_rfl
theorem tab371 : byt Tryd.prog 145 = 104 := by kernel_rfl
theorem tab372 : zer Tryd.prog 145 = some (.agg (iv .u32 (zl 8) ++ iv .u8 (zl 64) ++ [(.int .u64 0)] : List Value).toArray) := by kernel_rfl
theorem tab373 : flds Tryd.prog 146 = some [(95, 0), (144, 8), (121, 72)] := by kernel_rfl
theorem tab374 : isAggD (und Tryd.prog 146) = true := by kernel_rfl
theorem tab375 : okD (und Tryd.prog 146) = true := by kernel_rfl
theorem tab376 : szt Tryd.prog 146 = 73 := by kernel_rfl
theorem tab377 : byt Tryd.prog 146 = 104 := by kernel_rfl
theorem tab378 : zer Tryd.prog 146 = some (.agg (iv .u32 (zl 8) ++ iv .u8 (zl 64) ++ [(.int .u64 0)] : List Value).toArray) := by kernel_rfl
theorem tab379 : und Tryd.prog 150 = .slice 94 := by kernel_rfl
theorem tab380 : szt Tryd.prog 150 = 1 := by kernel_rfl
theorem tab381 : byt Tryd.prog 150 = 24 := by kernel_rfl
theorem tab382 : zer Tryd.prog 150 = some (.slice none 0 0) := by kernel_rfl
theorem tab383 : und Tryd.prog 152 = .pointer 146 := by kernel_rfl
theorem tab384 : szt Tryd.prog 152 = 1 := by kernel_rfl
theorem tab385 : byt Tryd.prog 152 = 8 := by kernel_rfl
theorem tab386 : zer Tryd.prog 152 = some (.pointer none) := by kernel_rfl
theorem tab387 : flds Tryd.prog 156 = some [(17, 0), (17, 1), (17, 2), (9, 3)] := by kernel_rfl
theorem tab388 : isAggD (und Tryd.prog 156) = true := by kernel_rfl
theorem tab389 : okD (und Tryd.prog 156) = true := by kernel_rfl
theorem tab390 : szt Tryd.prog 156 = 4 := by kernel_rfl
theorem tab391 : byt Tryd.prog 156 = 40 := by kernel_rfl
theorem tab392 : zer Tryd.prog 156 = some (.agg #[(.pointer none), (.pointer none), (.pointer none), (.string ByteArray.empty)]) := by kernel_rfl
theorem tab393 : flds Tryd.prog 157 = some [(17, 0), (17, 1), (17, 2), (9, 3)] := by kernel_rfl
theorem tab394 : isAggD (und Tryd.prog 157) = true := by kernel_rfl
theorem tab395 : okD (und Tryd.prog 157) = true := by kernel_rfl
theorem tab396 : szt Tryd.prog 157 = 4 := by kernel_rfl
theorem tab397 : byt Tryd.prog 157 = 40 := by kernel_rfl
theorem tab398 : zer Tryd.prog 157 = some (.agg #[(.pointer none), (.pointer none), (.pointer none), (.string ByteArray.empty)]) := by kernel_rfl
theorem tab399 : und Tryd.prog 158 = .array 0 16 := by kernel_rfl
theorem tab400 : flds Tryd.prog 158 = none := by kernel_rfl
theorem tab401 : cmpT Tryd.prog 158 = none := by kernel_rfl
theorem tab402 : szt Tryd.prog 158 = 0 := by kernel_rfl
theorem tab403 : byt Tryd.prog 158 = 0 := by kernel_rfl
theorem tab404 : zer Tryd.prog 158 = some (.agg #[]) := by kernel_rfl
theorem tab405 : flds Tryd.prog 159 = some [(158, 0)] := by kernel_rfl
theorem tab406 : isAggD (und Tryd.prog 159) = true := by kernel_rfl
theorem tab407 : okD (und Tryd.prog 159) = true := by kernel_rfl
theorem tab408 : szt Tryd.prog 159 = 0 := by kernel_rfl
theorem tab409 : byt Tryd.prog 159 = 0 := by kernel_rfl
theorem tab410 : zer Tryd.prog 159 = some (.agg #[]) := by kernel_rfl
theorem tab411 : flds Tryd.prog 160 = some [(158, 0)] := by kernel_rfl
theorem tab412 : isAggD (und Tryd.prog 160) = true := by kernel_rfl
theorem tab413 : okD (und Tryd.prog 160) = true := by kernel_rfl
theorem tab414 : szt Tryd.prog 160 = 0 := by kernel_rfl
theorem tab415 : byt Tryd.prog 160 = 0 := by kernel_rfl
theorem tab416 : zer Tryd.prog 160 = some (.agg #[]) := by kernel_rfl
theorem tab417 : und Tryd.prog 161 = .int .u8 := by kernel_rfl
theorem tab418 : szt Tryd.prog 161 = 1 := by kernel_rfl
theorem tab419 : byt Tryd.prog 161 = 1 := by kernel_rfl
theorem tab420 : zer Tryd.prog 161 = some (.int .u8 0) := by kernel_rfl
theorem tab421 : und Tryd.prog 162 = .int .u8 := by kernel_rfl
theorem tab422 : szt Tryd.prog 162 = 1 := by kernel_rfl
theorem tab423 : byt Tryd.prog 162 = 1 := by kernel_rfl
theorem tab424 : zer Tryd.prog 162 = some (.int .u8 0) := by kernel_rfl
theorem tab425 : und Tryd.prog 164 = .int .i32 := by kernel_rfl
theorem tab426 : szt Tryd.prog 164 = 1 := by kernel_rfl
theorem tab427 : byt Tryd.prog 164 = 4 := by kernel_rfl
theorem tab428 : zer Tryd.prog 164 = some (.int .i32 0) := by kernel_rfl
theorem tab429 : und Tryd.prog 165 = .int .i32 := by kernel_rfl
theorem tab430 : szt Tryd.prog 165 = 1 := by kernel_rfl
theorem tab431 : byt Tryd.prog 165 = 4 := by kernel_rfl
theorem tab432 : zer Tryd.prog 165 = some (.int .i32 0) := by kernel_rfl
theorem tab433 : flds Tryd.prog 166 = some [(12, 0), (12, 1), (94, 2), (161, 3), (5, 4), (5, 5), (162, 6), (163, 7), (135, 8), (164, 9), (165, 10)] := by kernel_rfl
theorem tab434 : isAggD (und Tryd.prog 166) = true := by kernel_rfl
theorem tab435 : okD (und Tryd.prog 166) = true := by kernel_rfl
theorem tab436 : szt Tryd.prog 166 = 11 := by kernel_rfl
theorem tab437 : byt Tryd.prog 166 = 48 := by kernel_rfl
theorem tab438 : zer Tryd.prog 166 = some (.agg #[(.int .u64 0), (.int .u64 0), (.int .u32 0), (.int .u8 0), (.int .u8 0), (.int .u8 0), (.int .u8 0), .nilFunc, (.pointer none), (.int .i32 0), (.int .i32 0)]) := by kernel_rfl
theorem tab439 : flds Tryd.prog 167 = some [(12, 0), (12, 1), (94, 2), (161, 3), (5, 4), (5, 5), (162, 6), (163, 7), (135, 8), (164, 9), (165, 10)] := by kernel_rfl
theorem tab440 : isAggD (und Tryd.prog 167) = true := by kernel_rfl
theorem tab441 : okD (und Tryd.prog 167) = true := by kernel_rfl
theorem tab442 : szt Tryd.prog 167 = 11 := by kernel_rfl
theorem tab443 : byt Tryd.prog 167 = 48 := by kernel_rfl
theorem tab444 : zer Tryd.prog 167 = some (.agg #[(.int .u64 0), (.int .u64 0), (.int .u32 0), (.int .u8 0), (.int .u8 0), (.int .u8 0), (.int .u8 0), .nilFunc, (.pointer none), (.int .i32 0), (.int .i32 0)]) := by kernel_rfl
theorem tab : (und Tryd.prog 2 = .int .i64) ∧ (szt Tryd.prog 2 = 1) ∧ (byt Tryd.prog 2 = 8) ∧ (zer Tryd.prog 2 = some (.int .i64 0)) ∧ (und Tryd.prog 3 = .int .i64) ∧ (szt Tryd.prog 3 = 1) ∧ (byt Tryd.prog 3 = 8) ∧ (zer Tryd.prog 3 = some (.int .i64 0)) ∧ (und Tryd.prog 4 = .bool) ∧ (szt Tryd.prog 4 = 1) ∧ (byt Tryd.prog 4 = 1) ∧ (zer Tryd.prog 4 = some (.bool false)) ∧ (und Tryd.prog 5 = .int .u8) ∧ (szt Tryd.prog 5 = 1) ∧ (byt Tryd.prog 5 = 1) ∧ (zer Tryd.prog 5 = some (.int .u8 0)) ∧ (und Tryd.prog 6 = .int .u8) ∧ (szt Tryd.prog 6 = 1) ∧ (byt Tryd.prog 6 = 1) ∧ (zer Tryd.prog 6 = some (.int .u8 0)) ∧ (flds Tryd.prog 7 = some [(2, 0), (3, 1), (4, 2), (6, 3)]) ∧ (isAggD (und Tryd.prog 7) = true) ∧ (okD (und Tryd.prog 7) = true) ∧ (szt Tryd.prog 7 = 4) ∧ (byt Tryd.prog 7 = 24) ∧ (zer Tryd.prog 7 = some (.agg #[(.int .i64 0), (.int .i64 0), (.bool false), (.int .u8 0)])) ∧ (flds Tryd.prog 8 = some [(2, 0), (3, 1), (4, 2), (6, 3)]) ∧ (isAggD (und Tryd.prog 8) = true) ∧ (okD (und Tryd.prog 8) = true) ∧ (szt Tryd.prog 8 = 4) ∧ (byt Tryd.prog 8 = 24) ∧ (zer Tryd.prog 8 = some (.agg #[(.int .i64 0), (.int .i64 0), (.bool false), (.int .u8 0)])) ∧ (und Tryd.prog 9 = .string) ∧ (szt Tryd.prog 9 = 1) ∧ (byt Tryd.prog 9 = 16) ∧ (zer Tryd.prog 9 = some (.string ByteArray.empty)) ∧ (und Tryd.prog 10 = .string) ∧ (szt Tryd.prog 10 = 1) ∧ (byt Tryd.prog 10 = 16) ∧ (zer Tryd.prog 10 = some (.string ByteArray.empty)) ∧ (und Tryd.prog 11 = .string) ∧ (szt Tryd.prog 11 = 1) ∧ (byt Tryd.prog 11 = 16) ∧ (zer Tryd.prog 11 = some (.string ByteArray.empty)) ∧ (und Tryd.prog 12 = .int .u64) ∧ (szt Tryd.prog 12 = 1) ∧ (byt Tryd.prog 12 = 8) ∧ (zer Tryd.prog 12 = some (.int .u64 0)) ∧ (flds Tryd.prog 13 = some [(9, 0), (12, 1)]) ∧ (isAggD (und Tryd.prog 13) = true) ∧ (okD (und Tryd.prog 13) = true) ∧ (szt Tryd.prog 13 = 2) ∧ (byt Tryd.prog 13 = 24) ∧ (zer Tryd.prog 13 = some (.agg #[(.string ByteArray.empty), (.int .u64 0)])) ∧ (flds Tryd.prog 14 = some [(9, 0), (12, 1)]) ∧ (isAggD (und Tryd.prog 14) = true) ∧ (okD (und Tryd.prog 14) = true) ∧ (szt Tryd.prog 14 = 2) ∧ (byt Tryd.prog 14 = 24) ∧ (zer Tryd.prog 14 = some (.agg #[(.string ByteArray.empty), (.int .u64 0)])) ∧ (und Tryd.prog 15 = .pointer 157) ∧ (szt Tryd.prog 15 = 1) ∧ (byt Tryd.prog 15 = 8) ∧ (zer Tryd.prog 15 = some (.pointer none)) ∧ (und Tryd.prog 16 = .pointer 160) ∧ (szt Tryd.prog 16 = 1) ∧ (byt Tryd.prog 16 = 8) ∧ (zer Tryd.prog 16 = some (.pointer none)) ∧ (und Tryd.prog 17 = .pointer 167) ∧ (szt Tryd.prog 17 = 1) ∧ (byt Tryd.prog 17 = 8) ∧ (zer Tryd.prog 17 = some (.pointer none)) ∧ (flds Tryd.prog 18 = some [(17, 0)]) ∧ (isAggD (und Tryd.prog 18) = true) ∧ (okD (und Tryd.prog 18) = true) ∧ (szt Tryd.prog 18 = 1) ∧ (byt Tryd.prog 18 = 8) ∧ (zer Tryd.prog 18 = some (.agg #[(.pointer none)])) ∧ (flds Tryd.prog 19 = some [(17, 0)]) ∧ (isAggD (und Tryd.prog 19) = true) ∧ (okD (und Tryd.prog 19) = true) ∧ (szt Tryd.prog 19 = 1) ∧ (byt Tryd.prog 19 = 8) ∧ (zer Tryd.prog 19 = some (.agg #[(.pointer none)])) ∧ (und Tryd.prog 21 = .int .i32) ∧ (szt Tryd.prog 21 = 1) ∧ (byt Tryd.prog 21 = 4) ∧ (zer Tryd.prog 21 = some (.int .i32 0)) ∧ (und Tryd.prog 22 = .slice 9) ∧ (szt Tryd.prog 22 = 1) ∧ (byt Tryd.prog 22 = 24) ∧ (zer Tryd.prog 22 = some (.slice none 0 0)) ∧ (und Tryd.prog 25 = .int .u64) ∧ (szt Tryd.prog 25 = 1) ∧ (byt Tryd.prog 25 = 8) ∧ (zer Tryd.prog 25 = some (.int .u64 0)) ∧ (und Tryd.prog 26 = .pointer 61) ∧ (szt Tryd.prog 26 = 1) ∧ (byt Tryd.prog 26 = 8) ∧ (zer Tryd.prog 26 = some (.pointer none)) ∧ (und Tryd.prog 28 = .pointer 36) ∧ (szt Tryd.prog 28 = 1) ∧ (byt Tryd.prog 28 = 8) ∧ (zer Tryd.prog 28 = some (.pointer none)) ∧ (und Tryd.prog 34 = .slice 3) ∧ (szt Tryd.prog 34 = 1) ∧ (byt Tryd.prog 34 = 24) ∧ (zer Tryd.prog 34 = some (.slice none 0 0)) ∧ (flds Tryd.prog 35 = some [(22, 0), (34, 1), (22, 2), (3, 3), (4, 4)]) ∧ (isAggD (und Tryd.prog 35) = true) ∧ (okD (und Tryd.prog 35) = true) ∧ (szt Tryd.prog 35 = 5) ∧ (byt Tryd.prog 35 = 88) ∧ (zer Tryd.prog 35 = some (.agg #[(.slice none 0 0), (.slice none 0 0), (.slice none 0 0), (.int .i64 0), (.bool false)])) ∧ (flds Tryd.prog 36 = some [(22, 0), (34, 1), (22, 2), (3, 3), (4, 4)]) ∧ (isAggD (und Tryd.prog 36) = true) ∧ (okD (und Tryd.prog 36) = true) ∧ (szt Tryd.prog 36 = 5) ∧ (byt Tryd.prog 36 = 88) ∧ (zer Tryd.prog 36 = some (.agg #[(.slice none 0 0), (.slice none 0 0), (.slice none 0 0), (.int .i64 0), (.bool false)])) ∧ (und Tryd.prog 37 = .slice 5) ∧ (szt Tryd.prog 37 = 1) ∧ (byt Tryd.prog 37 = 24) ∧ (zer Tryd.prog 37 = some (.slice none 0 0)) ∧ (und Tryd.prog 38 = .pointer 72) ∧ (szt Tryd.prog 38 = 1) ∧ (byt Tryd.prog 38 = 8) ∧ (zer Tryd.prog 38 = some (.pointer none)) ∧ (und Tryd.prog 39 = .int .i64) ∧ (szt Tryd.prog 39 = 1) ∧ (byt Tryd.prog 39 = 8) ∧ (zer Tryd.prog 39 = some (.int .i64 0)) ∧ (und Tryd.prog 42 = .pointer 51) ∧ (szt Tryd.prog 42 = 1) ∧ (byt Tryd.prog 42 = 8) ∧ (zer Tryd.prog 42 = some (.pointer none)) ∧ (flds Tryd.prog 50 = some [(28, 0), (3, 1), (22, 2)]) ∧ (isAggD (und Tryd.prog 50) = true) ∧ (okD (und Tryd.prog 50) = true) ∧ (szt Tryd.prog 50 = 3) ∧ (byt Tryd.prog 50 = 40) ∧ (zer Tryd.prog 50 = some (.agg #[(.pointer none), (.int .i64 0), (.slice none 0 0)])) ∧ (flds Tryd.prog 51 = some [(28, 0), (3, 1), (22, 2)]) ∧ (isAggD (und Tryd.prog 51) = true) ∧ (okD (und Tryd.prog 51) = true) ∧ (szt Tryd.prog 51 = 3) ∧ (byt Tryd.prog 51 = 40) ∧ (zer Tryd.prog 51 = some (.agg #[(.pointer none), (.int .i64 0), (.slice none 0 0)])) ∧ (und Tryd.prog 53 = .slice 55) ∧ (szt Tryd.prog 53 = 1) ∧ (byt Tryd.prog 53 = 24) ∧ (zer Tryd.prog 53 = some (.slice none 0 0)) ∧ (flds Tryd.prog 54 = some [(3, 0), (3, 1), (22, 2), (37, 3)]) ∧ (isAggD (und Tryd.prog 54) = true) ∧ (okD (und Tryd.prog 54) = true) ∧ (szt Tryd.prog 54 = 4) ∧ (byt Tryd.prog 54 = 64) ∧ (zer Tryd.prog 54 = some (.agg #[(.int .i64 0), (.int .i64 0), (.slice none 0 0), (.slice none 0 0)])) ∧ (flds Tryd.prog 55 = some [(3, 0), (3, 1), (22, 2), (37, 3)]) ∧ (isAggD (und Tryd.prog 55) = true) ∧ (okD (und Tryd.prog 55) = true) ∧ (szt Tryd.prog 55 = 4) ∧ (byt Tryd.prog 55 = 64) ∧ (zer Tryd.prog 55 = some (.agg #[(.int .i64 0), (.int .i64 0), (.slice none 0 0), (.slice none 0 0)])) ∧ (und Tryd.prog 58 = .slice 90) ∧ (szt Tryd.prog 58 = 1) ∧ (byt Tryd.prog 58 = 24) ∧ (zer Tryd.prog 58 = some (.slice none 0 0)) ∧ (und Tryd.prog 59 = .slice 92) ∧ (szt Tryd.prog 59 = 1) ∧ (byt Tryd.prog 59 = 24) ∧ (zer Tryd.prog 59 = some (.slice none 0 0)) ∧ (flds Tryd.prog 60 = some [(58, 0), (58, 1), (59, 2), (3, 3), (4, 4)]) ∧ (isAggD (und Tryd.prog 60) = true) ∧ (okD (und Tryd.prog 60) = true) ∧ (szt Tryd.prog 60 = 5) ∧ (byt Tryd.prog 60 = 88) ∧ (zer Tryd.prog 60 = some (.agg #[(.slice none 0 0), (.slice none 0 0), (.slice none 0 0), (.int .i64 0), (.bool false)])) ∧ (flds Tryd.prog 61 = some [(58, 0), (58, 1), (59, 2), (3, 3), (4, 4)]) ∧ (isAggD (und Tryd.prog 61) = true) ∧ (okD (und Tryd.prog 61) = true) ∧ (szt Tryd.prog 61 = 5) ∧ (byt Tryd.prog 61 = 88) ∧ (zer Tryd.prog 61 = some (.agg #[(.slice none 0 0), (.slice none 0 0), (.slice none 0 0), (.int .i64 0), (.bool false)])) ∧ (und Tryd.prog 63 = .array 32 5) ∧ (flds Tryd.prog 63 = none) ∧ (cmpT Tryd.prog 63 = none) ∧ (gl Tryd.prog 63 = true) ∧ (szt Tryd.prog 63 = 32) ∧ (byt Tryd.prog 63 = 32) ∧ (zer Tryd.prog 63 = some (.agg (iv .u8 (zl 32)).toArray)) ∧ (und Tryd.prog 64 = .array 32 5) ∧ (flds Tryd.prog 64 = none) ∧ (cmpT Tryd.prog 64 = none) ∧ (gl Tryd.prog 64 = true) ∧ (szt Tryd.prog 64 = 32) ∧ (byt Tryd.prog 64 = 32) ∧ (zer Tryd.prog 64 = some (.agg (iv .u8 (zl 32)).toArray)) ∧ (flds Tryd.prog 71 = some [(26, 0), (22, 1), (3, 2), (3, 3)]) ∧ (isAggD (und Tryd.prog 71) = true) ∧ (okD (und Tryd.prog 71) = true) ∧ (szt Tryd.prog 71 = 4) ∧ (byt Tryd.prog 71 = 48) ∧ (zer Tryd.prog 71 = some (.agg #[(.pointer none), (.slice none 0 0), (.int .i64 0), (.int .i64 0)])) ∧ (flds Tryd.prog 72 = some [(26, 0), (22, 1), (3, 2), (3, 3)]) ∧ (isAggD (und Tryd.prog 72) = true) ∧ (okD (und Tryd.prog 72) = true) ∧ (szt Tryd.prog 72 = 4) ∧ (byt Tryd.prog 72 = 48) ∧ (zer Tryd.prog 72 = some (.agg #[(.pointer none), (.slice none 0 0), (.int .i64 0), (.int .i64 0)])) ∧ (und Tryd.prog 81 = .pointer 83) ∧ (szt Tryd.prog 81 = 1) ∧ (byt Tryd.prog 81 = 8) ∧ (zer Tryd.prog 81 = some (.pointer none)) ∧ (flds Tryd.prog 82 = some [(9, 0), (3, 1)]) ∧ (isAggD (und Tryd.prog 82) = true) ∧ (okD (und Tryd.prog 82) = true) ∧ (szt Tryd.prog 82 = 2) ∧ (byt Tryd.prog 82 = 24) ∧ (zer Tryd.prog 82 = some (.agg #[(.string ByteArray.empty), (.int .i64 0)])) ∧ (flds Tryd.prog 83 = some [(9, 0), (3, 1)]) ∧ (isAggD (und Tryd.prog 83) = true) ∧ (okD (und Tryd.prog 83) = true) ∧ (cmpT Tryd.prog 83 = some [.str, .int]) ∧ (szt Tryd.prog 83 = 2) ∧ (byt Tryd.prog 83 = 24) ∧ (zer Tryd.prog 83 = some (.agg #[(.string ByteArray.empty), (.int .i64 0)])) ∧ (und Tryd.prog 89 = .array 256 5) ∧ (flds Tryd.prog 89 = none) ∧ (cmpT Tryd.prog 89 = none) ∧ (gl Tryd.prog 89 = true) ∧ (szt Tryd.prog 89 = 256) ∧ (byt Tryd.prog 89 = 256) ∧ (zer Tryd.prog 89 = some (.agg (iv .u8 (zl 256)).toArray)) ∧ (und Tryd.prog 90 = .array 256 5) ∧ (flds Tryd.prog 90 = none) ∧ (cmpT Tryd.prog 90 = none) ∧ (gl Tryd.prog 90 = true) ∧ (szt Tryd.prog 90 = 256) ∧ (byt Tryd.prog 90 = 256) ∧ (zer Tryd.prog 90 = some (.agg (iv .u8 (zl 256)).toArray)) ∧ (flds Tryd.prog 91 = some [(3, 0), (90, 1)]) ∧ (isAggD (und Tryd.prog 91) = true) ∧ (okD (und Tryd.prog 91) = true) ∧ (szt Tryd.prog 91 = 257) ∧ (byt Tryd.prog 91 = 264) ∧ (zer Tryd.prog 91 = some (.agg ([(.int .i64 0)] ++ iv .u8 (zl 256) : List Value).toArray)) ∧ (flds Tryd.prog 92 = some [(3, 0), (90, 1)]) ∧ (isAggD (und Tryd.prog 92) = true) ∧ (okD (und Tryd.prog 92) = true) ∧ (szt Tryd.prog 92 = 257) ∧ (byt Tryd.prog 92 = 264) ∧ (zer Tryd.prog 92 = some (.agg ([(.int .i64 0)] ++ iv .u8 (zl 256) : List Value).toArray)) ∧ (und Tryd.prog 94 = .int .u32) ∧ (szt Tryd.prog 94 = 1) ∧ (byt Tryd.prog 94 = 4) ∧ (zer Tryd.prog 94 = some (.int .u32 0)) ∧ (und Tryd.prog 95 = .array 8 94) ∧ (flds Tryd.prog 95 = none) ∧ (cmpT Tryd.prog 95 = none) ∧ (gl Tryd.prog 95 = true) ∧ (szt Tryd.prog 95 = 8) ∧ (byt Tryd.prog 95 = 32) ∧ (zer Tryd.prog 95 = some (.agg (iv .u32 (zl 8)).toArray)) ∧ (und Tryd.prog 98 = .pointer 132) ∧ (szt Tryd.prog 98 = 1) ∧ (byt Tryd.prog 98 = 8) ∧ (zer Tryd.prog 98 = some (.pointer none)) ∧ (und Tryd.prog 100 = .pointer 102) ∧ (szt Tryd.prog 100 = 1) ∧ (byt Tryd.prog 100 = 8) ∧ (zer Tryd.prog 100 = some (.pointer none)) ∧ (flds Tryd.prog 101 = some [(100, 0), (37, 1)]) ∧ (isAggD (und Tryd.prog 101) = true) ∧ (okD (und Tryd.prog 101) = true) ∧ (szt Tryd.prog 101 = 2) ∧ (byt Tryd.prog 101 = 32) ∧ (zer Tryd.prog 101 = some (.agg #[(.pointer none), (.slice none 0 0)])) ∧ (flds Tryd.prog 102 = some [(100, 0), (37, 1)]) ∧ (isAggD (und Tryd.prog 102) = true) ∧ (okD (und Tryd.prog 102) = true) ∧ (szt Tryd.prog 102 = 2) ∧ (byt Tryd.prog 102 = 32) ∧ (zer Tryd.prog 102 = some (.agg #[(.pointer none), (.slice none 0 0)])) ∧ (flds Tryd.prog 111 = some [(37, 0)]) ∧ (isAggD (und Tryd.prog 111) = true) ∧ (okD (und Tryd.prog 111) = true) ∧ (szt Tryd.prog 111 = 1) ∧ (byt Tryd.prog 111 = 24) ∧ (zer Tryd.prog 111 = some (.agg #[(.slice none 0 0)])) ∧ (flds Tryd.prog 112 = some [(37, 0)]) ∧ (isAggD (und Tryd.prog 112) = true) ∧ (okD (und Tryd.prog 112) = true) ∧ (szt Tryd.prog 112 = 1) ∧ (byt Tryd.prog 112 = 24) ∧ (zer Tryd.prog 112 = some (.agg #[(.slice none 0 0)])) ∧ (flds Tryd.prog 114 = some [(3, 0), (9, 1)]) ∧ (isAggD (und Tryd.prog 114) = true) ∧ (okD (und Tryd.prog 114) = true) ∧ (szt Tryd.prog 114 = 2) ∧ (byt Tryd.prog 114 = 24) ∧ (zer Tryd.prog 114 = some (.agg #[(.int .i64 0), (.string ByteArray.empty)])) ∧ (flds Tryd.prog 115 = some [(3, 0), (9, 1)]) ∧ (isAggD (und Tryd.prog 115) = true) ∧ (okD (und Tryd.prog 115) = true) ∧ (cmpT Tryd.prog 115 = some [.int, .str]) ∧ (szt Tryd.prog 115 = 2) ∧ (byt Tryd.prog 115 = 24) ∧ (zer Tryd.prog 115 = some (.agg #[(.int .i64 0), (.string ByteArray.empty)])) ∧ (und Tryd.prog 116 = .slice 115) ∧ (szt Tryd.prog 116 = 1) ∧ (byt Tryd.prog 116 = 24) ∧ (zer Tryd.prog 116 = some (.slice none 0 0)) ∧ (und Tryd.prog 118 = .slice 116) ∧ (szt Tryd.prog 118 = 1) ∧ (byt Tryd.prog 118 = 24) ∧ (zer Tryd.prog 118 = some (.slice none 0 0)) ∧ (und Tryd.prog 119 = .slice 22) ∧ (szt Tryd.prog 119 = 1) ∧ (byt Tryd.prog 119 = 24) ∧ (zer Tryd.prog 119 = some (.slice none 0 0)) ∧ (und Tryd.prog 121 = .int .u64) ∧ (szt Tryd.prog 121 = 1) ∧ (byt Tryd.prog 121 = 8) ∧ (zer Tryd.prog 121 = some (.int .u64 0)) ∧ (und Tryd.prog 122 = .array 8 5) ∧ (flds Tryd.prog 122 = none) ∧ (cmpT Tryd.prog 122 = none) ∧ (gl Tryd.prog 122 = true) ∧ (szt Tryd.prog 122 = 8) ∧ (byt Tryd.prog 122 = 8) ∧ (zer Tryd.prog 122 = some (.agg (iv .u8 (zl 8)).toArray)) ∧ (und Tryd.prog 123 = .array 64 94) ∧ (flds Tryd.prog 123 = none) ∧ (cmpT Tryd.prog 123 = none) ∧ (gl Tryd.prog 123 = true) ∧ (szt Tryd.prog 123 = 64) ∧ (byt Tryd.prog 123 = 256) ∧ (zer Tryd.prog 123 = some (.agg (iv .u32 (zl 64)).toArray)) ∧ (flds Tryd.prog 131 = some [(9, 0), (39, 1)]) ∧ (isAggD (und Tryd.prog 131) = true) ∧ (okD (und Tryd.prog 131) = true) ∧ (szt Tryd.prog 131 = 2) ∧ (byt Tryd.prog 131 = 24) ∧ (zer Tryd.prog 131 = some (.agg #[(.string ByteArray.empty), (.int .i64 0)])) ∧ (flds Tryd.prog 132 = some [(9, 0), (39, 1)]) ∧ (isAggD (und Tryd.prog 132) = true) ∧ (okD (und Tryd.prog 132) = true) ∧ (cmpT Tryd.prog 132 = some [.str, .int]) ∧ (szt Tryd.prog 132 = 2) ∧ (byt Tryd.prog 132 = 24) ∧ (zer Tryd.prog 132 = some (.agg #[(.string ByteArray.empty), (.int .i64 0)])) ∧ (und Tryd.prog 135 = .pointer 5) ∧ (szt Tryd.prog 135 = 1) ∧ (byt Tryd.prog 135 = 8) ∧ (zer Tryd.prog 135 = some (.pointer none)) ∧ (und Tryd.prog 138 = .pointer 112) ∧ (szt Tryd.prog 138 = 1) ∧ (byt Tryd.prog 138 = 8) ∧ (zer Tryd.prog 138 = some (.pointer none)) ∧ (und Tryd.prog 144 = .array 64 5) ∧ (flds Tryd.prog 144 = none) ∧ (cmpT Tryd.prog 144 = none) ∧ (gl Tryd.prog 144 = true) ∧ (szt Tryd.prog 144 = 64) ∧ (byt Tryd.prog 144 = 64) ∧ (zer Tryd.prog 144 = some (.agg (iv .u8 (zl 64)).toArray)) ∧ (flds Tryd.prog 145 = some [(95, 0), (144, 8), (121, 72)]) ∧ (isAggD (und Tryd.prog 145) = true) ∧ (okD (und Tryd.prog 145) = true) ∧ (szt Tryd.prog 145 = 73) ∧ (byt Tryd.prog 145 = 104) ∧ (zer Tryd.prog 145 = some (.agg (iv .u32 (zl 8) ++ iv .u8 (zl 64) ++ [(.int .u64 0)] : List Value).toArray)) ∧ (flds Tryd.prog 146 = some [(95, 0), (144, 8), (121, 72)]) ∧ (isAggD (und Tryd.prog 146) = true) ∧ (okD (und Tryd.prog 146) = true) ∧ (szt Tryd.prog 146 = 73) ∧ (byt Tryd.prog 146 = 104) ∧ (zer Tryd.prog 146 = some (.agg (iv .u32 (zl 8) ++ iv .u8 (zl 64) ++ [(.int .u64 0)] : List Value).toArray)) ∧ (und Tryd.prog 150 = .slice 94) ∧ (szt Tryd.prog 150 = 1) ∧ (byt Tryd.prog 150 = 24) ∧ (zer Tryd.prog 150 = some (.slice none 0 0)) ∧ (und Tryd.prog 152 = .pointer 146) ∧ (szt Tryd.prog 152 = 1) ∧ (byt Tryd.prog 152 = 8) ∧ (zer Tryd.prog 152 = some (.pointer none)) ∧ (flds Tryd.prog 156 = some [(17, 0), (17, 1), (17, 2), (9, 3)]) ∧ (isAggD (und Tryd.prog 156) = true) ∧ (okD (und Tryd.prog 156) = true) ∧ (szt Tryd.prog 156 = 4) ∧ (byt Tryd.prog 156 = 40) ∧ (zer Tryd.prog 156 = some (.agg #[(.pointer none), (.pointer none), (.pointer none), (.string ByteArray.empty)])) ∧ (flds Tryd.prog 157 = some [(17, 0), (17, 1), (17, 2), (9, 3)]) ∧ (isAggD (und Tryd.prog 157) = true) ∧ (okD (und Tryd.prog 157) = true) ∧ (szt Tryd.prog 157 = 4) ∧ (byt Tryd.prog 157 = 40) ∧ (zer Tryd.prog 157 = some (.agg #[(.pointer none), (.pointer none), (.pointer none), (.string ByteArray.empty)])) ∧ (und Tryd.prog 158 = .array 0 16) ∧ (flds Tryd.prog 158 = none) ∧ (cmpT Tryd.prog 158 = none) ∧ (szt Tryd.prog 158 = 0) ∧ (byt Tryd.prog 158 = 0) ∧ (zer Tryd.prog 158 = some (.agg #[])) ∧ (flds Tryd.prog 159 = some [(158, 0)]) ∧ (isAggD (und Tryd.prog 159) = true) ∧ (okD (und Tryd.prog 159) = true) ∧ (szt Tryd.prog 159 = 0) ∧ (byt Tryd.prog 159 = 0) ∧ (zer Tryd.prog 159 = some (.agg #[])) ∧ (flds Tryd.prog 160 = some [(158, 0)]) ∧ (isAggD (und Tryd.prog 160) = true) ∧ (okD (und Tryd.prog 160) = true) ∧ (szt Tryd.prog 160 = 0) ∧ (byt Tryd.prog 160 = 0) ∧ (zer Tryd.prog 160 = some (.agg #[])) ∧ (und Tryd.prog 161 = .int .u8) ∧ (szt Tryd.prog 161 = 1) ∧ (byt Tryd.prog 161 = 1) ∧ (zer Tryd.prog 161 = some (.int .u8 0)) ∧ (und Tryd.prog 162 = .int .u8) ∧ (szt Tryd.prog 162 = 1) ∧ (byt Tryd.prog 162 = 1) ∧ (zer Tryd.prog 162 = some (.int .u8 0)) ∧ (und Tryd.prog 164 = .int .i32) ∧ (szt Tryd.prog 164 = 1) ∧ (byt Tryd.prog 164 = 4) ∧ (zer Tryd.prog 164 = some (.int .i32 0)) ∧ (und Tryd.prog 165 = .int .i32) ∧ (szt Tryd.prog 165 = 1) ∧ (byt Tryd.prog 165 = 4) ∧ (zer Tryd.prog 165 = some (.int .i32 0)) ∧ (flds Tryd.prog 166 = some [(12, 0), (12, 1), (94, 2), (161, 3), (5, 4), (5, 5), (162, 6), (163, 7), (135, 8), (164, 9), (165, 10)]) ∧ (isAggD (und Tryd.prog 166) = true) ∧ (okD (und Tryd.prog 166) = true) ∧ (szt Tryd.prog 166 = 11) ∧ (byt Tryd.prog 166 = 48) ∧ (zer Tryd.prog 166 = some (.agg #[(.int .u64 0), (.int .u64 0), (.int .u32 0), (.int .u8 0), (.int .u8 0), (.int .u8 0), (.int .u8 0), .nilFunc, (.pointer none), (.int .i32 0), (.int .i32 0)])) ∧ (flds Tryd.prog 167 = some [(12, 0), (12, 1), (94, 2), (161, 3), (5, 4), (5, 5), (162, 6), (163, 7), (135, 8), (164, 9), (165, 10)]) ∧ (isAggD (und Tryd.prog 167) = true) ∧ (okD (und Tryd.prog 167) = true) ∧ (szt Tryd.prog 167 = 11) ∧ (byt Tryd.prog 167 = 48) ∧ (zer Tryd.prog 167 = some (.agg #[(.int .u64 0), (.int .u64 0), (.int .u32 0), (.int .u8 0), (.int .u8 0), (.int .u8 0), (.int .u8 0), .nilFunc, (.pointer none), (.int .i32 0), (.int .i32 0)])) :=
  ⟨tab0, tab1, tab2, tab3, tab4, tab5, tab6, tab7, tab8, tab9, tab10, tab11, tab12, tab13, tab14, tab15, tab16, tab17, tab18, tab19, tab20, tab21, tab22, tab23, tab24, tab25, tab26, tab27, tab28, tab29, tab30, tab31, tab32, tab33, tab34, tab35, tab36, tab37, tab38, tab39, tab40, tab41, tab42, tab43, tab44, tab45, tab46, tab47, tab48, tab49, tab50, tab51, tab52, tab53, tab54, tab55, tab56, tab57, tab58, tab59, tab60, tab61, tab62, tab63, tab64, tab65, tab66, tab67, tab68, tab69, tab70, tab71, tab72, tab73, tab74, tab75, tab76, tab77, tab78, tab79, tab80, tab81, tab82, tab83, tab84, tab85, tab86, tab87, tab88, tab89, tab90, tab91, tab92, tab93, tab94, tab95, tab96, tab97, tab98, tab99, tab100, tab101, tab102, tab103, tab104, tab105, tab106, tab107, tab108, tab109, tab110, tab111, tab112, tab113, tab114, tab115, tab116, tab117, tab118, tab119, tab120, tab121, tab122, tab123, tab124, tab125, tab126, tab127, tab128, tab129, tab130, tab131, tab132, tab133, tab134, tab135, tab136, tab137, tab138, tab139, tab140, tab141, tab142, tab143, tab144, tab145, tab146, tab147, tab148, tab149, tab150, tab151, tab152, tab153, tab154, tab155, tab156, tab157, tab158, tab159, tab160, tab161, tab162, tab163, tab164, tab165, tab166, tab167, tab168, tab169, tab170, tab171, tab172, tab173, tab174, tab175, tab176, tab177, tab178, tab179, tab180, tab181, tab182, tab183, tab184, tab185, tab186, tab187, tab188, tab189, tab190, tab191, tab192, tab193, tab194, tab195, tab196, tab197, tab198, tab199, tab200, tab201, tab202, tab203, tab204, tab205, tab206, tab207, tab208, tab209, tab210, tab211, tab212, tab213, tab214, tab215, tab216, tab217, tab218, tab219, tab220, tab221, tab222, tab223, tab224, tab225, tab226, tab227, tab228, tab229, tab230, tab231, tab232, tab233, tab234, tab235, tab236, tab237, tab238, tab239, tab240, tab241, tab242, tab243, tab244, tab245, tab246, tab247, tab248, tab249, tab250, tab251, tab252, tab253, tab254, tab255, tab256, tab257, tab258, tab259, tab260, tab261, tab262, tab263, tab264, tab265, tab266, tab267, tab268, tab269, tab270, tab271, tab272, tab273, tab274, tab275, tab276, tab277, tab278, tab279, tab280, tab281, tab282, tab283, tab284, tab285, tab286, tab287, tab288, tab289, tab290, tab291, tab292, tab293, tab294, tab295, tab296, tab297, tab298, tab299, tab300, tab301, tab302, tab303, tab304, tab305, tab306, tab307, tab308, tab309, tab310, tab311, tab312, tab313, tab314, tab315, tab316, tab317, tab318, tab319, tab320, tab321, tab322, tab323, tab324, tab325, tab326, tab327, tab328, tab329, tab330, tab331, tab332, tab333, tab334, tab335, tab336, tab337, tab338, tab339, tab340, tab341, tab342, tab343, tab344, tab345, tab346, tab347, tab348, tab349, tab350, tab351, tab352, tab353, tab354, tab355, tab356, tab357, tab358, tab359, tab360, tab361, tab362, tab363, tab364, tab365, tab366, tab367, tab368, tab369, tab370, tab371, tab372, tab373, tab374, tab375, tab376, tab377, tab378, tab379, tab380, tab381, tab382, tab383, tab384, tab385, tab386, tab387, tab388, tab389, tab390, tab391, tab392, tab393, tab394, tab395, tab396, tab397, tab398, tab399, tab400, tab401, tab402, tab403, tab404, tab405, tab406, tab407, tab408, tab409, tab410, tab411, tab412, tab413, tab414, tab415, tab416, tab417, tab418, tab419, tab420, tab421, tab422, tab423, tab424, tab425, tab426, tab427, tab428, tab429, tab430, tab431, tab432, tab433, tab434, tab435, tab436, tab437, tab438, tab439, tab440, tab441, tab442, tab443, tab444⟩
end Go.Proofs.YtgamobjfeaeddaaDoor
