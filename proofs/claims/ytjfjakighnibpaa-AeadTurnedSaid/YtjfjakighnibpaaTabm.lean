/-
  The types of this program: shapes, sizes, zero values. Each by the kernel.
-/
import Derived.Test.YtjfjakighnibpaaLibB
import Derived.Test.YtjfjakighnibpaaChecked
namespace Go.Proofs.Ytjfjakighnibpaa
open Go Go.RowKit
set_option maxRecDepth 100000
theorem tab0 : und Try.prog 2 = .int .i64 := by kernel_rfl
theorem tab1 : szt Try.prog 2 = 1 := by kernel_rfl
theorem tab2 : byt Try.prog 2 = 8 := by kernel_rfl
theorem tab3 : zer Try.prog 2 = some (.int .i64 0) := by kernel_rfl
theorem tab4 : und Try.prog 3 = .int .i64 := by kernel_rfl
theorem tab5 : szt Try.prog 3 = 1 := by kernel_rfl
theorem tab6 : byt Try.prog 3 = 8 := by kernel_rfl
theorem tab7 : zer Try.prog 3 = some (.int .i64 0) := by kernel_rfl
theorem tab8 : und Try.prog 4 = .bool := by kernel_rfl
theorem tab9 : szt Try.prog 4 = 1 := by kernel_rfl
theorem tab10 : byt Try.prog 4 = 1 := by kernel_rfl
theorem tab11 : zer Try.prog 4 = some (.bool false) := by kernel_rfl
theorem tab12 : und Try.prog 5 = .int .u8 := by kernel_rfl
theorem tab13 : szt Try.prog 5 = 1 := by kernel_rfl
theorem tab14 : byt Try.prog 5 = 1 := by kernel_rfl
theorem tab15 : zer Try.prog 5 = some (.int .u8 0) := by kernel_rfl
theorem tab16 : und Try.prog 6 = .int .u8 := by kernel_rfl
theorem tab17 : szt Try.prog 6 = 1 := by kernel_rfl
theorem tab18 : byt Try.prog 6 = 1 := by kernel_rfl
theorem tab19 : zer Try.prog 6 = some (.int .u8 0) := by kernel_rfl
theorem tab20 : flds Try.prog 7 = some [(2, 0), (3, 1), (4, 2), (6, 3)] := by kernel_rfl
theorem tab21 : isAggD (und Try.prog 7) = true := by kernel_rfl
theorem tab22 : okD (und Try.prog 7) = true := by kernel_rfl
theorem tab23 : szt Try.prog 7 = 4 := by kernel_rfl
theorem tab24 : byt Try.prog 7 = 24 := by kernel_rfl
theorem tab25 : zer Try.prog 7 = some (.agg #[(.int .i64 0), (.int .i64 0), (.bool false), (.int .u8 0)]) := by kernel_rfl
theorem tab26 : flds Try.prog 8 = some [(2, 0), (3, 1), (4, 2), (6, 3)] := by kernel_rfl
theorem tab27 : isAggD (und Try.prog 8) = true := by kernel_rfl
theorem tab28 : okD (und Try.prog 8) = true := by kernel_rfl
theorem tab29 : szt Try.prog 8 = 4 := by kernel_rfl
theorem tab30 : byt Try.prog 8 = 24 := by kernel_rfl
theorem tab31 : zer Try.prog 8 = some (.agg #[(.int .i64 0), (.int .i64 0), (.bool false), (.int .u8 0)]) := by kernel_rfl
theorem tab32 : und Try.prog 9 = .string := by kernel_rfl
theorem tab33 : szt Try.prog 9 = 1 := by kernel_rfl
theorem tab34 : byt Try.prog 9 = 16 := by kernel_rfl
theorem tab35 : zer Try.prog 9 = some (.string ByteArray.empty) := by kernel_rfl
theorem tab36 : und Try.prog 10 = .string := by kernel_rfl
theorem tab37 : szt Try.prog 10 = 1 := by kernel_rfl
theorem tab38 : byt Try.prog 10 = 16 := by kernel_rfl
theorem tab39 : zer Try.prog 10 = some (.string ByteArray.empty) := by kernel_rfl
theorem tab40 : und Try.prog 11 = .string := by kernel_rfl
theorem tab41 : szt Try.prog 11 = 1 := by kernel_rfl
theorem tab42 : byt Try.prog 11 = 16 := by kernel_rfl
theorem tab43 : zer Try.prog 11 = some (.string ByteArray.empty) := by kernel_rfl
theorem tab44 : und Try.prog 12 = .int .u64 := by kernel_rfl
theorem tab45 : szt Try.prog 12 = 1 := by kernel_rfl
theorem tab46 : byt Try.prog 12 = 8 := by kernel_rfl
theorem tab47 : zer Try.prog 12 = some (.int .u64 0) := by kernel_rfl
theorem tab48 : flds Try.prog 13 = some [(9, 0), (12, 1)] := by kernel_rfl
theorem tab49 : isAggD (und Try.prog 13) = true := by kernel_rfl
theorem tab50 : okD (und Try.prog 13) = true := by kernel_rfl
theorem tab51 : szt Try.prog 13 = 2 := by kernel_rfl
theorem tab52 : byt Try.prog 13 = 24 := by kernel_rfl
theorem tab53 : zer Try.prog 13 = some (.agg #[(.string ByteArray.empty), (.int .u64 0)]) := by kernel_rfl
theorem tab54 : flds Try.prog 14 = some [(9, 0), (12, 1)] := by kernel_rfl
theorem tab55 : isAggD (und Try.prog 14) = true := by kernel_rfl
theorem tab56 : okD (und Try.prog 14) = true := by kernel_rfl
theorem tab57 : szt Try.prog 14 = 2 := by kernel_rfl
theorem tab58 : byt Try.prog 14 = 24 := by kernel_rfl
theorem tab59 : zer Try.prog 14 = some (.agg #[(.string ByteArray.empty), (.int .u64 0)]) := by kernel_rfl
theorem tab60 : und Try.prog 15 = .pointer 111 := by kernel_rfl
theorem tab61 : szt Try.prog 15 = 1 := by kernel_rfl
theorem tab62 : byt Try.prog 15 = 8 := by kernel_rfl
theorem tab63 : zer Try.prog 15 = some (.pointer none) := by kernel_rfl
theorem tab64 : und Try.prog 16 = .pointer 114 := by kernel_rfl
theorem tab65 : szt Try.prog 16 = 1 := by kernel_rfl
theorem tab66 : byt Try.prog 16 = 8 := by kernel_rfl
theorem tab67 : zer Try.prog 16 = some (.pointer none) := by kernel_rfl
theorem tab68 : und Try.prog 17 = .pointer 121 := by kernel_rfl
theorem tab69 : szt Try.prog 17 = 1 := by kernel_rfl
theorem tab70 : byt Try.prog 17 = 8 := by kernel_rfl
theorem tab71 : zer Try.prog 17 = some (.pointer none) := by kernel_rfl
theorem tab72 : flds Try.prog 18 = some [(17, 0)] := by kernel_rfl
theorem tab73 : isAggD (und Try.prog 18) = true := by kernel_rfl
theorem tab74 : okD (und Try.prog 18) = true := by kernel_rfl
theorem tab75 : szt Try.prog 18 = 1 := by kernel_rfl
theorem tab76 : byt Try.prog 18 = 8 := by kernel_rfl
theorem tab77 : zer Try.prog 18 = some (.agg #[(.pointer none)]) := by kernel_rfl
theorem tab78 : flds Try.prog 19 = some [(17, 0)] := by kernel_rfl
theorem tab79 : isAggD (und Try.prog 19) = true := by kernel_rfl
theorem tab80 : okD (und Try.prog 19) = true := by kernel_rfl
theorem tab81 : szt Try.prog 19 = 1 := by kernel_rfl
theorem tab82 : byt Try.prog 19 = 8 := by kernel_rfl
theorem tab83 : zer Try.prog 19 = some (.agg #[(.pointer none)]) := by kernel_rfl
theorem tab84 : und Try.prog 21 = .int .i32 := by kernel_rfl
theorem tab85 : szt Try.prog 21 = 1 := by kernel_rfl
theorem tab86 : byt Try.prog 21 = 4 := by kernel_rfl
theorem tab87 : zer Try.prog 21 = some (.int .i32 0) := by kernel_rfl
theorem tab88 : und Try.prog 22 = .array 32 5 := by kernel_rfl
theorem tab89 : flds Try.prog 22 = none := by kernel_rfl
theorem tab90 : gl Try.prog 22 = true := by kernel_rfl
theorem tab91 : szt Try.prog 22 = 32 := by kernel_rfl
theorem tab92 : byt Try.prog 22 = 32 := by kernel_rfl
theorem tab93 : zer Try.prog 22 = some (.agg (iv .u8 (zl 32)).toArray) := by kernel_rfl
theorem tab94 : und Try.prog 23 = .array 32 5 := by kernel_rfl
theorem tab95 : flds Try.prog 23 = none := by kernel_rfl
theorem tab96 : gl Try.prog 23 = true := by kernel_rfl
theorem tab97 : szt Try.prog 23 = 32 := by kernel_rfl
theorem tab98 : byt Try.prog 23 = 32 := by kernel_rfl
theorem tab99 : zer Try.prog 23 = some (.agg (iv .u8 (zl 32)).toArray) := by kernel_rfl
theorem tab100 : und Try.prog 24 = .slice 9 := by kernel_rfl
theorem tab101 : szt Try.prog 24 = 1 := by kernel_rfl
theorem tab102 : byt Try.prog 24 = 24 := by kernel_rfl
theorem tab103 : zer Try.prog 24 = some (.slice none 0 0) := by kernel_rfl
theorem tab104 : und Try.prog 27 = .int .i64 := by kernel_rfl
theorem tab105 : szt Try.prog 27 = 1 := by kernel_rfl
theorem tab106 : byt Try.prog 27 = 8 := by kernel_rfl
theorem tab107 : zer Try.prog 27 = some (.int .i64 0) := by kernel_rfl
theorem tab108 : und Try.prog 35 = .int .u16 := by kernel_rfl
theorem tab109 : szt Try.prog 35 = 1 := by kernel_rfl
theorem tab110 : byt Try.prog 35 = 2 := by kernel_rfl
theorem tab111 : zer Try.prog 35 = some (.int .u16 0) := by kernel_rfl
theorem tab112 : und Try.prog 38 = .slice 5 := by kernel_rfl
theorem tab113 : szt Try.prog 38 = 1 := by kernel_rfl
theorem tab114 : byt Try.prog 38 = 24 := by kernel_rfl
theorem tab115 : zer Try.prog 38 = some (.slice none 0 0) := by kernel_rfl
theorem tab116 : und Try.prog 41 = .int .u32 := by kernel_rfl
theorem tab117 : szt Try.prog 41 = 1 := by kernel_rfl
theorem tab118 : byt Try.prog 41 = 4 := by kernel_rfl
theorem tab119 : zer Try.prog 41 = some (.int .u32 0) := by kernel_rfl
theorem tab120 : und Try.prog 45 = .int .u64 := by kernel_rfl
theorem tab121 : szt Try.prog 45 = 1 := by kernel_rfl
theorem tab122 : byt Try.prog 45 = 8 := by kernel_rfl
theorem tab123 : zer Try.prog 45 = some (.int .u64 0) := by kernel_rfl
theorem tab124 : und Try.prog 46 = .array 16 41 := by kernel_rfl
theorem tab125 : flds Try.prog 46 = none := by kernel_rfl
theorem tab126 : gl Try.prog 46 = true := by kernel_rfl
theorem tab127 : szt Try.prog 46 = 16 := by kernel_rfl
theorem tab128 : byt Try.prog 46 = 64 := by kernel_rfl
theorem tab129 : zer Try.prog 46 = some (.agg (iv .u32 (zl 16)).toArray) := by kernel_rfl
theorem tab130 : und Try.prog 47 = .array 16 41 := by kernel_rfl
theorem tab131 : flds Try.prog 47 = none := by kernel_rfl
theorem tab132 : gl Try.prog 47 = true := by kernel_rfl
theorem tab133 : szt Try.prog 47 = 16 := by kernel_rfl
theorem tab134 : byt Try.prog 47 = 64 := by kernel_rfl
theorem tab135 : zer Try.prog 47 = some (.agg (iv .u32 (zl 16)).toArray) := by kernel_rfl
theorem tab136 : und Try.prog 49 = .array 64 5 := by kernel_rfl
theorem tab137 : flds Try.prog 49 = none := by kernel_rfl
theorem tab138 : gl Try.prog 49 = true := by kernel_rfl
theorem tab139 : szt Try.prog 49 = 64 := by kernel_rfl
theorem tab140 : byt Try.prog 49 = 64 := by kernel_rfl
theorem tab141 : zer Try.prog 49 = some (.agg (iv .u8 (zl 64)).toArray) := by kernel_rfl
theorem tab142 : und Try.prog 52 = .pointer 69 := by kernel_rfl
theorem tab143 : szt Try.prog 52 = 1 := by kernel_rfl
theorem tab144 : byt Try.prog 52 = 8 := by kernel_rfl
theorem tab145 : zer Try.prog 52 = some (.pointer none) := by kernel_rfl
theorem tab146 : und Try.prog 62 = .int .u64 := by kernel_rfl
theorem tab147 : szt Try.prog 62 = 1 := by kernel_rfl
theorem tab148 : byt Try.prog 62 = 8 := by kernel_rfl
theorem tab149 : zer Try.prog 62 = some (.int .u64 0) := by kernel_rfl
theorem tab150 : und Try.prog 63 = .array 5 45 := by kernel_rfl
theorem tab151 : flds Try.prog 63 = none := by kernel_rfl
theorem tab152 : gl Try.prog 63 = true := by kernel_rfl
theorem tab153 : szt Try.prog 63 = 5 := by kernel_rfl
theorem tab154 : byt Try.prog 63 = 40 := by kernel_rfl
theorem tab155 : zer Try.prog 63 = some (.agg (iv .u64 (zl 5)).toArray) := by kernel_rfl
theorem tab156 : und Try.prog 64 = .array 5 45 := by kernel_rfl
theorem tab157 : flds Try.prog 64 = none := by kernel_rfl
theorem tab158 : gl Try.prog 64 = true := by kernel_rfl
theorem tab159 : szt Try.prog 64 = 5 := by kernel_rfl
theorem tab160 : byt Try.prog 64 = 40 := by kernel_rfl
theorem tab161 : zer Try.prog 64 = some (.agg (iv .u64 (zl 5)).toArray) := by kernel_rfl
theorem tab162 : und Try.prog 67 = .array 16 5 := by kernel_rfl
theorem tab163 : flds Try.prog 67 = none := by kernel_rfl
theorem tab164 : gl Try.prog 67 = true := by kernel_rfl
theorem tab165 : szt Try.prog 67 = 16 := by kernel_rfl
theorem tab166 : byt Try.prog 67 = 16 := by kernel_rfl
theorem tab167 : zer Try.prog 67 = some (.agg (iv .u8 (zl 16)).toArray) := by kernel_rfl
theorem tab168 : flds Try.prog 68 = some [(64, 0), (64, 5), (45, 10), (45, 11), (67, 12), (3, 28)] := by kernel_rfl
theorem tab169 : isAggD (und Try.prog 68) = true := by kernel_rfl
theorem tab170 : okD (und Try.prog 68) = true := by kernel_rfl
theorem tab171 : szt Try.prog 68 = 29 := by kernel_rfl
theorem tab172 : byt Try.prog 68 = 120 := by kernel_rfl
theorem tab173 : zer Try.prog 68 = some (.agg #[(.int .u64 0), (.int .u64 0), (.int .u64 0), (.int .u64 0), (.int .u64 0), (.int .u64 0), (.int .u64 0), (.int .u64 0), (.int .u64 0), (.int .u64 0), (.int .u64 0), (.int .u64 0), (.int .u8 0), (.int .u8 0), (.int .u8 0), (.int .u8 0), (.int .u8 0), (.int .u8 0), (.int .u8 0), (.int .u8 0), (.int .u8 0), (.int .u8 0), (.int .u8 0), (.int .u8 0), (.int .u8 0), (.int .u8 0), (.int .u8 0), (.int .u8 0), (.int .i64 0)]) := by kernel_rfl
theorem tab174 : flds Try.prog 69 = some [(64, 0), (64, 5), (45, 10), (45, 11), (67, 12), (3, 28)] := by kernel_rfl
theorem tab175 : isAggD (und Try.prog 69) = true := by kernel_rfl
theorem tab176 : okD (und Try.prog 69) = true := by kernel_rfl
theorem tab177 : szt Try.prog 69 = 29 := by kernel_rfl
theorem tab178 : byt Try.prog 69 = 120 := by kernel_rfl
theorem tab179 : zer Try.prog 69 = some (.agg #[(.int .u64 0), (.int .u64 0), (.int .u64 0), (.int .u64 0), (.int .u64 0), (.int .u64 0), (.int .u64 0), (.int .u64 0), (.int .u64 0), (.int .u64 0), (.int .u64 0), (.int .u64 0), (.int .u8 0), (.int .u8 0), (.int .u8 0), (.int .u8 0), (.int .u8 0), (.int .u8 0), (.int .u8 0), (.int .u8 0), (.int .u8 0), (.int .u8 0), (.int .u8 0), (.int .u8 0), (.int .u8 0), (.int .u8 0), (.int .u8 0), (.int .u8 0), (.int .i64 0)]) := by kernel_rfl
theorem tab180 : und Try.prog 72 = .array 8 5 := by kernel_rfl
theorem tab181 : flds Try.prog 72 = none := by kernel_rfl
theorem tab182 : gl Try.prog 72 = true := by kernel_rfl
theorem tab183 : szt Try.prog 72 = 8 := by kernel_rfl
theorem tab184 : byt Try.prog 72 = 8 := by kernel_rfl
theorem tab185 : zer Try.prog 72 = some (.agg (iv .u8 (zl 8)).toArray) := by kernel_rfl
theorem tab186 : und Try.prog 78 = .array 4 3 := by kernel_rfl
theorem tab187 : flds Try.prog 78 = none := by kernel_rfl
theorem tab188 : gl Try.prog 78 = true := by kernel_rfl
theorem tab189 : szt Try.prog 78 = 4 := by kernel_rfl
theorem tab190 : byt Try.prog 78 = 32 := by kernel_rfl
theorem tab191 : zer Try.prog 78 = some (.agg (iv .i64 (zl 4)).toArray) := by kernel_rfl
theorem tab192 : und Try.prog 79 = .array 8 78 := by kernel_rfl
theorem tab193 : flds Try.prog 79 = none := by kernel_rfl
theorem tab194 : szt Try.prog 79 = 32 := by kernel_rfl
theorem tab195 : byt Try.prog 79 = 256 := by kernel_rfl
theorem tab196 : zer Try.prog 79 = some (.agg (iv .i64 (zl 32)).toArray) := by kernel_rfl
theorem tab197 : und Try.prog 83 = .slice 45 := by kernel_rfl
theorem tab198 : szt Try.prog 83 = 1 := by kernel_rfl
theorem tab199 : byt Try.prog 83 = 24 := by kernel_rfl
theorem tab200 : zer Try.prog 83 = some (.slice none 0 0) := by kernel_rfl
theorem tab201 : und Try.prog 87 = .pointer 47 := by kernel_rfl
theorem tab202 : szt Try.prog 87 = 1 := by kernel_rfl
theorem tab203 : byt Try.prog 87 = 8 := by kernel_rfl
theorem tab204 : zer Try.prog 87 = some (.pointer none) := by kernel_rfl
theorem tab205 : und Try.prog 90 = .pointer 92 := by kernel_rfl
theorem tab206 : szt Try.prog 90 = 1 := by kernel_rfl
theorem tab207 : byt Try.prog 90 = 8 := by kernel_rfl
theorem tab208 : zer Try.prog 90 = some (.pointer none) := by kernel_rfl
theorem tab209 : flds Try.prog 91 = some [(90, 0), (38, 1)] := by kernel_rfl
theorem tab210 : isAggD (und Try.prog 91) = true := by kernel_rfl
theorem tab211 : okD (und Try.prog 91) = true := by kernel_rfl
theorem tab212 : szt Try.prog 91 = 2 := by kernel_rfl
theorem tab213 : byt Try.prog 91 = 32 := by kernel_rfl
theorem tab214 : zer Try.prog 91 = some (.agg #[(.pointer none), (.slice none 0 0)]) := by kernel_rfl
theorem tab215 : flds Try.prog 92 = some [(90, 0), (38, 1)] := by kernel_rfl
theorem tab216 : isAggD (und Try.prog 92) = true := by kernel_rfl
theorem tab217 : okD (und Try.prog 92) = true := by kernel_rfl
theorem tab218 : szt Try.prog 92 = 2 := by kernel_rfl
theorem tab219 : byt Try.prog 92 = 32 := by kernel_rfl
theorem tab220 : zer Try.prog 92 = some (.agg #[(.pointer none), (.slice none 0 0)]) := by kernel_rfl
theorem tab221 : und Try.prog 106 = .pointer 5 := by kernel_rfl
theorem tab222 : szt Try.prog 106 = 1 := by kernel_rfl
theorem tab223 : byt Try.prog 106 = 8 := by kernel_rfl
theorem tab224 : zer Try.prog 106 = some (.pointer none) := by kernel_rfl
theorem tab225 : flds Try.prog 110 = some [(17, 0), (17, 1), (17, 2), (9, 3)] := by kernel_rfl
theorem tab226 : isAggD (und Try.prog 110) = true := by kernel_rfl
theorem tab227 : okD (und Try.prog 110) = true := by kernel_rfl
theorem tab228 : szt Try.prog 110 = 4 := by kernel_rfl
theorem tab229 : byt Try.prog 110 = 40 := by kernel_rfl
theorem tab230 : zer Try.prog 110 = some (.agg #[(.pointer none), (.pointer none), (.pointer none), (.string ByteArray.empty)]) := by kernel_rfl
theorem tab231 : flds Try.prog 111 = some [(17, 0), (17, 1), (17, 2), (9, 3)] := by kernel_rfl
theorem tab232 : isAggD (und Try.prog 111) = true := by kernel_rfl
theorem tab233 : okD (und Try.prog 111) = true := by kernel_rfl
theorem tab234 : szt Try.prog 111 = 4 := by kernel_rfl
theorem tab235 : byt Try.prog 111 = 40 := by kernel_rfl
theorem tab236 : zer Try.prog 111 = some (.agg #[(.pointer none), (.pointer none), (.pointer none), (.string ByteArray.empty)]) := by kernel_rfl
theorem tab237 : und Try.prog 112 = .array 0 16 := by kernel_rfl
theorem tab238 : flds Try.prog 112 = none := by kernel_rfl
theorem tab239 : szt Try.prog 112 = 0 := by kernel_rfl
theorem tab240 : byt Try.prog 112 = 0 := by kernel_rfl
theorem tab241 : zer Try.prog 112 = some (.agg #[]) := by kernel_rfl
theorem tab242 : flds Try.prog 113 = some [(112, 0)] := by kernel_rfl
theorem tab243 : isAggD (und Try.prog 113) = true := by kernel_rfl
theorem tab244 : okD (und Try.prog 113) = true := by kernel_rfl
theorem tab245 : szt Try.prog 113 = 0 := by kernel_rfl
theorem tab246 : byt Try.prog 113 = 0 := by kernel_rfl
theorem tab247 : zer Try.prog 113 = some (.agg #[]) := by kernel_rfl
theorem tab248 : flds Try.prog 114 = some [(112, 0)] := by kernel_rfl
theorem tab249 : isAggD (und Try.prog 114) = true := by kernel_rfl
theorem tab250 : okD (und Try.prog 114) = true := by kernel_rfl
theorem tab251 : szt Try.prog 114 = 0 := by kernel_rfl
theorem tab252 : byt Try.prog 114 = 0 := by kernel_rfl
theorem tab253 : zer Try.prog 114 = some (.agg #[]) := by kernel_rfl
theorem tab254 : und Try.prog 115 = .int .u8 := by kernel_rfl
theorem tab255 : szt Try.prog 115 = 1 := by kernel_rfl
theorem tab256 : byt Try.prog 115 = 1 := by kernel_rfl
theorem tab257 : zer Try.prog 115 = some (.int .u8 0) := by kernel_rfl
theorem tab258 : und Try.prog 116 = .int .u8 := by kernel_rfl
theorem tab259 : szt Try.prog 116 = 1 := by kernel_rfl
theorem tab260 : byt Try.prog 116 = 1 := by kernel_rfl
theorem tab261 : zer Try.prog 116 = some (.int .u8 0) := by kernel_rfl
theorem tab262 : und Try.prog 118 = .int .i32 := by kernel_rfl
theorem tab263 : szt Try.prog 118 = 1 := by kernel_rfl
theorem tab264 : byt Try.prog 118 = 4 := by kernel_rfl
theorem tab265 : zer Try.prog 118 = some (.int .i32 0) := by kernel_rfl
theorem tab266 : und Try.prog 119 = .int .i32 := by kernel_rfl
theorem tab267 : szt Try.prog 119 = 1 := by kernel_rfl
theorem tab268 : byt Try.prog 119 = 4 := by kernel_rfl
theorem tab269 : zer Try.prog 119 = some (.int .i32 0) := by kernel_rfl
theorem tab270 : flds Try.prog 120 = some [(12, 0), (12, 1), (41, 2), (115, 3), (5, 4), (5, 5), (116, 6), (117, 7), (106, 8), (118, 9), (119, 10)] := by kernel_rfl
theorem tab271 : isAggD (und Try.prog 120) = true := by kernel_rfl
theorem tab272 : okD (und Try.prog 120) = true := by kernel_rfl
theorem tab273 : szt Try.prog 120 = 11 := by kernel_rfl
theorem tab274 : byt Try.prog 120 = 48 := by kernel_rfl
theorem tab275 : zer Try.prog 120 = some (.agg #[(.int .u64 0), (.int .u64 0), (.int .u32 0), (.int .u8 0), (.int .u8 0), (.int .u8 0), (.int .u8 0), .nilFunc, (.pointer none), (.int .i32 0), (.int .i32 0)]) := by kernel_rfl
theorem tab276 : flds Try.prog 121 = some [(12, 0), (12, 1), (41, 2), (115, 3), (5, 4), (5, 5), (116, 6), (117, 7), (106, 8), (118, 9), (119, 10)] := by kernel_rfl
theorem tab277 : isAggD (und Try.prog 121) = true := by kernel_rfl
theorem tab278 : okD (und Try.prog 121) = true := by kernel_rfl
theorem tab279 : szt Try.prog 121 = 11 := by kernel_rfl
theorem tab280 : byt Try.prog 121 = 48 := by kernel_rfl
theorem tab281 : zer Try.prog 121 = some (.agg #[(.int .u64 0), (.int .u64 0), (.int .u32 0), (.int .u8 0), (.int .u8 0), (.int .u8 0), (.int .u8 0), .nilFunc, (.pointer none), (.int .i32 0), (.int .i32 0)]) := by kernel_rfl
theorem tab : (und Try.prog 2 = .int .i64) ∧ (szt Try.prog 2 = 1) ∧ (byt Try.prog 2 = 8) ∧ (zer Try.prog 2 = some (.int .i64 0)) ∧ (und Try.prog 3 = .int .i64) ∧ (szt Try.prog 3 = 1) ∧ (byt Try.prog 3 = 8) ∧ (zer Try.prog 3 = some (.int .i64 0)) ∧ (und Try.prog 4 = .bool) ∧ (szt Try.prog 4 = 1) ∧ (byt Try.prog 4 = 1) ∧ (zer Try.prog 4 = some (.bool false)) ∧ (und Try.prog 5 = .int .u8) ∧ (szt Try.prog 5 = 1) ∧ (byt Try.prog 5 = 1) ∧ (zer Try.prog 5 = some (.int .u8 0)) ∧ (und Try.prog 6 = .int .u8) ∧ (szt Try.prog 6 = 1) ∧ (byt Try.prog 6 = 1) ∧ (zer Try.prog 6 = some (.int .u8 0)) ∧ (flds Try.prog 7 = some [(2, 0), (3, 1), (4, 2), (6, 3)]) ∧ (isAggD (und Try.prog 7) = true) ∧ (okD (und Try.prog 7) = true) ∧ (szt Try.prog 7 = 4) ∧ (byt Try.prog 7 = 24) ∧ (zer Try.prog 7 = some (.agg #[(.int .i64 0), (.int .i64 0), (.bool false), (.int .u8 0)])) ∧ (flds Try.prog 8 = some [(2, 0), (3, 1), (4, 2), (6, 3)]) ∧ (isAggD (und Try.prog 8) = true) ∧ (okD (und Try.prog 8) = true) ∧ (szt Try.prog 8 = 4) ∧ (byt Try.prog 8 = 24) ∧ (zer Try.prog 8 = some (.agg #[(.int .i64 0), (.int .i64 0), (.bool false), (.int .u8 0)])) ∧ (und Try.prog 9 = .string) ∧ (szt Try.prog 9 = 1) ∧ (byt Try.prog 9 = 16) ∧ (zer Try.prog 9 = some (.string ByteArray.empty)) ∧ (und Try.prog 10 = .string) ∧ (szt Try.prog 10 = 1) ∧ (byt Try.prog 10 = 16) ∧ (zer Try.prog 10 = some (.string ByteArray.empty)) ∧ (und Try.prog 11 = .string) ∧ (szt Try.prog 11 = 1) ∧ (byt Try.prog 11 = 16) ∧ (zer Try.prog 11 = some (.string ByteArray.empty)) ∧ (und Try.prog 12 = .int .u64) ∧ (szt Try.prog 12 = 1) ∧ (byt Try.prog 12 = 8) ∧ (zer Try.prog 12 = some (.int .u64 0)) ∧ (flds Try.prog 13 = some [(9, 0), (12, 1)]) ∧ (isAggD (und Try.prog 13) = true) ∧ (okD (und Try.prog 13) = true) ∧ (szt Try.prog 13 = 2) ∧ (byt Try.prog 13 = 24) ∧ (zer Try.prog 13 = some (.agg #[(.string ByteArray.empty), (.int .u64 0)])) ∧ (flds Try.prog 14 = some [(9, 0), (12, 1)]) ∧ (isAggD (und Try.prog 14) = true) ∧ (okD (und Try.prog 14) = true) ∧ (szt Try.prog 14 = 2) ∧ (byt Try.prog 14 = 24) ∧ (zer Try.prog 14 = some (.agg #[(.string ByteArray.empty), (.int .u64 0)])) ∧ (und Try.prog 15 = .pointer 111) ∧ (szt Try.prog 15 = 1) ∧ (byt Try.prog 15 = 8) ∧ (zer Try.prog 15 = some (.pointer none)) ∧ (und Try.prog 16 = .pointer 114) ∧ (szt Try.prog 16 = 1) ∧ (byt Try.prog 16 = 8) ∧ (zer Try.prog 16 = some (.pointer none)) ∧ (und Try.prog 17 = .pointer 121) ∧ (szt Try.prog 17 = 1) ∧ (byt Try.prog 17 = 8) ∧ (zer Try.prog 17 = some (.pointer none)) ∧ (flds Try.prog 18 = some [(17, 0)]) ∧ (isAggD (und Try.prog 18) = true) ∧ (okD (und Try.prog 18) = true) ∧ (szt Try.prog 18 = 1) ∧ (byt Try.prog 18 = 8) ∧ (zer Try.prog 18 = some (.agg #[(.pointer none)])) ∧ (flds Try.prog 19 = some [(17, 0)]) ∧ (isAggD (und Try.prog 19) = true) ∧ (okD (und Try.prog 19) = true) ∧ (szt Try.prog 19 = 1) ∧ (byt Try.prog 19 = 8) ∧ (zer Try.prog 19 = some (.agg #[(.pointer none)])) ∧ (und Try.prog 21 = .int .i32) ∧ (szt Try.prog 21 = 1) ∧ (byt Try.prog 21 = 4) ∧ (zer Try.prog 21 = some (.int .i32 0)) ∧ (und Try.prog 22 = .array 32 5) ∧ (flds Try.prog 22 = none) ∧ (gl Try.prog 22 = true) ∧ (szt Try.prog 22 = 32) ∧ (byt Try.prog 22 = 32) ∧ (zer Try.prog 22 = some (.agg (iv .u8 (zl 32)).toArray)) ∧ (und Try.prog 23 = .array 32 5) ∧ (flds Try.prog 23 = none) ∧ (gl Try.prog 23 = true) ∧ (szt Try.prog 23 = 32) ∧ (byt Try.prog 23 = 32) ∧ (zer Try.prog 23 = some (.agg (iv .u8 (zl 32)).toArray)) ∧ (und Try.prog 24 = .slice 9) ∧ (szt Try.prog 24 = 1) ∧ (byt Try.prog 24 = 24) ∧ (zer Try.prog 24 = some (.slice none 0 0)) ∧ (und Try.prog 27 = .int .i64) ∧ (szt Try.prog 27 = 1) ∧ (byt Try.prog 27 = 8) ∧ (zer Try.prog 27 = some (.int .i64 0)) ∧ (und Try.prog 35 = .int .u16) ∧ (szt Try.prog 35 = 1) ∧ (byt Try.prog 35 = 2) ∧ (zer Try.prog 35 = some (.int .u16 0)) ∧ (und Try.prog 38 = .slice 5) ∧ (szt Try.prog 38 = 1) ∧ (byt Try.prog 38 = 24) ∧ (zer Try.prog 38 = some (.slice none 0 0)) ∧ (und Try.prog 41 = .int .u32) ∧ (szt Try.prog 41 = 1) ∧ (byt Try.prog 41 = 4) ∧ (zer Try.prog 41 = some (.int .u32 0)) ∧ (und Try.prog 45 = .int .u64) ∧ (szt Try.prog 45 = 1) ∧ (byt Try.prog 45 = 8) ∧ (zer Try.prog 45 = some (.int .u64 0)) ∧ (und Try.prog 46 = .array 16 41) ∧ (flds Try.prog 46 = none) ∧ (gl Try.prog 46 = true) ∧ (szt Try.prog 46 = 16) ∧ (byt Try.prog 46 = 64) ∧ (zer Try.prog 46 = some (.agg (iv .u32 (zl 16)).toArray)) ∧ (und Try.prog 47 = .array 16 41) ∧ (flds Try.prog 47 = none) ∧ (gl Try.prog 47 = true) ∧ (szt Try.prog 47 = 16) ∧ (byt Try.prog 47 = 64) ∧ (zer Try.prog 47 = some (.agg (iv .u32 (zl 16)).toArray)) ∧ (und Try.prog 49 = .array 64 5) ∧ (flds Try.prog 49 = none) ∧ (gl Try.prog 49 = true) ∧ (szt Try.prog 49 = 64) ∧ (byt Try.prog 49 = 64) ∧ (zer Try.prog 49 = some (.agg (iv .u8 (zl 64)).toArray)) ∧ (und Try.prog 52 = .pointer 69) ∧ (szt Try.prog 52 = 1) ∧ (byt Try.prog 52 = 8) ∧ (zer Try.prog 52 = some (.pointer none)) ∧ (und Try.prog 62 = .int .u64) ∧ (szt Try.prog 62 = 1) ∧ (byt Try.prog 62 = 8) ∧ (zer Try.prog 62 = some (.int .u64 0)) ∧ (und Try.prog 63 = .array 5 45) ∧ (flds Try.prog 63 = none) ∧ (gl Try.prog 63 = true) ∧ (szt Try.prog 63 = 5) ∧ (byt Try.prog 63 = 40) ∧ (zer Try.prog 63 = some (.agg (iv .u64 (zl 5)).toArray)) ∧ (und Try.prog 64 = .array 5 45) ∧ (flds Try.prog 64 = none) ∧ (gl Try.prog 64 = true) ∧ (szt Try.prog 64 = 5) ∧ (byt Try.prog 64 = 40) ∧ (zer Try.prog 64 = some (.agg (iv .u64 (zl 5)).toArray)) ∧ (und Try.prog 67 = .array 16 5) ∧ (flds Try.prog 67 = none) ∧ (gl Try.prog 67 = true) ∧ (szt Try.prog 67 = 16) ∧ (byt Try.prog 67 = 16) ∧ (zer Try.prog 67 = some (.agg (iv .u8 (zl 16)).toArray)) ∧ (flds Try.prog 68 = some [(64, 0), (64, 5), (45, 10), (45, 11), (67, 12), (3, 28)]) ∧ (isAggD (und Try.prog 68) = true) ∧ (okD (und Try.prog 68) = true) ∧ (szt Try.prog 68 = 29) ∧ (byt Try.prog 68 = 120) ∧ (zer Try.prog 68 = some (.agg #[(.int .u64 0), (.int .u64 0), (.int .u64 0), (.int .u64 0), (.int .u64 0), (.int .u64 0), (.int .u64 0), (.int .u64 0), (.int .u64 0), (.int .u64 0), (.int .u64 0), (.int .u64 0), (.int .u8 0), (.int .u8 0), (.int .u8 0), (.int .u8 0), (.int .u8 0), (.int .u8 0), (.int .u8 0), (.int .u8 0), (.int .u8 0), (.int .u8 0), (.int .u8 0), (.int .u8 0), (.int .u8 0), (.int .u8 0), (.int .u8 0), (.int .u8 0), (.int .i64 0)])) ∧ (flds Try.prog 69 = some [(64, 0), (64, 5), (45, 10), (45, 11), (67, 12), (3, 28)]) ∧ (isAggD (und Try.prog 69) = true) ∧ (okD (und Try.prog 69) = true) ∧ (szt Try.prog 69 = 29) ∧ (byt Try.prog 69 = 120) ∧ (zer Try.prog 69 = some (.agg #[(.int .u64 0), (.int .u64 0), (.int .u64 0), (.int .u64 0), (.int .u64 0), (.int .u64 0), (.int .u64 0), (.int .u64 0), (.int .u64 0), (.int .u64 0), (.int .u64 0), (.int .u64 0), (.int .u8 0), (.int .u8 0), (.int .u8 0), (.int .u8 0), (.int .u8 0), (.int .u8 0), (.int .u8 0), (.int .u8 0), (.int .u8 0), (.int .u8 0), (.int .u8 0), (.int .u8 0), (.int .u8 0), (.int .u8 0), (.int .u8 0), (.int .u8 0), (.int .i64 0)])) ∧ (und Try.prog 72 = .array 8 5) ∧ (flds Try.prog 72 = none) ∧ (gl Try.prog 72 = true) ∧ (szt Try.prog 72 = 8) ∧ (byt Try.prog 72 = 8) ∧ (zer Try.prog 72 = some (.agg (iv .u8 (zl 8)).toArray)) ∧ (und Try.prog 78 = .array 4 3) ∧ (flds Try.prog 78 = none) ∧ (gl Try.prog 78 = true) ∧ (szt Try.prog 78 = 4) ∧ (byt Try.prog 78 = 32) ∧ (zer Try.prog 78 = some (.agg (iv .i64 (zl 4)).toArray)) ∧ (und Try.prog 79 = .array 8 78) ∧ (flds Try.prog 79 = none) ∧ (szt Try.prog 79 = 32) ∧ (byt Try.prog 79 = 256) ∧ (zer Try.prog 79 = some (.agg (iv .i64 (zl 32)).toArray)) ∧ (und Try.prog 83 = .slice 45) ∧ (szt Try.prog 83 = 1) ∧ (byt Try.prog 83 = 24) ∧ (zer Try.prog 83 = some (.slice none 0 0)) ∧ (und Try.prog 87 = .pointer 47) ∧ (szt Try.prog 87 = 1) ∧ (byt Try.prog 87 = 8) ∧ (zer Try.prog 87 = some (.pointer none)) ∧ (und Try.prog 90 = .pointer 92) ∧ (szt Try.prog 90 = 1) ∧ (byt Try.prog 90 = 8) ∧ (zer Try.prog 90 = some (.pointer none)) ∧ (flds Try.prog 91 = some [(90, 0), (38, 1)]) ∧ (isAggD (und Try.prog 91) = true) ∧ (okD (und Try.prog 91) = true) ∧ (szt Try.prog 91 = 2) ∧ (byt Try.prog 91 = 32) ∧ (zer Try.prog 91 = some (.agg #[(.pointer none), (.slice none 0 0)])) ∧ (flds Try.prog 92 = some [(90, 0), (38, 1)]) ∧ (isAggD (und Try.prog 92) = true) ∧ (okD (und Try.prog 92) = true) ∧ (szt Try.prog 92 = 2) ∧ (byt Try.prog 92 = 32) ∧ (zer Try.prog 92 = some (.agg #[(.pointer none), (.slice none 0 0)])) ∧ (und Try.prog 106 = .pointer 5) ∧ (szt Try.prog 106 = 1) ∧ (byt Try.prog 106 = 8) ∧ (zer Try.prog 106 = some (.pointer none)) ∧ (flds Try.prog 110 = some [(17, 0), (17, 1), (17, 2), (9, 3)]) ∧ (isAggD (und Try.prog 110) = true) ∧ (okD (und Try.prog 110) = true) ∧ (szt Try.prog 110 = 4) ∧ (byt Try.prog 110 = 40) ∧ (zer Try.prog 110 = some (.agg #[(.pointer none), (.pointer none), (.pointer none), (.string ByteArray.empty)])) ∧ (flds Try.prog 111 = some [(17, 0), (17, 1), (17, 2), (9, 3)]) ∧ (isAggD (und Try.prog 111) = true) ∧ (okD (und Try.prog 111) = true) ∧ (szt Try.prog 111 = 4) ∧ (byt Try.prog 111 = 40) ∧ (zer Try.prog 111 = some (.agg #[(.pointer none), (.pointer none), (.pointer none), (.string ByteArray.empty)])) ∧ (und Try.prog 112 = .array 0 16) ∧ (flds Try.prog 112 = none) ∧ (szt Try.prog 112 = 0) ∧ (byt Try.prog 112 = 0) ∧ (zer Try.prog 112 = some (.agg #[])) ∧ (flds Try.prog 113 = some [(112, 0)]) ∧ (isAggD (und Try.prog 113) = true) ∧ (okD (und Try.prog 113) = true) ∧ (szt Try.prog 113 = 0) ∧ (byt Try.prog 113 = 0) ∧ (zer Try.prog 113 = some (.agg #[])) ∧ (flds Try.prog 114 = some [(112, 0)]) ∧ (isAggD (und Try.prog 114) = true) ∧ (okD (und Try.prog 114) = true) ∧ (szt Try.prog 114 = 0) ∧ (byt Try.prog 114 = 0) ∧ (zer Try.prog 114 = some (.agg #[])) ∧ (und Try.prog 115 = .int .u8) ∧ (szt Try.prog 115 = 1) ∧ (byt Try.prog 115 = 1) ∧ (zer Try.prog 115 = some (.int .u8 0)) ∧ (und Try.prog 116 = .int .u8) ∧ (szt Try.prog 116 = 1) ∧ (byt Try.prog 116 = 1) ∧ (zer Try.prog 116 = some (.int .u8 0)) ∧ (und Try.prog 118 = .int .i32) ∧ (szt Try.prog 118 = 1) ∧ (byt Try.prog 118 = 4) ∧ (zer Try.prog 118 = some (.int .i32 0)) ∧ (und Try.prog 119 = .int .i32) ∧ (szt Try.prog 119 = 1) ∧ (byt Try.prog 119 = 4) ∧ (zer Try.prog 119 = some (.int .i32 0)) ∧ (flds Try.prog 120 = some [(12, 0), (12, 1), (41, 2), (115, 3), (5, 4), (5, 5), (116, 6), (117, 7), (106, 8), (118, 9), (119, 10)]) ∧ (isAggD (und Try.prog 120) = true) ∧ (okD (und Try.prog 120) = true) ∧ (szt Try.prog 120 = 11) ∧ (byt Try.prog 120 = 48) ∧ (zer Try.prog 120 = some (.agg #[(.int .u64 0), (.int .u64 0), (.int .u32 0), (.int .u8 0), (.int .u8 0), (.int .u8 0), (.int .u8 0), .nilFunc, (.pointer none), (.int .i32 0), (.int .i32 0)])) ∧ (flds Try.prog 121 = some [(12, 0), (12, 1), (41, 2), (115, 3), (5, 4), (5, 5), (116, 6), (117, 7), (106, 8), (118, 9), (119, 10)]) ∧ (isAggD (und Try.prog 121) = true) ∧ (okD (und Try.prog 121) = true) ∧ (szt Try.prog 121 = 11) ∧ (byt Try.prog 121 = 48) ∧ (zer Try.prog 121 = some (.agg #[(.int .u64 0), (.int .u64 0), (.int .u32 0), (.int .u8 0), (.int .u8 0), (.int .u8 0), (.int .u8 0), .nilFunc, (.pointer none), (.int .i32 0), (.int .i32 0)])) :=
  ⟨tab0, tab1, tab2, tab3, tab4, tab5, tab6, tab7, tab8, tab9, tab10, tab11, tab12, tab13, tab14, tab15, tab16, tab17, tab18, tab19, tab20, tab21, tab22, tab23, tab24, tab25, tab26, tab27, tab28, tab29, tab30, tab31, tab32, tab33, tab34, tab35, tab36, tab37, tab38, tab39, tab40, tab41, tab42, tab43, tab44, tab45, tab46, tab47, tab48, tab49, tab50, tab51, tab52, tab53, tab54, tab55, tab56, tab57, tab58, tab59, tab60, tab61, tab62, tab63, tab64, tab65, tab66, tab67, tab68, tab69, tab70, tab71, tab72, tab73, tab74, tab75, tab76, tab77, tab78, tab79, tab80, tab81, tab82, tab83, tab84, tab85, tab86, tab87, tab88, tab89, tab90, tab91, tab92, tab93, tab94, tab95, tab96, tab97, tab98, tab99, tab100, tab101, tab102, tab103, tab104, tab105, tab106, tab107, tab108, tab109, tab110, tab111, tab112, tab113, tab114, tab115, tab116, tab117, tab118, tab119, tab120, tab121, tab122, tab123, tab124, tab125, tab126, tab127, tab128, tab129, tab130, tab131, tab132, tab133, tab134, tab135, tab136, tab137, tab138, tab139, tab140, tab141, tab142, tab143, tab144, tab145, tab146, tab147, tab148, tab149, tab150, tab151, tab152, tab153, tab154, tab155, tab156, tab157, tab158, tab159, tab160, tab161, tab162, tab163, tab164, tab165, tab166, tab167, tab168, tab169, tab170, tab171, tab172, tab173, tab174, tab175, tab176, tab177, tab178, tab179, tab180, tab181, tab182, tab183, tab184, tab185, tab186, tab187, tab188, tab189, tab190, tab191, tab192, tab193, tab194, tab195, tab196, tab197, tab198, tab199, tab200, tab201, tab202, tab203, tab204, tab205, tab206, tab207, tab208, tab209, tab210, tab211, tab212, tab213, tab214, tab215, tab216, tab217, tab218, tab219, tab220, tab221, tab222, tab223, tab224, tab225, tab226, tab227, tab228, tab229, tab230, tab231, tab232, tab233, tab234, tab235, tab236, tab237, tab238, tab239, tab240, tab241, tab242, tab243, tab244, tab245, tab246, tab247, tab248, tab249, tab250, tab251, tab252, tab253, tab254, tab255, tab256, tab257, tab258, tab259, tab260, tab261, tab262, tab263, tab264, tab265, tab266, tab267, tab268, tab269, tab270, tab271, tab272, tab273, tab274, tab275, tab276, tab277, tab278, tab279, tab280, tab281⟩
end Go.Proofs.Ytjfjakighnibpaa
