import Derived.Shelf.Strings.Builder1
import Derived.Shelf.Strings.Builder2
import Derived.Shelf.Strings.OnBuilder
import Derived.Shelf.Small.Utf8
import Derived.Shelf.Strings.BuilderF
import Derived.Shelf.Strings.BuilderK
import Derived.Shelf.Strings.BuilderRune
import Derived.Shelf.Utf8.AppendRune
import Derived.Shelf.Utf8.AppendRunePlain
import Derived.Shelf.Strconv.Itoa0
import Derived.Shelf.Strconv.Itoa1
import Derived.Shelf.LaysM
import Derived.Shelf.Strconv.Itoa2
import Derived.Shelf.Strconv.Itoa3
import Derived.Shelf.Strconv.Itoa4
import Derived.Shelf.Bits.Mul64
import Derived.Test.YtemicfjmidohfaaGreatDoorProg
namespace Go.Proofs
open Go.Shelf
def Tryz.lays169_ren : Go.Shelf.Ren := ⟨fun | 169 => 224 | n => n, fun | 70 => 329 | 9 => 9 | 0 => 0 | 72 => 331 | 37 => 258 | 127 => 373 | 3 => 3 | 5 => 5 | n => n, fun | n => n⟩
theorem Tryz.lays169 : Go.Proofs.Lays.n169 Tryz.prog Tryz.lays169_ren := {
 mixed := by kernel_rfl
 f169 := Tryz.func224.trans (congrArg some (by kernel_rfl))
 t0 := Tryz.underlying0
 a0 := Tryz.isAgg0
 z0 := Tryz.sizeOf0
 v0 := Tryz.zeroValue0
 t3 := Tryz.underlying3
 a3 := Tryz.isAgg3
 z3 := Tryz.sizeOf3
 v3 := Tryz.zeroValue3
 t9 := Tryz.underlying9
 a9 := Tryz.isAgg9
 z9 := Tryz.sizeOf9
 v9 := Tryz.zeroValue9
 t37 := Tryz.underlying258
 a37 := Tryz.isAgg258
 z37 := Tryz.sizeOf258
 v37 := Tryz.zeroValue258
 t70 := Tryz.underlying329
 a70 := Tryz.isAgg329
 z70 := Tryz.sizeOf329
 v70 := Tryz.zeroValue329
 t72 := Tryz.underlying331
 a72 := Tryz.isAgg331
 z72 := Tryz.sizeOf331
 v72 := Tryz.zeroValue331
 t127 := Tryz.underlying373
 a127 := Tryz.isAgg373
 z127 := Tryz.sizeOf373
 v127 := Tryz.zeroValue373 }
theorem Tryz.Builder_Extra_169 : Builder.Extra Tryz.prog Tryz.lays169_ren := {
 sizeBuilder := by kernel_rfl
 liesBuilder := by kernel_rfl
 t5 := Tryz.underlying5
 a5 := Tryz.isAgg5
 z5 := Tryz.sizeOf5
 v5 := Tryz.zeroValue5
 infoByte := by kernel_rfl
 cellsByte := by kernel_rfl
 sizeByte := by kernel_rfl
 neB5 := by decide }
def Tryz.lays165_ren : Go.Shelf.Ren := ⟨fun | 165 => 221 | 240 => 249 | 241 => 250 | 276 => 272 | 277 => 273 | n => n, fun | 70 => 329 | 3 => 3 | 0 => 0 | 4 => 4 | 9 => 9 | 20 => 20 | 72 => 331 | 37 => 258 | 164 => 387 | 5 => 5 | n => n, fun | n => n⟩
theorem Tryz.lays165 : Go.Proofs.Lays.n165 Tryz.prog Tryz.lays165_ren := {
 mixed := by kernel_rfl
 f165 := Tryz.func221.trans (congrArg some (by kernel_rfl))
 f240 := Tryz.func249.trans (congrArg some (by kernel_rfl))
 f241 := Tryz.func250.trans (congrArg some (by kernel_rfl))
 f276 := Tryz.func272.trans (congrArg some (by kernel_rfl))
 f277 := Tryz.func273.trans (congrArg some (by kernel_rfl))
 t0 := Tryz.underlying0
 a0 := Tryz.isAgg0
 z0 := Tryz.sizeOf0
 v0 := Tryz.zeroValue0
 t3 := Tryz.underlying3
 a3 := Tryz.isAgg3
 z3 := Tryz.sizeOf3
 v3 := Tryz.zeroValue3
 t4 := Tryz.underlying4
 a4 := Tryz.isAgg4
 z4 := Tryz.sizeOf4
 v4 := Tryz.zeroValue4
 t9 := Tryz.underlying9
 a9 := Tryz.isAgg9
 z9 := Tryz.sizeOf9
 v9 := Tryz.zeroValue9
 t20 := Tryz.underlying20
 a20 := Tryz.isAgg20
 z20 := Tryz.sizeOf20
 v20 := Tryz.zeroValue20
 t37 := Tryz.underlying258
 a37 := Tryz.isAgg258
 z37 := Tryz.sizeOf258
 v37 := Tryz.zeroValue258
 t70 := Tryz.underlying329
 a70 := Tryz.isAgg329
 z70 := Tryz.sizeOf329
 v70 := Tryz.zeroValue329
 t72 := Tryz.underlying331
 a72 := Tryz.isAgg331
 z72 := Tryz.sizeOf331
 v72 := Tryz.zeroValue331
 t164 := Tryz.underlying387
 a164 := Tryz.isAgg387
 z164 := Tryz.sizeOf387
 v164 := Tryz.zeroValue387 }
theorem Tryz.Builder_Extra_165 : Builder.Extra Tryz.prog Tryz.lays165_ren := {
 sizeBuilder := by kernel_rfl
 liesBuilder := by kernel_rfl
 t5 := Tryz.underlying5
 a5 := Tryz.isAgg5
 z5 := Tryz.sizeOf5
 v5 := Tryz.zeroValue5
 infoByte := by kernel_rfl
 cellsByte := by kernel_rfl
 sizeByte := by kernel_rfl
 neB5 := by decide }
open Go.RowKit in
theorem Tryz.Builder_Grow_fresh (B b n : Nat) (w : World) (hB : B ≤ b) (hbk : w.heap[b]? = some (.cells #[.pointer none, .slice none 0 0] 331 (0, 0))) (hBw : B ≤ w.heap.size) (hn : n ≤ 281474976710656) :
  Calls Tryz.prog 221 #[.pointer (some ⟨b, 0, none⟩), .int .i64 n] w fun e w' => e = .returned (.tuple #[]) ∧ (Lib.BuilderAt 331 5 B b (.pointer (some ⟨b, 0, none⟩)) [] w' ∧ Below B w w') := Any.Builder_Grow_fresh Tryz.lays165 Tryz.Builder_Extra_165 B b n w hB hbk hBw hn
def Tryz.lays156_ren : Go.Shelf.Ren := ⟨fun | 156 => 192 | 165 => 221 | 166 => 229 | 169 => 224 | 240 => 249 | 241 => 250 | 276 => 272 | 277 => 273 | n => n, fun | 31 => 306 | 9 => 9 | 3 => 3 | 4 => 4 | 0 => 0 | 20 => 20 | 72 => 331 | 76 => 338 | 70 => 329 | 37 => 258 | 75 => 337 | 127 => 373 | 164 => 387 | 5 => 5 | 80 => 166 | n => n, fun | n => n⟩
theorem Tryz.lays156 : Go.Proofs.Lays.n156 Tryz.prog Tryz.lays156_ren := {
 mixed := by kernel_rfl
 f156 := Tryz.func192.trans (congrArg some (by kernel_rfl))
 f165 := Tryz.func221.trans (congrArg some (by kernel_rfl))
 f166 := Tryz.func229.trans (congrArg some (by kernel_rfl))
 f169 := Tryz.func224.trans (congrArg some (by kernel_rfl))
 f240 := Tryz.func249.trans (congrArg some (by kernel_rfl))
 f241 := Tryz.func250.trans (congrArg some (by kernel_rfl))
 f276 := Tryz.func272.trans (congrArg some (by kernel_rfl))
 f277 := Tryz.func273.trans (congrArg some (by kernel_rfl))
 t0 := Tryz.underlying0
 a0 := Tryz.isAgg0
 z0 := Tryz.sizeOf0
 v0 := Tryz.zeroValue0
 t3 := Tryz.underlying3
 a3 := Tryz.isAgg3
 z3 := Tryz.sizeOf3
 v3 := Tryz.zeroValue3
 t4 := Tryz.underlying4
 a4 := Tryz.isAgg4
 z4 := Tryz.sizeOf4
 v4 := Tryz.zeroValue4
 t9 := Tryz.underlying9
 a9 := Tryz.isAgg9
 z9 := Tryz.sizeOf9
 v9 := Tryz.zeroValue9
 t20 := Tryz.underlying20
 a20 := Tryz.isAgg20
 z20 := Tryz.sizeOf20
 v20 := Tryz.zeroValue20
 t31 := Tryz.underlying306
 a31 := Tryz.isAgg306
 z31 := Tryz.sizeOf306
 v31 := Tryz.zeroValue306
 t37 := Tryz.underlying258
 a37 := Tryz.isAgg258
 z37 := Tryz.sizeOf258
 v37 := Tryz.zeroValue258
 t70 := Tryz.underlying329
 a70 := Tryz.isAgg329
 z70 := Tryz.sizeOf329
 v70 := Tryz.zeroValue329
 t72 := Tryz.underlying331
 a72 := Tryz.isAgg331
 z72 := Tryz.sizeOf331
 v72 := Tryz.zeroValue331
 t75 := Tryz.underlying337
 a75 := Tryz.isAgg337
 z75 := Tryz.sizeOf337
 v75 := Tryz.zeroValue337
 t76 := Tryz.underlying338
 a76 := Tryz.isAgg338
 z76 := Tryz.sizeOf338
 v76 := Tryz.zeroValue338
 t127 := Tryz.underlying373
 a127 := Tryz.isAgg373
 z127 := Tryz.sizeOf373
 v127 := Tryz.zeroValue373
 t164 := Tryz.underlying387
 a164 := Tryz.isAgg387
 z164 := Tryz.sizeOf387
 v164 := Tryz.zeroValue387 }
theorem Tryz.Builder_Extra_156 : Builder.Extra Tryz.prog Tryz.lays156_ren := {
 sizeBuilder := by kernel_rfl
 liesBuilder := by kernel_rfl
 t5 := Tryz.underlying5
 a5 := Tryz.isAgg5
 z5 := Tryz.sizeOf5
 v5 := Tryz.zeroValue5
 infoByte := by kernel_rfl
 cellsByte := by kernel_rfl
 sizeByte := by kernel_rfl
 neB5 := by decide }
open Go.RowKit in
theorem Tryz.strings_Join (bk o c : Nat) (xs : List ByteArray) (sep : ByteArray) (w : World) (hcells : ∀ (j : Nat) x, xs[j]? = some x → w.cell? ⟨bk, o + j, none⟩ = some (.string x)) (hbk : bk < w.heap.size) (hN : xs.length ≤ 140737488355328) (hcap : xs.length ≤ c) (hlen : (Lib.join (xs.map (·.data.toList)) sep.data.toList).length ≤ 140737488355328) :
  Calls Tryz.prog 192 #[.slice (some ⟨bk, o, none⟩) xs.length c, .string sep] w fun e w' => e = .returned (.string ⟨(Lib.join (xs.map (·.data.toList)) sep.data.toList).toArray⟩) ∧ Below w.heap.size w w' := Any.strings_Join Tryz.lays156 Tryz.Builder_Extra_156 bk o c xs sep w hcells hbk hN hcap hlen
open Go.RowKit in
theorem Tryz.Builder_String_any_k (B b : Nat) (l : List UInt8) (w : World) (h : Lib.IsBuilderF 331 5 B b (Lib.byteCells l) w) (hBw : B ≤ w.heap.size) :
  Calls Tryz.prog 224 #[.pointer (some ⟨b, 0, none⟩)] w fun e w' => e = .returned (.string ⟨l.toArray⟩) ∧ (Lib.IsBuilderF 331 5 B b (Lib.byteCells l) w' ∧ Below B w w' ∧ Lib.OthersKept 5 (some b) w w') := Any.Builder_String_any_k Tryz.lays169 Tryz.Builder_Extra_169 B b l w h hBw
def Tryz.lays242_ren : Go.Shelf.Ren := ⟨fun | 242 => 253 | 278 => 274 | n => n, fun | 37 => 258 | 21 => 21 | 51 => 379 | 4 => 4 | 5 => 5 | 46 => 348 | n => n, fun | n => n⟩
theorem Tryz.lays242 : Go.Proofs.Lays.n242 Tryz.prog Tryz.lays242_ren := {
 mixed := by kernel_rfl
 f242 := Tryz.func253.trans (congrArg some (by kernel_rfl))
 f278 := Tryz.func274.trans (congrArg some (by kernel_rfl))
 t4 := Tryz.underlying4
 a4 := Tryz.isAgg4
 z4 := Tryz.sizeOf4
 v4 := Tryz.zeroValue4
 t5 := Tryz.underlying5
 a5 := Tryz.isAgg5
 z5 := Tryz.sizeOf5
 v5 := Tryz.zeroValue5
 t21 := Tryz.underlying21
 a21 := Tryz.isAgg21
 z21 := Tryz.sizeOf21
 v21 := Tryz.zeroValue21
 t37 := Tryz.underlying258
 a37 := Tryz.isAgg258
 z37 := Tryz.sizeOf258
 v37 := Tryz.zeroValue258
 t46 := Tryz.underlying348
 a46 := Tryz.isAgg348
 z46 := Tryz.sizeOf348
 v46 := Tryz.zeroValue348
 t51 := Tryz.underlying379
 a51 := Tryz.isAgg379
 z51 := Tryz.sizeOf379
 v51 := Tryz.zeroValue379 }
open Go.RowKit in
theorem Tryz.utf8_AppendRune_row (B : Nat) (v : Value) (n : Nat) (xs : List Value) (r : Int) (hr0 : -2147483648 ≤ r) (hr1 : r ≤ 2147483647) (w : World) (hown : w.ownsRowF B 5 1 v n xs) (hlen : n + 4 ≤ 140737488355328) (hBw : B ≤ w.heap.size) :
  Calls Tryz.prog 253 #[v, .int .i32 r] w fun e w' => ∃ v', e = .returned v' ∧ w'.ownsRowF B 5 1 v' (n + (Lib.runeCells r).length) (xs ++ Lib.runeCells r) ∧ ∃ o, (w.alloc o).grownBy w' v.ownBlock := Any.utf8_AppendRune_row Tryz.lays242 (by kernel_rfl) B v n xs r hr0 hr1 w hown hlen hBw
def Tryz.lays129_ren : Go.Shelf.Ren := ⟨fun | 129 => 263 | n => n, fun | 53 => 357 | 3 => 3 | 4 => 4 | 46 => 348 | 5 => 5 | 9 => 9 | n => n, fun | n => n⟩
theorem Tryz.lays129 : Go.Proofs.Lays.n129 Tryz.prog Tryz.lays129_ren := {
 mixed := by kernel_rfl
 f129 := Tryz.func263.trans (congrArg some (by kernel_rfl))
 t3 := Tryz.underlying3
 a3 := Tryz.isAgg3
 z3 := Tryz.sizeOf3
 v3 := Tryz.zeroValue3
 t4 := Tryz.underlying4
 a4 := Tryz.isAgg4
 z4 := Tryz.sizeOf4
 v4 := Tryz.zeroValue4
 t5 := Tryz.underlying5
 a5 := Tryz.isAgg5
 z5 := Tryz.sizeOf5
 v5 := Tryz.zeroValue5
 t9 := Tryz.underlying9
 a9 := Tryz.isAgg9
 z9 := Tryz.sizeOf9
 v9 := Tryz.zeroValue9
 t46 := Tryz.underlying348
 a46 := Tryz.isAgg348
 z46 := Tryz.sizeOf348
 v46 := Tryz.zeroValue348
 t53 := Tryz.underlying357
 a53 := Tryz.isAgg357
 z53 := Tryz.sizeOf357
 v53 := Tryz.zeroValue357 }
theorem Tryz.bits_Len64 (x : Int) (w : World) (h0 : 0 ≤ x) (h1 : x ≤ 18446744073709551615) :
  Calls Tryz.prog 263 #[.int .u64 x] w fun e w' => e = .returned (.int .i64 (Lib.bitLen x.toNat)) ∧ w' = w := Any.bits_Len64 Tryz.lays129 x w h0 h1
def Tryz.lays317_ren : Go.Shelf.Ren := ⟨fun | 317 => 262 | n => n, fun | 3 => 3 | 46 => 348 | n => n, fun | n => n⟩
theorem Tryz.lays317 : Go.Proofs.Lays.n317 Tryz.prog Tryz.lays317_ren := {
 mixed := by kernel_rfl
 f317 := Tryz.func262.trans (congrArg some (by kernel_rfl))
 t3 := Tryz.underlying3
 a3 := Tryz.isAgg3
 z3 := Tryz.sizeOf3
 v3 := Tryz.zeroValue3
 t46 := Tryz.underlying348
 a46 := Tryz.isAgg348
 z46 := Tryz.sizeOf348
 v46 := Tryz.zeroValue348 }
open Go.Lib in
theorem Tryz.internal_strconv_log10Pow2 (x : Nat) (h : x ≤ 64) (w : World) :
  Calls Tryz.prog 262 #[.int .i64 x] w fun e w' => e = .returned (.int .i64 (Lib.l10 x)) ∧ w' = w := Any.internal_strconv_log10Pow2 Tryz.lays317 x h w
def Tryz.laysM284_ren : Go.Shelf.Ren := ⟨fun | 284 => 240 | 129 => 263 | 317 => 262 | 318 => 264 | n => n, fun | 53 => 357 | 3 => 3 | 212 => 378 | 0 => 0 | 4 => 4 | 46 => 348 | 5 => 5 | 9 => 9 | n => n, fun | 17 => 1 | n => n⟩
theorem Tryz.laysM284 : Go.Proofs.LaysM.n284 Tryz.prog Tryz.laysM284_ren := {
 mixed := by kernel_rfl
 f129 := Tryz.func263.trans (congrArg some (by kernel_rfl))
 f284 := Tryz.func240.trans (congrArg some (by kernel_rfl))
 f317 := Tryz.func262.trans (congrArg some (by kernel_rfl))
 f318 := Tryz.func264.trans (congrArg some (by kernel_rfl))
 t0 := Tryz.underlying0
 a0 := Tryz.isAgg0
 z0 := Tryz.sizeOf0
 v0 := Tryz.zeroValue0
 t3 := Tryz.underlying3
 a3 := Tryz.isAgg3
 z3 := Tryz.sizeOf3
 v3 := Tryz.zeroValue3
 t4 := Tryz.underlying4
 a4 := Tryz.isAgg4
 z4 := Tryz.sizeOf4
 v4 := Tryz.zeroValue4
 t5 := Tryz.underlying5
 a5 := Tryz.isAgg5
 z5 := Tryz.sizeOf5
 v5 := Tryz.zeroValue5
 t9 := Tryz.underlying9
 a9 := Tryz.isAgg9
 z9 := Tryz.sizeOf9
 v9 := Tryz.zeroValue9
 t46 := Tryz.underlying348
 a46 := Tryz.isAgg348
 z46 := Tryz.sizeOf348
 v46 := Tryz.zeroValue348
 t53 := Tryz.underlying357
 a53 := Tryz.isAgg357
 z53 := Tryz.sizeOf357
 v53 := Tryz.zeroValue357
 t212 := Tryz.underlying378
 a212 := Tryz.isAgg378
 z212 := Tryz.sizeOf378
 v212 := Tryz.zeroValue378
 g17 := by kernel_rfl
 i0 := by kernel_rfl
 i3 := by kernel_rfl
 i4 := by kernel_rfl
 i5 := by kernel_rfl
 i9 := by kernel_rfl
 i46 := by kernel_rfl
 i53 := by kernel_rfl
 i212 := by kernel_rfl
 m17 := by kernel_rfl }
open Go.Lib in
theorem Tryz.internal_strconv_numDigits (u : Nat) (h1 : 1 ≤ u) (h2 : u < 18446744073709551616) (w : World) (htab : Lib.TabIs Tryz.prog w "internal/strconv.uint64pow10" .u64 Lib.pow10Tab) :
  Calls Tryz.prog 240 #[.int .u64 u] w fun e w' => e = .returned (.int .i64 (Lib.nDigits u)) ∧ w' = w := Any.internal_strconv_numDigits Tryz.laysM284 u h1 h2 w htab
def Tryz.lays285_ren : Go.Shelf.Ren := ⟨fun | 285 => 241 | n => n, fun | 37 => 258 | 53 => 357 | 3 => 3 | 4 => 4 | 51 => 379 | 9 => 9 | 5 => 5 | 0 => 0 | n => n, fun | n => n⟩
theorem Tryz.lays285 : Go.Proofs.Lays.n285 Tryz.prog Tryz.lays285_ren := {
 mixed := by kernel_rfl
 f285 := Tryz.func241.trans (congrArg some (by kernel_rfl))
 t0 := Tryz.underlying0
 a0 := Tryz.isAgg0
 z0 := Tryz.sizeOf0
 v0 := Tryz.zeroValue0
 t3 := Tryz.underlying3
 a3 := Tryz.isAgg3
 z3 := Tryz.sizeOf3
 v3 := Tryz.zeroValue3
 t4 := Tryz.underlying4
 a4 := Tryz.isAgg4
 z4 := Tryz.sizeOf4
 v4 := Tryz.zeroValue4
 t5 := Tryz.underlying5
 a5 := Tryz.isAgg5
 z5 := Tryz.sizeOf5
 v5 := Tryz.zeroValue5
 t9 := Tryz.underlying9
 a9 := Tryz.isAgg9
 z9 := Tryz.sizeOf9
 v9 := Tryz.zeroValue9
 t37 := Tryz.underlying258
 a37 := Tryz.isAgg258
 z37 := Tryz.sizeOf258
 v37 := Tryz.zeroValue258
 t51 := Tryz.underlying379
 a51 := Tryz.isAgg379
 z51 := Tryz.sizeOf379
 v51 := Tryz.zeroValue379
 t53 := Tryz.underlying357
 a53 := Tryz.isAgg357
 z53 := Tryz.sizeOf357
 v53 := Tryz.zeroValue357 }
open Go.RowKit Go.Sort Go.Lib in
theorem Tryz.internal_strconv_formatBase10 (blk off cap : Nat) (u : Nat) (d : Array UInt8) (w : World) (hH : Holds (fun (b : UInt8) => Value.int .u8 (b.toNat : Int)) w blk off d) (hu : u < 10 ^ d.size) (hu64 : u < 18446744073709551616) (hsz : d.size < 4611686018427387904) :
  Calls Tryz.prog 241 #[.slice (some ⟨blk, off, none⟩) d.size cap, .int .u64 u] w fun e w' =>
   e = .returned (.tuple #[]) ∧ ∃ (n v' : Nat) (dk : Array UInt8), w' = (putRow (fun (b : UInt8) => Value.int .u8 (b.toNat : Int)) w blk off dk).drewN n ∧ FmtInv d.size u 0 v' dk := Any.internal_strconv_formatBase10 Tryz.lays285 blk off cap u d w hH hu hu64 hsz
def Tryz.laysM246_ren : Go.Shelf.Ren := ⟨fun | 246 => 215 | 283 => 239 | 284 => 240 | 285 => 241 | 286 => 242 | 129 => 263 | 317 => 262 | 318 => 264 | 319 => 265 | 320 => 266 | 337 => 282 | 338 => 283 | n => n, fun | 2 => 2 | 3 => 3 | 9 => 9 | 4 => 4 | 171 => 356 | 0 => 0 | 53 => 357 | 37 => 258 | 5 => 5 | 173 => 360 | 212 => 378 | 51 => 379 | 20 => 20 | 213 => 380 | 46 => 348 | 232 => 413 | 233 => 427 | n => n, fun | 17 => 1 | 18 => 4 | 19 => 5 | n => n⟩
def Tryz.laysM243_ren : Go.Shelf.Ren := ⟨fun | 243 => 226 | 246 => 215 | 283 => 239 | 284 => 240 | 285 => 241 | 286 => 242 | 129 => 263 | 317 => 262 | 318 => 264 | 319 => 265 | 320 => 266 | 337 => 282 | 338 => 283 | n => n, fun | 3 => 3 | 9 => 9 | 2 => 2 | 4 => 4 | 171 => 356 | 0 => 0 | 53 => 357 | 37 => 258 | 5 => 5 | 173 => 360 | 212 => 378 | 51 => 379 | 20 => 20 | 213 => 380 | 46 => 348 | 232 => 413 | 233 => 427 | n => n, fun | 17 => 1 | 18 => 4 | 19 => 5 | n => n⟩
def Tryz.laysM171_ren : Go.Shelf.Ren := ⟨fun | 171 => 190 | 243 => 226 | 246 => 215 | 283 => 239 | 284 => 240 | 285 => 241 | 286 => 242 | 129 => 263 | 317 => 262 | 318 => 264 | 319 => 265 | 320 => 266 | 337 => 282 | 338 => 283 | n => n, fun | 3 => 3 | 9 => 9 | 2 => 2 | 4 => 4 | 171 => 356 | 0 => 0 | 53 => 357 | 37 => 258 | 5 => 5 | 173 => 360 | 212 => 378 | 51 => 379 | 20 => 20 | 213 => 380 | 46 => 348 | 232 => 413 | 233 => 427 | n => n, fun | 17 => 1 | 18 => 4 | 19 => 5 | n => n⟩
theorem Tryz.laysM171 : Go.Proofs.LaysM.n171 Tryz.prog Tryz.laysM171_ren := {
 mixed := by kernel_rfl
 f129 := Tryz.func263.trans (congrArg some (by kernel_rfl))
 f171 := Tryz.func190.trans (congrArg some (by kernel_rfl))
 f243 := Tryz.func226.trans (congrArg some (by kernel_rfl))
 f246 := Tryz.func215.trans (congrArg some (by kernel_rfl))
 f283 := Tryz.func239.trans (congrArg some (by kernel_rfl))
 f284 := Tryz.func240.trans (congrArg some (by kernel_rfl))
 f285 := Tryz.func241.trans (congrArg some (by kernel_rfl))
 f286 := Tryz.func242.trans (congrArg some (by kernel_rfl))
 f317 := Tryz.func262.trans (congrArg some (by kernel_rfl))
 f318 := Tryz.func264.trans (congrArg some (by kernel_rfl))
 f319 := Tryz.func265.trans (congrArg some (by kernel_rfl))
 f320 := Tryz.func266.trans (congrArg some (by kernel_rfl))
 f337 := Tryz.func282.trans (congrArg some (by kernel_rfl))
 f338 := Tryz.func283.trans (congrArg some (by kernel_rfl))
 t0 := Tryz.underlying0
 a0 := Tryz.isAgg0
 z0 := Tryz.sizeOf0
 v0 := Tryz.zeroValue0
 t2 := Tryz.underlying2
 a2 := Tryz.isAgg2
 z2 := Tryz.sizeOf2
 v2 := Tryz.zeroValue2
 t3 := Tryz.underlying3
 a3 := Tryz.isAgg3
 z3 := Tryz.sizeOf3
 v3 := Tryz.zeroValue3
 t4 := Tryz.underlying4
 a4 := Tryz.isAgg4
 z4 := Tryz.sizeOf4
 v4 := Tryz.zeroValue4
 t5 := Tryz.underlying5
 a5 := Tryz.isAgg5
 z5 := Tryz.sizeOf5
 v5 := Tryz.zeroValue5
 t9 := Tryz.underlying9
 a9 := Tryz.isAgg9
 z9 := Tryz.sizeOf9
 v9 := Tryz.zeroValue9
 t20 := Tryz.underlying20
 a20 := Tryz.isAgg20
 z20 := Tryz.sizeOf20
 v20 := Tryz.zeroValue20
 t37 := Tryz.underlying258
 a37 := Tryz.isAgg258
 z37 := Tryz.sizeOf258
 v37 := Tryz.zeroValue258
 t46 := Tryz.underlying348
 a46 := Tryz.isAgg348
 z46 := Tryz.sizeOf348
 v46 := Tryz.zeroValue348
 t51 := Tryz.underlying379
 a51 := Tryz.isAgg379
 z51 := Tryz.sizeOf379
 v51 := Tryz.zeroValue379
 t53 := Tryz.underlying357
 a53 := Tryz.isAgg357
 z53 := Tryz.sizeOf357
 v53 := Tryz.zeroValue357
 t171 := Tryz.underlying356
 a171 := Tryz.isAgg356
 z171 := Tryz.sizeOf356
 v171 := Tryz.zeroValue356
 t173 := Tryz.underlying360
 a173 := Tryz.isAgg360
 z173 := Tryz.sizeOf360
 v173 := Tryz.zeroValue360
 t212 := Tryz.underlying378
 a212 := Tryz.isAgg378
 z212 := Tryz.sizeOf378
 v212 := Tryz.zeroValue378
 t213 := Tryz.underlying380
 a213 := Tryz.isAgg380
 z213 := Tryz.sizeOf380
 t232 := Tryz.underlying413
 a232 := Tryz.isAgg413
 z232 := Tryz.sizeOf413
 v232 := Tryz.zeroValue413
 t233 := Tryz.underlying427
 a233 := Tryz.isAgg427
 z233 := Tryz.sizeOf427
 v233 := Tryz.zeroValue427
 g17 := by kernel_rfl
 g18 := by kernel_rfl
 g19 := by kernel_rfl
 i0 := by kernel_rfl
 i2 := by kernel_rfl
 i3 := by kernel_rfl
 i4 := by kernel_rfl
 i5 := by kernel_rfl
 i9 := by kernel_rfl
 i20 := by kernel_rfl
 i37 := by kernel_rfl
 i46 := by kernel_rfl
 i51 := by kernel_rfl
 i53 := by kernel_rfl
 i171 := by kernel_rfl
 i173 := by kernel_rfl
 i212 := by kernel_rfl
 i232 := by kernel_rfl
 i233 := by kernel_rfl
 m17 := by kernel_rfl
 m18 := by kernel_rfl
 m19 := by kernel_rfl }
open Go.RowKit Go.Sort Go.Lib in
theorem Tryz.strconv_Itoa (n : Int) (h0 : -9223372036854775808 ≤ n) (h1 : n ≤ 9223372036854775807) (w : World) (htab : Lib.TabIs Tryz.prog w "internal/strconv.uint64pow10" .u64 Lib.pow10Tab) :
  Calls Tryz.prog 190 #[.int .i64 n] w fun e w' => e = .returned (.string ⟨(Lib.itoa n).toArray⟩) ∧ ∃ k os, w' = grow (w.drewN k) os := Any.strconv_Itoa Tryz.laysM171 n h0 h1 w htab
def Tryz.laysM173_ren : Go.Shelf.Ren := ⟨fun | 173 => 180 | 246 => 215 | 283 => 239 | 284 => 240 | 285 => 241 | 286 => 242 | 129 => 263 | 317 => 262 | 318 => 264 | 319 => 265 | 320 => 266 | 337 => 282 | 338 => 283 | n => n, fun | 2 => 2 | 3 => 3 | 9 => 9 | 4 => 4 | 171 => 356 | 0 => 0 | 53 => 357 | 37 => 258 | 5 => 5 | 173 => 360 | 212 => 378 | 51 => 379 | 20 => 20 | 213 => 380 | 46 => 348 | 232 => 413 | 233 => 427 | n => n, fun | 17 => 1 | 18 => 4 | 19 => 5 | n => n⟩
theorem Tryz.laysM173 : Go.Proofs.LaysM.n173 Tryz.prog Tryz.laysM173_ren := {
 mixed := by kernel_rfl
 f129 := Tryz.func263.trans (congrArg some (by kernel_rfl))
 f173 := Tryz.func180.trans (congrArg some (by kernel_rfl))
 f246 := Tryz.func215.trans (congrArg some (by kernel_rfl))
 f283 := Tryz.func239.trans (congrArg some (by kernel_rfl))
 f284 := Tryz.func240.trans (congrArg some (by kernel_rfl))
 f285 := Tryz.func241.trans (congrArg some (by kernel_rfl))
 f286 := Tryz.func242.trans (congrArg some (by kernel_rfl))
 f317 := Tryz.func262.trans (congrArg some (by kernel_rfl))
 f318 := Tryz.func264.trans (congrArg some (by kernel_rfl))
 f319 := Tryz.func265.trans (congrArg some (by kernel_rfl))
 f320 := Tryz.func266.trans (congrArg some (by kernel_rfl))
 f337 := Tryz.func282.trans (congrArg some (by kernel_rfl))
 f338 := Tryz.func283.trans (congrArg some (by kernel_rfl))
 t0 := Tryz.underlying0
 a0 := Tryz.isAgg0
 z0 := Tryz.sizeOf0
 v0 := Tryz.zeroValue0
 t2 := Tryz.underlying2
 a2 := Tryz.isAgg2
 z2 := Tryz.sizeOf2
 v2 := Tryz.zeroValue2
 t3 := Tryz.underlying3
 a3 := Tryz.isAgg3
 z3 := Tryz.sizeOf3
 v3 := Tryz.zeroValue3
 t4 := Tryz.underlying4
 a4 := Tryz.isAgg4
 z4 := Tryz.sizeOf4
 v4 := Tryz.zeroValue4
 t5 := Tryz.underlying5
 a5 := Tryz.isAgg5
 z5 := Tryz.sizeOf5
 v5 := Tryz.zeroValue5
 t9 := Tryz.underlying9
 a9 := Tryz.isAgg9
 z9 := Tryz.sizeOf9
 v9 := Tryz.zeroValue9
 t20 := Tryz.underlying20
 a20 := Tryz.isAgg20
 z20 := Tryz.sizeOf20
 v20 := Tryz.zeroValue20
 t37 := Tryz.underlying258
 a37 := Tryz.isAgg258
 z37 := Tryz.sizeOf258
 v37 := Tryz.zeroValue258
 t46 := Tryz.underlying348
 a46 := Tryz.isAgg348
 z46 := Tryz.sizeOf348
 v46 := Tryz.zeroValue348
 t51 := Tryz.underlying379
 a51 := Tryz.isAgg379
 z51 := Tryz.sizeOf379
 v51 := Tryz.zeroValue379
 t53 := Tryz.underlying357
 a53 := Tryz.isAgg357
 z53 := Tryz.sizeOf357
 v53 := Tryz.zeroValue357
 t171 := Tryz.underlying356
 a171 := Tryz.isAgg356
 z171 := Tryz.sizeOf356
 v171 := Tryz.zeroValue356
 t173 := Tryz.underlying360
 a173 := Tryz.isAgg360
 z173 := Tryz.sizeOf360
 v173 := Tryz.zeroValue360
 t212 := Tryz.underlying378
 a212 := Tryz.isAgg378
 z212 := Tryz.sizeOf378
 v212 := Tryz.zeroValue378
 t213 := Tryz.underlying380
 a213 := Tryz.isAgg380
 z213 := Tryz.sizeOf380
 t232 := Tryz.underlying413
 a232 := Tryz.isAgg413
 z232 := Tryz.sizeOf413
 v232 := Tryz.zeroValue413
 t233 := Tryz.underlying427
 a233 := Tryz.isAgg427
 z233 := Tryz.sizeOf427
 v233 := Tryz.zeroValue427
 g17 := by kernel_rfl
 g18 := by kernel_rfl
 g19 := by kernel_rfl
 i0 := by kernel_rfl
 i2 := by kernel_rfl
 i3 := by kernel_rfl
 i4 := by kernel_rfl
 i5 := by kernel_rfl
 i9 := by kernel_rfl
 i20 := by kernel_rfl
 i37 := by kernel_rfl
 i46 := by kernel_rfl
 i51 := by kernel_rfl
 i53 := by kernel_rfl
 i171 := by kernel_rfl
 i173 := by kernel_rfl
 i212 := by kernel_rfl
 i232 := by kernel_rfl
 i233 := by kernel_rfl
 m17 := by kernel_rfl
 m18 := by kernel_rfl
 m19 := by kernel_rfl }
open Go.RowKit Go.Sort Go.Lib in
theorem Tryz.strconv_FormatInt_10 (n : Int) (h0 : -9223372036854775808 ≤ n) (h1 : n ≤ 9223372036854775807) (w : World) (htab : Lib.TabIs Tryz.prog w "internal/strconv.uint64pow10" .u64 Lib.pow10Tab) :
  Calls Tryz.prog 180 #[.int .i64 n, .int .i64 10] w fun e w' => e = .returned (.string ⟨(Lib.itoa n).toArray⟩) ∧ ∃ k os, w' = grow (w.drewN k) os := Any.strconv_FormatInt_10 Tryz.laysM173 n h0 h1 w htab
def Tryz.lays264_ren : Go.Shelf.Ren := ⟨fun | 264 => 332 | n => n, fun | 53 => 357 | 46 => 348 | n => n, fun | n => n⟩
theorem Tryz.lays264 : Go.Proofs.Lays.n264 Tryz.prog Tryz.lays264_ren := {
 mixed := by kernel_rfl
 f264 := Tryz.func332.trans (congrArg some (by kernel_rfl))
 t46 := Tryz.underlying348
 a46 := Tryz.isAgg348
 z46 := Tryz.sizeOf348
 v46 := Tryz.zeroValue348
 t53 := Tryz.underlying357
 a53 := Tryz.isAgg357
 z53 := Tryz.sizeOf357
 v53 := Tryz.zeroValue357 }
open Go.RowKit Go.Lib in
theorem Tryz.bits_Mul64 (x y : Nat) (hx : x < 18446744073709551616) (hy : y < 18446744073709551616) (w : World) :
  Calls Tryz.prog 332 #[.int .u64 x, .int .u64 y] w fun e w' => e = .returned (.tuple #[.int .u64 ((x * y / 18446744073709551616 : Nat) : Int), .int .u64 ((x * y % 18446744073709551616 : Nat) : Int)]) ∧ w' = w := Any.bits_Mul64 Tryz.lays264 x y hx hy w
end Go.Proofs
