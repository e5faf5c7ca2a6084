/-
  The numbers of layer 6, written out. By an AI agent. (and more)
-/
import Derived.Test.YtkbkalhcdbklkaaGreatDoorJ08
import Derived.Test.YtkbkalhcdbklkaaGreatDoorJ24
import Derived.Lib.LaidTab
import Derived.ChangeSame
namespace Go.Proofs.YtkbkalhcdbklkaaGreatDoor
section
def k256 : List Nat := [0x428a2f98, 0x71374491, 0xb5c0fbcf, 0xe9b5dba5, 0x3956c25b, 0x59f111f1, 0x923f82a4, 0xab1c5ed5, 0xd807aa98, 0x12835b01, 0x243185be, 0x550c7dc3, 0x72be5d74, 0x80deb1fe, 0x9bdc06a7, 0xc19bf174, 0xe49b69c1, 0xefbe4786, 0xfc19dc6, 0x240ca1cc, 0x2de92c6f, 0x4a7484aa, 0x5cb0a9dc, 0x76f988da, 0x983e5152, 0xa831c66d, 0xb00327c8, 0xbf597fc7, 0xc6e00bf3, 0xd5a79147, 0x6ca6351, 0x14292967, 0x27b70a85, 0x2e1b2138, 0x4d2c6dfc, 0x53380d13, 0x650a7354, 0x766a0abb, 0x81c2c92e, 0x92722c85, 0xa2bfe8a1, 0xa81a664b, 0xc24b8b70, 0xc76c51a3, 0xd192e819, 0xd6990624, 0xf40e3585, 0x106aa070, 0x19a4c116, 0x1e376c08, 0x2748774c, 0x34b0bcb5, 0x391c0cb3, 0x4ed8aa4a, 0x5b9cca4f, 0x682e6ff3, 0x748f82ee, 0x78a5636f, 0x84c87814, 0x8cc70208, 0x90befffa, 0xa4506ceb, 0xbef9a3f7, 0xc67178f2]
def h256 : List Nat := [0x6a09e667, 0xbb67ae85, 0x3c6ef372, 0xa54ff53a, 0x510e527f, 0x9b05688c, 0x1f83d9ab, 0x5be0cd19]
def k512 : List Nat := [0x428a2f98d728ae22, 0x7137449123ef65cd, 0xb5c0fbcfec4d3b2f, 0xe9b5dba58189dbbc, 0x3956c25bf348b538, 0x59f111f1b605d019, 0x923f82a4af194f9b, 0xab1c5ed5da6d8118, 0xd807aa98a3030242, 0x12835b0145706fbe, 0x243185be4ee4b28c, 0x550c7dc3d5ffb4e2, 0x72be5d74f27b896f, 0x80deb1fe3b1696b1, 0x9bdc06a725c71235, 0xc19bf174cf692694, 0xe49b69c19ef14ad2, 0xefbe4786384f25e3, 0xfc19dc68b8cd5b5, 0x240ca1cc77ac9c65, 0x2de92c6f592b0275, 0x4a7484aa6ea6e483, 0x5cb0a9dcbd41fbd4, 0x76f988da831153b5, 0x983e5152ee66dfab, 0xa831c66d2db43210, 0xb00327c898fb213f, 0xbf597fc7beef0ee4, 0xc6e00bf33da88fc2, 0xd5a79147930aa725, 0x6ca6351e003826f, 0x142929670a0e6e70, 0x27b70a8546d22ffc, 0x2e1b21385c26c926, 0x4d2c6dfc5ac42aed, 0x53380d139d95b3df, 0x650a73548baf63de, 0x766a0abb3c77b2a8, 0x81c2c92e47edaee6, 0x92722c851482353b, 0xa2bfe8a14cf10364, 0xa81a664bbc423001, 0xc24b8b70d0f89791, 0xc76c51a30654be30, 0xd192e819d6ef5218, 0xd69906245565a910, 0xf40e35855771202a, 0x106aa07032bbd1b8, 0x19a4c116b8d2d0c8, 0x1e376c085141ab53, 0x2748774cdf8eeb99, 0x34b0bcb5e19b48a8, 0x391c0cb3c5c95a63, 0x4ed8aa4ae3418acb, 0x5b9cca4f7763e373, 0x682e6ff3d6b2b8a3, 0x748f82ee5defb2fc, 0x78a5636f43172f60, 0x84c87814a1f0ab72, 0x8cc702081a6439ec, 0x90befffa23631e28, 0xa4506cebde82bde9, 0xbef9a3f7b2c67915, 0xc67178f2e372532b, 0xca273eceea26619c, 0xd186b8c721c0c207, 0xeada7dd6cde0eb1e, 0xf57d4f7fee6ed178, 0x6f067aa72176fba, 0xa637dc5a2c898a6, 0x113f9804bef90dae, 0x1b710b35131c471b, 0x28db77f523047d84, 0x32caab7b40c72493, 0x3c9ebe0a15c9bebc, 0x431d67c49c100d4c, 0x4cc5d4becb3e42b6, 0x597f299cfc657e2a, 0x5fcb6fab3ad6faec, 0x6c44198c4a475817]
def h512 : List Nat := [0x6a09e667f3bcc908, 0xbb67ae8584caa73b, 0x3c6ef372fe94f82b, 0xa54ff53a5f1d36f1, 0x510e527fade682d1, 0x9b05688c2b3e6c1f, 0x1f83d9abfb41bd6b, 0x5be0cd19137e2179]
theorem small_keys : smallS.keys = k256 := by decide +kernel
theorem great_keys : greatS.keys = k512 := by decide +kernel
theorem great_first : greatS.first = h512 := by decide +kernel
end
section
open Go Go.RowKit Go.ChangeShapes
theorem tab_nxt {P : Program} {W : World} {name : String} {k : IntKind} {zs : List Int} {rest : List (String × DataW Unit)} {g : Nat} {t e : TypeId} {n : Nat} {ps : List MemPlace}
  (hg : P.globalNamed name = some g) (hty : (P.globals[g]?).map (·.type) = some t) (ht : P.underlying t = some (.array n e)) (he : P.underlying e = some (.int k)) (hce : P.cellsOf e = 1) (hct : P.cellsOf t = n)
  (h : DataW.LaidVars P W ((name, Lib.tabData k zs) :: rest) ps) : Lib.TabIs P W name k zs ∧ ∃ q, DataW.LaidVars P W rest q := by
 obtain ⟨g', t', cs, fuel, p, q, hg', ht', hvar, hd, hr, _⟩ := h
 obtain rfl := Option.some.inj (hg.symm.trans hg')
 obtain rfl := Option.some.inj (hty.symm.trans ht')
 refine ⟨?_, q, hr⟩
 unfold Lib.TabIs
 rw [hvar, ← Lib.cells_of_tab ht he hce hct hd]
theorem pt_nxt {P : Program} {W : World} {name : String} {zs zs' : List Int} {rest : List (String × DataW Unit)} {g : Nat} {t tn e : TypeId} {f0 f1 : Field} {ps : List MemPlace}
  (hg : P.globalNamed name = some g) (hty : (P.globals[g]?).map (·.type) = some t) (hs : P.underlying t = some (.struct #[f0, f1])) (k0 : f0.type = tn) (k1 : f1.type = tn) (o0 : f0.offset = 0) (o1 : f1.offset = 4) (ht : P.underlying tn = some (.array 4 e)) (he : P.underlying e = some (.int .u64)) (hc : P.cellsOf e = 1) (hcn : P.cellsOf tn = 4) (hct : P.cellsOf t = 8)
  (h : DataW.LaidVars P W ((name, .agg [Lib.tabData .u64 zs, Lib.tabData .u64 zs']) :: rest) ps) : Lib.TabIs P W name .u64 (zs ++ zs') ∧ ∃ q, DataW.LaidVars P W rest q := by
 obtain ⟨g', t', cs, fuel, p, q, hg', ht', hvar, hd, hr, _⟩ := h
 obtain rfl := Option.some.inj (hg.symm.trans hg')
 obtain rfl := Option.some.inj (hty.symm.trans ht')
 refine ⟨?_, q, hr⟩
 obtain ⟨⟨d0, p0⟩, ⟨d1, p1⟩, m, hx, hl, h0, h1⟩ := trod_struct2 hs hd
 rw [hct] at hl
 rw [k0, o0, hcn] at h0
 rw [k1, o1, hcn] at h1
 simp only [Prod.mk.injEq, DataW.agg.injEq, List.cons.injEq, and_true] at hx
 obtain ⟨⟨rfl, rfl⟩, _⟩ := hx
 have e0 := Lib.cells_of_tab ht he hc hcn h0
 have e1 := Lib.cells_of_tab ht he hc hcn h1
 have e2 : cs.toList = (zs ++ zs').map fun z => Value.int .u64 z := by
  rw [List.map_append, ← e0, ← e1, List.drop_zero, List.take_of_length_le (l := cs.toList.drop 4) (by simp at hl ⊢; omega), List.take_append_drop]
 unfold Lib.TabIs
 rw [hvar, ← e2]
theorem gN8 : Tryz.prog.globalNamed "sealwax/curve.nought" = some 0 := by kernel_rfl
theorem gD8 : Tryz.prog.globalNamed "sealwax/curve.twiceD" = some 2 := by kernel_rfl
theorem gM8 : Tryz.prog.globalNamed "sealwax/field.minusOneRoot" = some 3 := by kernel_rfl
theorem c64_8 : Tryz.prog.cellsOf 33 = 1 := by kernel_rfl
theorem c4_8 : Tryz.prog.cellsOf 35 = 4 := by kernel_rfl
theorem c8_8 : Tryz.prog.cellsOf 60 = 8 := by kernel_rfl
theorem g8_of {W : World} {ps : List MemPlace} (h : DataW.LaidVars Tryz.prog W [("sealwax/curve.nought", .agg [Lib.tabData .u64 [0, 0, 0, 0], Lib.tabData .u64 [1, 0, 0, 0]]), ("sealwax/curve.twiceD", Lib.tabData .u64 [16993941304535871833, 63073048630374742, 1841551078520508720, 2596001775599221991])] ps) : G8 W := by
 obtain ⟨hn, q, h⟩ := pt_nxt gN8 (t := 60) (by kernel_rfl) Tryz.underlying60 rfl rfl rfl rfl Tryz.underlying35 Tryz.underlying33 c64_8 c4_8 c8_8 h
 obtain ⟨hd, _⟩ := tab_nxt gD8 (t := 35) (by kernel_rfl) Tryz.underlying35 Tryz.underlying33 c64_8 c4_8 h
 have e0 : wd ed2 0 = 16993941304535871833 := by decide +kernel
 have e1 : wd ed2 1 = 63073048630374742 := by decide +kernel
 have e2 : wd ed2 2 = 1841551078520508720 := by decide +kernel
 have e3 : wd ed2 3 = 2596001775599221991 := by decide +kernel
 have z0 : wd 0 0 = 0 := by decide +kernel
 have z1 : wd 0 1 = 0 := by decide +kernel
 have z2 : wd 0 2 = 0 := by decide +kernel
 have z3 : wd 0 3 = 0 := by decide +kernel
 have i0 : wd 1 0 = 1 := by decide +kernel
 have i1 : wd 1 1 = 0 := by decide +kernel
 have i2 : wd 1 2 = 0 := by decide +kernel
 have i3 : wd 1 3 = 0 := by decide +kernel
 unfold G8 C8p
 rw [e0, e1, e2, e3, z0, z1, z2, z3, i0, i1, i2, i3]
 exact ⟨⟨hd.cell gD8 0 (by decide), hd.cell gD8 1 (by decide), hd.cell gD8 2 (by decide), hd.cell gD8 3 (by decide)⟩,
  hn.cell gN8 0 (by decide), hn.cell gN8 1 (by decide), hn.cell gN8 2 (by decide), hn.cell gN8 3 (by decide), hn.cell gN8 4 (by decide), hn.cell gN8 5 (by decide), hn.cell gN8 6 (by decide), hn.cell gN8 7 (by decide)⟩
def z_numbers256 : List Int := [1116352408, 1899447441, 3049323471, 3921009573, 961987163, 1508970993, 2453635748, 2870763221, 3624381080, 310598401, 607225278, 1426881987, 1925078388, 2162078206, 2614888103, 3248222580, 3835390401, 4022224774, 264347078, 604807628, 770255983, 1249150122, 1555081692, 1996064986, 2554220882, 2821834349, 2952996808, 3210313671, 3336571891, 3584528711, 113926993, 338241895, 666307205, 773529912, 1294757372, 1396182291, 1695183700, 1986661051, 2177026350, 2456956037, 2730485921, 2820302411, 3259730800, 3345764771, 3516065817, 3600352804, 4094571909, 275423344, 430227734, 506948616, 659060556, 883997877, 958139571, 1322822218, 1537002063, 1747873779, 1955562222, 2024104815, 2227730452, 2361852424, 2428436474, 2756734187, 3204031479, 3329325298]
theorem z_numbers256_at : ∀ k, k < 64 → z_numbers256.getD k 0 = ((k256.getD k 0 : Nat) : Int) := by decide +kernel
theorem gs_numbers256 : Tryz.prog.globalNamed "sealwax/sha.numbers256" = some 4 := by kernel_rfl
def z_first512 : List Int := [7640891576956012808, 13503953896175478587, 4354685564936845355, 11912009170470909681, 5840696475078001361, 11170449401992604703, 2270897969802886507, 6620516959819538809]
theorem z_first512_at : ∀ k, k < 8 → z_first512.getD k 0 = ((h512.getD k 0 : Nat) : Int) := by decide +kernel
theorem gs_first512 : Tryz.prog.globalNamed "sealwax/sha.first512" = some 1 := by kernel_rfl
def z_numbers512 : List Int := [4794697086780616226, 8158064640168781261, 13096744586834688815, 16840607885511220156, 4131703408338449720, 6480981068601479193, 10538285296894168987, 12329834152419229976, 15566598209576043074, 1334009975649890238, 2608012711638119052, 6128411473006802146, 8268148722764581231, 9286055187155687089, 11230858885718282805, 13951009754708518548, 16472876342353939154, 17275323862435702243, 1135362057144423861, 2597628984639134821, 3308224258029322869, 5365058923640841347, 6679025012923562964, 8573033837759648693, 10970295158949994411, 12119686244451234320, 12683024718118986047, 13788192230050041572, 14330467153632333762, 15395433587784984357, 489312712824947311, 1452737877330783856, 2861767655752347644, 3322285676063803686, 5560940570517711597, 5996557281743188959, 7280758554555802590, 8532644243296465576, 9350256976987008742, 10552545826968843579, 11727347734174303076, 12113106623233404929, 14000437183269869457, 14369950271660146224, 15101387698204529176, 15463397548674623760, 17586052441742319658, 1182934255886127544, 1847814050463011016, 2177327727835720531, 2830643537854262169, 3796741975233480872, 4115178125766777443, 5681478168544905931, 6601373596472566643, 7507060721942968483, 8399075790359081724, 8693463985226723168, 9568029438360202098, 10144078919501101548, 10430055236837252648, 11840083180663258601, 13761210420658862357, 14299343276471374635, 14566680578165727644, 15097957966210449927, 16922976911328602910, 17689382322260857208, 500013540394364858, 748580250866718886, 1242879168328830382, 1977374033974150939, 2944078676154940804, 3659926193048069267, 4368137639120453308, 4836135668995329356, 5532061633213252278, 6448918945643986474, 6902733635092675308, 7801388544844847127]
theorem z_numbers512_at : ∀ k, k < 80 → z_numbers512.getD k 0 = ((k512.getD k 0 : Nat) : Int) := by decide +kernel
theorem gs_numbers512 : Tryz.prog.globalNamed "sealwax/sha.numbers512" = some 5 := by kernel_rfl
theorem c32_9 : Tryz.prog.cellsOf 171 = 1 := by kernel_rfl
theorem g9_of {W : World} {ps : List MemPlace} (h : DataW.LaidVars Tryz.prog W [("sealwax/sha.numbers256", Lib.tabData .u32 z_numbers256), ("sealwax/sha.first512", Lib.tabData .u64 z_first512), ("sealwax/sha.numbers512", Lib.tabData .u64 z_numbers512), ("sealwax/field.minusOneRoot", Lib.tabData .u64 [14190309331451158704, 3405592160176694392, 3120150775007532967, 3135389899092516619]), ("sealwax/curve.nought", .agg [Lib.tabData .u64 [0, 0, 0, 0], Lib.tabData .u64 [1, 0, 0, 0]]), ("sealwax/curve.twiceD", Lib.tabData .u64 [16993941304535871833, 63073048630374742, 1841551078520508720, 2596001775599221991])] ps) : G9w W := by
 obtain ⟨h_numbers256, p_numbers256, h⟩ := tab_nxt (n := 64) gs_numbers256 (t := 172) (by kernel_rfl) Tryz.underlying172 Tryz.underlying171 c32_9 (by kernel_rfl) h
 obtain ⟨h_first512, p_first512, h⟩ := tab_nxt (n := 8) gs_first512 (t := 86) (by kernel_rfl) Tryz.underlying86 Tryz.underlying33 c64_8 (by kernel_rfl) h
 obtain ⟨h_numbers512, p_numbers512, h⟩ := tab_nxt (n := 80) gs_numbers512 (t := 165) (by kernel_rfl) Tryz.underlying165 Tryz.underlying33 c64_8 (by kernel_rfl) h
 obtain ⟨ht, q, h⟩ := tab_nxt gM8 (t := 35) (by kernel_rfl) Tryz.underlying35 Tryz.underlying33 c64_8 c4_8 h
 have e0 : wd IM 0 = 14190309331451158704 := by decide +kernel
 have e1 : wd IM 1 = 3405592160176694392 := by decide +kernel
 have e2 : wd IM 2 = 3120150775007532967 := by decide +kernel
 have e3 : wd IM 3 = 3135389899092516619 := by decide +kernel
 refine ⟨g8_of h, ?_, ⟨fun k hk => ?_, fun k hk => ?_, fun k hk => ?_⟩⟩
 ·unfold Glb
  rw [e0, e1, e2, e3]
  exact ⟨ht.cell gM8 0 (by decide), ht.cell gM8 1 (by decide), ht.cell gM8 2 (by decide), ht.cell gM8 3 (by decide)⟩
 ·rw [h_first512.cell gs_first512 k (by exact hk), z_first512_at k hk]; unfold fst; rw [great_first]
 ·rw [h_numbers256.cell gs_numbers256 k (by exact hk), z_numbers256_at k hk, small_keys]
 ·rw [h_numbers512.cell gs_numbers512 k (by exact hk), z_numbers512_at k hk, great_keys]
end
end Go.Proofs.YtkbkalhcdbklkaaGreatDoor
