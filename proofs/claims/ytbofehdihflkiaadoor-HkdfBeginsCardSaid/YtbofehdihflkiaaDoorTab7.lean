/-
  From what the row says of the tables to what the walks ask. Written by tools/gen_tab.py. By an AI agent.
-/
import Derived.Test.YtbofehdihflkiaaDoorN22
import Derived.Test.YtbofehdihflkiaaDoorN14
import Derived.Lib.LaidTab
namespace Go.Proofs.YtbofehdihflkiaaDoor
open Go Go.RowKit
theorem tab_next {P : Program} {W : World} {name : String} {k : IntKind} {zs : List Int} {rest : List (String × DataW Unit)} {g : Nat} {t e : TypeId} {n : Nat} {ps : List MemPlace}
    (hg : P.globalNamed name = some g) (hty : (P.globals[g]?).map (·.type) = some t) (ht : P.underlying t = some (.array n e)) (he : P.underlying e = some (.int k)) (hce : P.cellsOf e = 1) (hct : P.cellsOf t = n)
    (h : DataW.LaidVars P W ((name, Lib.tabData k zs) :: rest) ps) : Lib.TabIs P W name k zs ∧ ∃ q, DataW.LaidVars P W rest q := by
  obtain ⟨g', t', cs, fuel, p, q, hg', ht', hvar, hd, hr, _⟩ := h
  obtain rfl := Option.some.inj (hg.symm.trans hg')
  obtain rfl := Option.some.inj (hty.symm.trans ht')
  refine ⟨?_, q, hr⟩
  unfold Lib.TabIs
  rw [hvar, ← Lib.cells_of_tab ht he hce hct hd]
def z_first256 : List Int := [1779033703, 3144134277, 1013904242, 2773480762, 1359893119, 2600822924, 528734635, 1541459225]
theorem z_first256_at : ∀ k, k < 8 → z_first256.getD k 0 = ((h256.getD k 0 : Nat) : Int) := by decide +kernel
def z_numbers256 : List Int := [1116352408, 1899447441, 3049323471, 3921009573, 961987163, 1508970993, 2453635748, 2870763221, 3624381080, 310598401, 607225278, 1426881987, 1925078388, 2162078206, 2614888103, 3248222580, 3835390401, 4022224774, 264347078, 604807628, 770255983, 1249150122, 1555081692, 1996064986, 2554220882, 2821834349, 2952996808, 3210313671, 3336571891, 3584528711, 113926993, 338241895, 666307205, 773529912, 1294757372, 1396182291, 1695183700, 1986661051, 2177026350, 2456956037, 2730485921, 2820302411, 3259730800, 3345764771, 3516065817, 3600352804, 4094571909, 275423344, 430227734, 506948616, 659060556, 883997877, 958139571, 1322822218, 1537002063, 1747873779, 1955562222, 2024104815, 2227730452, 2361852424, 2428436474, 2756734187, 3204031479, 3329325298]
theorem z_numbers256_at : ∀ k, k < 64 → z_numbers256.getD k 0 = ((k256.getD k 0 : Nat) : Int) := by decide +kernel
def z_numbers512 : List Int := [4794697086780616226, 8158064640168781261, 13096744586834688815, 16840607885511220156, 4131703408338449720, 6480981068601479193, 10538285296894168987, 12329834152419229976, 15566598209576043074, 1334009975649890238, 2608012711638119052, 6128411473006802146, 8268148722764581231, 9286055187155687089, 11230858885718282805, 13951009754708518548, 16472876342353939154, 17275323862435702243, 1135362057144423861, 2597628984639134821, 3308224258029322869, 5365058923640841347, 6679025012923562964, 8573033837759648693, 10970295158949994411, 12119686244451234320, 12683024718118986047, 13788192230050041572, 14330467153632333762, 15395433587784984357, 489312712824947311, 1452737877330783856, 2861767655752347644, 3322285676063803686, 5560940570517711597, 5996557281743188959, 7280758554555802590, 8532644243296465576, 9350256976987008742, 10552545826968843579, 11727347734174303076, 12113106623233404929, 14000437183269869457, 14369950271660146224, 15101387698204529176, 15463397548674623760, 17586052441742319658, 1182934255886127544, 1847814050463011016, 2177327727835720531, 2830643537854262169, 3796741975233480872, 4115178125766777443, 5681478168544905931, 6601373596472566643, 7507060721942968483, 8399075790359081724, 8693463985226723168, 9568029438360202098, 10144078919501101548, 10430055236837252648, 11840083180663258601, 13761210420658862357, 14299343276471374635, 14566680578165727644, 15097957966210449927, 16922976911328602910, 17689382322260857208, 500013540394364858, 748580250866718886, 1242879168328830382, 1977374033974150939, 2944078676154940804, 3659926193048069267, 4368137639120453308, 4836135668995329356, 5532061633213252278, 6448918945643986474, 6902733635092675308, 7801388544844847127]
theorem z_numbers512_at : ∀ k, k < 80 → z_numbers512.getD k 0 = ((k512.getD k 0 : Nat) : Int) := by decide +kernel
theorem glb_of {W : World} {ps : List MemPlace} (h : DataW.LaidVars Tryd.prog W [("sealwax/sha.first256", Lib.tabData .u32 z_first256), ("sealwax/sha.numbers256", Lib.tabData .u32 z_numbers256), ("sealwax/sha.numbers512", Lib.tabData .u64 z_numbers512)] ps) : Glb W := by
  have g_first256 : Tryd.prog.globalNamed "sealwax/sha.first256" = some 0 := by kernel_rfl
  have g_numbers256 : Tryd.prog.globalNamed "sealwax/sha.numbers256" = some 1 := by kernel_rfl
  have g_numbers512 : Tryd.prog.globalNamed "sealwax/sha.numbers512" = some 2 := by kernel_rfl
  have c32 : Tryd.prog.cellsOf 58 = 1 := by kernel_rfl
  have c64 : Tryd.prog.cellsOf 54 = 1 := by kernel_rfl
  obtain ⟨h_first256, p_first256, h⟩ := tab_next (n := 8) g_first256 (t := 59) (by kernel_rfl) Tryd.underlying59 Tryd.underlying58 c32 (by kernel_rfl) h
  obtain ⟨h_numbers256, p_numbers256, h⟩ := tab_next (n := 64) g_numbers256 (t := 85) (by kernel_rfl) Tryd.underlying85 Tryd.underlying58 c32 (by kernel_rfl) h
  obtain ⟨h_numbers512, p_numbers512, h⟩ := tab_next (n := 80) g_numbers512 (t := 86) (by kernel_rfl) Tryd.underlying86 Tryd.underlying54 c64 (by kernel_rfl) h
  refine ⟨fun k hk => ?_, fun k hk => ?_, fun k hk => ?_⟩
  · rw [h_first256.cell g_first256 k (by exact hk), z_first256_at k hk]; unfold fst; rw [small_first]
  · rw [h_numbers256.cell g_numbers256 k (by exact hk), z_numbers256_at k hk, small_keys]
  · rw [h_numbers512.cell g_numbers512 k (by exact hk), z_numbers512_at k hk, great_keys]
end Go.Proofs.YtbofehdihflkiaaDoor
