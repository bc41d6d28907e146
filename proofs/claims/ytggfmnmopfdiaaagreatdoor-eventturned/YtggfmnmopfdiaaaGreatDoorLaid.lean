/-
  What the listed tables give: the facts that the walks ask of the world.
-/
import Derived.Test.YtggfmnmopfdiaaaGreatDoorIn2
import Derived.Test.YtggfmnmopfdiaaaGreatDoorCards
import Derived.Test.YtggfmnmopfdiaaaGreatDoorTie
import Derived.Lib.LaidTab
import Derived.Deep.DeepHandedRow
namespace Go.Proofs.YtggfmnmopfdiaaaGreatDoor
open Go.RowKit Go.Pal

theorem words_eq : ∀ i, i < 64 → ([1116352408, 1899447441, 3049323471, 3921009573, 961987163, 1508970993, 2453635748, 2870763221, 3624381080, 310598401, 607225278, 1426881987, 1925078388, 2162078206, 2614888103, 3248222580, 3835390401, 4022224774, 264347078, 604807628, 770255983, 1249150122, 1555081692, 1996064986, 2554220882, 2821834349, 2952996808, 3210313671, 3336571891, 3584528711, 113926993, 338241895, 666307205, 773529912, 1294757372, 1396182291, 1695183700, 1986661051, 2177026350, 2456956037, 2730485921, 2820302411, 3259730800, 3345764771, 3516065817, 3600352804, 4094571909, 275423344, 430227734, 506948616, 659060556, 883997877, 958139571, 1322822218, 1537002063, 1747873779, 1955562222, 2024104815, 2227730452, 2361852424, 2428436474, 2756734187, 3204031479, 3329325298] : List Int).getD i 0 = u (Kt.getD i 0) := by decide +kernel
theorem first_eq : (([1779033703, 3144134277, 1013904242, 2773480762, 1359893119, 2600822924, 528734635, 1541459225] : List Int).map fun z => Value.int .u32 z).toArray = (Ht.map wordV).toArray := rfl

theorem heap_of_var {P : Program} {w : World} {name : String} {g : Nat} {cs : Array Value} (hg : P.globalNamed name = some g) (h : w.var? P name = some cs) : ∃ t fr, w.heap[g]? = some (.cells cs t fr) := by
  unfold World.var? at h
  rw [hg] at h
  simp only [Option.bind_some] at h
  cases hq : w.heap[g]? with
  | none => rw [hq] at h; cases h
  | some o =>
    rw [hq] at h
    cases o with
    | cells c t fr => exact ⟨t, fr, by rw [Option.some.inj h]⟩
    | _ => cases h

theorem laid_tail {P : Program} {W : World} {x : String × DataW Unit} {l : List (String × DataW Unit)} (h : laidMet P (x :: l) W) : laidMet P l W := by
  obtain ⟨ps, ⟨g, t, cs, fuel, p, q, _, _, _, _, hq, hps⟩, hnd, hr⟩ := h
  subst hps
  exact ⟨q, hq, (List.nodup_append.1 hnd).2.1, fun b off hp => hr b off (List.mem_append_right _ hp)⟩

theorem tabs_of_laid {W : World} (h : laidMetH Tryz.prog Rows.eventSignsRow.laid W) : Tabs W := by
  have h1 : Lib.TabIs Tryz.prog W _ .u32 [1779033703, 3144134277, 1013904242, 2773480762, 1359893119, 2600822924, 528734635, 1541459225] := Lib.tabIs_of_head (g := 0) (t := 134) (by kernel_rfl) (by kernel_rfl) Tryz.underlying134 Tryz.underlying54 (by kernel_rfl) (by kernel_rfl) h
  have h2 : Lib.TabIs Tryz.prog W _ .u32 [1116352408, 1899447441, 3049323471, 3921009573, 961987163, 1508970993, 2453635748, 2870763221, 3624381080, 310598401, 607225278, 1426881987, 1925078388, 2162078206, 2614888103, 3248222580, 3835390401, 4022224774, 264347078, 604807628, 770255983, 1249150122, 1555081692, 1996064986, 2554220882, 2821834349, 2952996808, 3210313671, 3336571891, 3584528711, 113926993, 338241895, 666307205, 773529912, 1294757372, 1396182291, 1695183700, 1986661051, 2177026350, 2456956037, 2730485921, 2820302411, 3259730800, 3345764771, 3516065817, 3600352804, 4094571909, 275423344, 430227734, 506948616, 659060556, 883997877, 958139571, 1322822218, 1537002063, 1747873779, 1955562222, 2024104815, 2227730452, 2361852424, 2428436474, 2756734187, 3204031479, 3329325298] := Lib.tabIs_of_head (g := 1) (t := 136) (by kernel_rfl) (by kernel_rfl) Tryz.underlying136 Tryz.underlying54 (by kernel_rfl) (by kernel_rfl) (laid_tail h)
  refine ⟨fun i hi => ?_, ?_, ?_⟩
  · rw [h2.cell (g := 1) (by kernel_rfl) i hi, words_eq i hi]
  · have := heap_of_var (g := 0) (by kernel_rfl) h1
    rwa [first_eq] at this
  · have := h2.cell (g := 1) (by kernel_rfl) 0 (by decide)
    have := block_lt_of_cell this
    simp at this
    omega

end Go.Proofs.YtggfmnmopfdiaaaGreatDoor
