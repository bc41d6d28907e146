/-
  Contract of sha.Sum: the digest of bytes.
-/
import Derived.Test.YtggfmnmopfdiaaaGreatDoorSh5
namespace Go.Proofs.YtggfmnmopfdiaaaGreatDoor
open Go.RowKit Go.Pal

theorem copy_long (w : World) (g : Nat) (l : List Value) (t : TypeId) (s : ByteArray) (hg : Blk w g t l) (hs : 64 ≤ s.size) (hl : l.length = 64) :
    (Builtin.copy_ #[79, 9] 3 #[.slice (some ⟨g, 0, none⟩) 64 64, .string s]).run Tryz.prog w = .ok (.int .i64 64) (w.setRow g ((s.data.toList.take 64).map byteV).toArray) := by
  have hlen : ((s.data.toList.take 64).map byteV).length = 64 := by simp; omega
  have hst := run_storeCells_at Tryz.prog g 0 t ((s.data.toList.take 64).map byteV) 0 l.toArray w hg (by rw [hlen]; simp [hl]) (Lib.byteCells_one _)
  have hmin : Nat.min s.size 64 = 64 := Nat.min_eq_right hs
  have htk : List.take 64 (List.map (fun b : UInt8 => Value.int IntKind.u8 (b.toNat : Int)) s.data.toList) = (s.data.toList.take 64).map byteV := by rw [← List.map_take]; rfl
  have hinfo : (Tryz.prog.info? 5).map (·.size) = some 1 := by kernel_rfl
  rw [hlen] at hst
  cases hq : Tryz.prog.info? 5 with
  | none => simp [hq] at hinfo
  | some i =>
    simp [Builtin.copy_, run_underlying Tryz.underlying79, Builtin.lenOf, Builtin.firstCells, sizeOf, typeInfo, hq, hmin]
    rw [htk, hst]
    have e : List.take 0 l ++ List.map byteV (List.take 64 s.data.toList) ++ List.drop 64 l = List.map byteV (List.take 64 s.data.toList) := by
      rw [List.take_zero, List.nil_append, List.drop_of_length_le (by omega), List.append_nil]
    have e2 : (l.toArray.toList.take (0 + 0) ++ (s.data.toList.take 64).map byteV ++ l.toArray.toList.drop (0 + 0 + 64)) = (s.data.toList.take 64).map byteV := e
    rw [e2, ← List.map_take]
    rfl

/-- How long a text in a slot is. -/
def lenV : Value → Nat | .string s => s.size | _ => 0

theorem drop_data (s : ByteArray) (k : Nat) : (s.extract k s.size).data.toList = s.data.toList.drop k := by
  have h : (s.extract k s.size).data.toList = (s.data.toList.drop k).take (s.size - k) := by simp
  rw [h, List.take_of_length_le (by simp)]

set_option maxHeartbeats 1000000 in
set_option maxRecDepth 100000 in
theorem sum_any (w : World) (s : ByteArray) (hs : s.size ≤ 281474976710656) (ht : Tabs w) :
    Calls Tryz.prog 79 #[.string s] w fun e w' => e = .returned (.string (shaB s)) ∧ Below w.heap.size w w' := by
  obtain ⟨t0, fr0, hf⟩ := ht.first
  have hi : (Tryz.prog.info? 134).map (·.size) = some ((Ht.map wordV).toArray.size) := by kernel_rfl
  have ho : (Ht.map wordV).toArray.all (·.oneCell') = true := by simp [wordV, Value.oneCell']
  have HI := Lib.hid hi
  have HO := Lib.hid ho
  have HT := Lib.hid ht
  have h2 := ht.two
  clear hi ho ht
  go_enter Tryz.func79, Tryz.ntmps79
  go_wp2_with (first
    | (refine wpList_load_row rfl 134 _ rfl 0 rfl t0 (Ht.map wordV).toArray fr0 _ hf Tryz.underlying134 rfl HI.out ?_)
    | (refine wpList_store_made rfl 134 _ _ rfl _ (Ht.map wordV).toArray 134 rfl rfl HI.out rfl HO.out ?_))
  go_loopw [5] (fun v wr => ∃ k : Nat, ∃ bl : List Value, 64 * k ≤ s.size ∧ v = .string (s.extract (64 * k) s.size) ∧ bl.length = 64 ∧ Blk wr w.heap.size 134 (absorb H0 s.data.toList k).vals ∧ Blk wr (w.heap.size + 1) 145 bl ∧ Below w.heap.size w wr) (fun v _ => lenV v)
  case atStart =>
    refine ⟨0, [Value.int .u8 0, Value.int .u8 0, Value.int .u8 0, Value.int .u8 0, Value.int .u8 0, Value.int .u8 0, Value.int .u8 0, Value.int .u8 0, Value.int .u8 0, Value.int .u8 0, Value.int .u8 0, Value.int .u8 0, Value.int .u8 0, Value.int .u8 0, Value.int .u8 0, Value.int .u8 0, Value.int .u8 0, Value.int .u8 0, Value.int .u8 0, Value.int .u8 0, Value.int .u8 0, Value.int .u8 0, Value.int .u8 0, Value.int .u8 0, Value.int .u8 0, Value.int .u8 0, Value.int .u8 0, Value.int .u8 0, Value.int .u8 0, Value.int .u8 0, Value.int .u8 0, Value.int .u8 0, Value.int .u8 0, Value.int .u8 0, Value.int .u8 0, Value.int .u8 0, Value.int .u8 0, Value.int .u8 0, Value.int .u8 0, Value.int .u8 0, Value.int .u8 0, Value.int .u8 0, Value.int .u8 0, Value.int .u8 0, Value.int .u8 0, Value.int .u8 0, Value.int .u8 0, Value.int .u8 0, Value.int .u8 0, Value.int .u8 0, Value.int .u8 0, Value.int .u8 0, Value.int .u8 0, Value.int .u8 0, Value.int .u8 0, Value.int .u8 0, Value.int .u8 0, Value.int .u8 0, Value.int .u8 0, Value.int .u8 0, Value.int .u8 0, Value.int .u8 0, Value.int .u8 0, Value.int .u8 0], by omega, ?_, rfl, ?_, Blk.new' _ _ _ (by simp), ((Below.refl _ _).alloc (Nat.le_refl _) _).alloc (by simp) _⟩
    · have e : s.extract (64 * 0) s.size = s := by simp
      rw [e]
    · exact (Blk.new' _ _ _ rfl).alloc _
  case round =>
    clear hf HI HO
    obtain ⟨k, bl, hk, rfl, hbl, hS, hB, hb⟩ := hrel
    have hz : (s.extract (64 * k) s.size).size = s.size - 64 * k := by rw [ByteArray.size_extract]; omega
    have hdat := drop_data s (64 * k)
    have hT := HT.out.grown (Lib.grownBy_below (World.grownBy.refl w none) hb) (by intro k hk; cases hk)
    by_cases hlt : 64 * (k + 1) ≤ s.size
    · have hcp := copy_long wr (w.heap.size + 1) bl 145 (s.extract (64 * k) s.size) hB (by omega) hbl
      rw [hdat] at hcp
      have hB2 := hB.row (((s.data.toList.drop (64 * k)).take 64).map byteV)
      have hS2 := hS.row_other (C := w.heap.size + 1) (by omega) (((s.data.toList.drop (64 * k)).take 64).map byteV).toArray
      have hb2 := below_row hb (B := w.heap.size + 1) (by omega) (((s.data.toList.drop (64 * k)).take 64).map byteV).toArray
      have hT2 := HT.out.grown (Lib.grownBy_below (World.grownBy.refl w none) hb2) (by intro k hk; cases hk)
      have hlen : ((s.data.toList.drop (64 * k)).take 64).length = 64 := by simp; omega
      have hext : (s.extract (64 * k) s.size).extract 64 (s.extract (64 * k) s.size).size = s.extract (64 * (k + 1)) s.size := by
        rw [ByteArray.ext_iff]
        simp [hz]
        rw [show 64 * k + (s.size - 64 * k) = s.size by omega, Nat.min_self, show 64 * k + 64 = 64 * (k + 1) by omega]
      have hd : decide (64 ≤ ((s.extract (64 * k) s.size).size : Int)) = true := by simp; omega
      have hnext : absorb H0 s.data.toList (k + 1) = mixS (absorb H0 s.data.toList k) ((s.data.toList.drop (64 * k)).take 64) := rfl
      generalize (s.data.toList.drop (64 * k)).take 64 = X at *
      have hRs : (s.extract (64 * k) s.size).size = s.size - 64 * k := hz
      have hXs : (s.extract (64 * (k + 1)) s.size).size = s.size - 64 * (k + 1) := by rw [ByteArray.size_extract]; omega
      generalize hR : s.extract (64 * k) s.size = R at *
      have HM := Lib.hid (mix_any _ w.heap.size (w.heap.size + 1) (absorb H0 s.data.toList k) _ hlen hT2 hS2 hB2)
      have HB2 := Lib.hid hB2
      have Hb2 := Lib.hid hb2
      have HX := Lib.hid hext
      have HN := Lib.hid hnext
      have HRS := Lib.hid hRs
      have HXS := Lib.hid hXs
      have hlenR : 64 ≤ R.size := by omega
      have hxl : (X.map byteV).length = 64 := by rw [List.length_map]; exact hlen
      have HXL := Lib.hid hxl
      clear hR hT hT2 hS hB hb hdat hB2 hS2 hb2 hlen hext hz hnext hRs hXs hxl
      go_wp2_with fail
      refine HM.out.mono ?_
      rintro e w3 ⟨rfl, hb3, hg3⟩
      have HB3 := Lib.hid hb3
      have HG3 := Lib.hid hg3
      clear hb3 hg3 hcp HM
      go_wp2
      rw [HX.out]
      go_roundw
      case rel =>
        refine ⟨k + 1, X.map byteV, by omega, rfl, HXL.out, ?_, ?_, ?_⟩
        · rw [HN.out]; exact HB3.out
        · exact HB2.out.grown HG3.out (by simp)
        · exact Hb2.out.grown HG3.out Hb2.out.size (by intro j hj; cases hj; exact Nat.le_refl _)
      case measure =>
        simp only [lenV, HXS.out]
        have := HRS.out
        simp
        omega
    · have hd : decide (64 ≤ ((s.extract (64 * k) s.size).size : Int)) = false := by simp; omega
      have hrs : (s.extract (64 * k) s.size).size < 64 := by omega
      have hkd : k = s.size / 64 := by omega
      have hll : s.data.toList.length = s.size := by simp
      have hfin : shaB s = ⟨(outS (lastS (absorb H0 s.data.toList k) (s.extract (64 * k) s.size).data.toList (8 * s.size))).toArray⟩ := by
        rw [shaB, shaL, hll, ← hkd, hdat]
      have HF := Lib.hid hfin
      have HL := Lib.hid (mixLast_any wr w.heap.size (absorb H0 s.data.toList k) (s.extract (64 * k) s.size) (8 * s.size) (by omega) hrs hT (by omega) hS)
      have Hb := Lib.hid hb
      generalize s.extract (64 * k) s.size = R at *
      clear hT hS hB hb hdat hz hkd hll hfin hbl hlt hk
      go_wp2_with fail
      rw [show (s.size : Int) * 8 = ((8 * s.size : Nat) : Int) by omega]
      refine HL.out.mono ?_
      rintro e w3 ⟨rfl, hb3, hg3⟩
      go_wp2_with fail
      refine (digest_any w3 w.heap.size _ hb3).mono ?_
      rintro e w4 ⟨rfl, hb4⟩
      have f3 := Hb.out.grown hg3 Hb.out.size (by intro j hj; cases hj; exact Nat.le_refl _)
      have F4 := Lib.hid (f3.trans (hb4.mono f3.size))
      clear hb3 hg3 hb4 f3
      go_wp2
      go_ret
      rw [HF.out]
      exact ⟨rfl, F4.out⟩

end Go.Proofs.YtggfmnmopfdiaaaGreatDoor
