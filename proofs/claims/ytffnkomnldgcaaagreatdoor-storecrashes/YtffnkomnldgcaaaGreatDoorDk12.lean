/-
  Contract of Crash: the power goes, and comes.
-/
import Derived.Test.YtffnkomnldgcaaaGreatDoorDk11
namespace Go.Pal.Dk
open Go.Pal
/-- The first i files are as a crash leaves them. -/
def crashT (keep : List Int) (i : Nat) (l : List Fl) : List Fl := crashF keep 0 (l.take i) ++ l.drop i
theorem crashF_length (keep : List Int) : ∀ (l : List Fl) (i : Nat), (crashF keep i l).length = l.length
  | [], _ => rfl
  | f :: r, i => by simp [crashF, crashF_length keep r (i + 1)]
theorem crashF_names (keep : List Int) : ∀ (l : List Fl) (i : Nat), (crashF keep i l).map Fl.name = l.map Fl.name
  | [], _ => rfl
  | f :: r, i => by simp [crashF, crashF_names keep r (i + 1), cutF]
theorem crashF_snoc (keep : List Int) (x : Fl) : ∀ (l : List Fl) (i : Nat), crashF keep i (l ++ [x]) = crashF keep i l ++ [cutF (keptF keep (i + l.length) x) x]
  | [], i => by simp [crashF]
  | f :: r, i => by
    simp only [List.cons_append, crashF, crashF_snoc keep x r (i + 1), List.length_cons]
    rw [show i + 1 + r.length = i + (r.length + 1) by omega]
theorem crashT_zero (keep : List Int) (l : List Fl) : crashT keep 0 l = l := by simp [crashT, crashF]
theorem crashT_all (keep : List Int) (l : List Fl) : crashT keep l.length l = crashF keep 0 l := by simp [crashT]
theorem crashT_names (keep : List Int) (i : Nat) (l : List Fl) : (crashT keep i l).map Fl.name = l.map Fl.name := by
  rw [crashT, List.map_append, crashF_names, ← List.map_append, List.take_append_drop]
theorem crashT_split (keep : List Int) (i : Nat) (l : List Fl) (hi : i < l.length) : crashT keep i l = crashF keep 0 (l.take i) ++ l[i] :: l.drop (i + 1) := by
  rw [crashT, List.drop_eq_getElem_cons hi]
theorem crashT_succ (keep : List Int) (i : Nat) (l : List Fl) (hi : i < l.length) : crashT keep (i + 1) l = crashF keep 0 (l.take i) ++ cutF (keptF keep i l[i]) l[i] :: l.drop (i + 1) := by
  rw [crashT, List.take_succ_eq_append_getElem hi, crashF_snoc, List.append_assoc, List.length_take, Nat.zero_add, show min i l.length = i by omega]
  rfl
theorem atF_split {A B : List Fl} {f : Fl} (hs : SortedF (A ++ f :: B)) : atF (A ++ f :: B) f.name = some f := atF_mem hs (List.mem_append_right _ List.mem_cons_self)
theorem modF_split {A B : List Fl} {f : Fl} (hs : SortedF (A ++ f :: B)) (g : Fl → Fl) : modF f.name g (A ++ f :: B) = A ++ g f :: B := by
  have h1 := List.pairwise_append.1 hs
  have hA : ∀ a ∈ A, a.name ≠ f.name := fun a ha e => by have := h1.2.2 a ha f List.mem_cons_self; unfold ltB at this; rw [e] at this; exact List.lt_irrefl _ this
  have hB : ∀ b ∈ B, b.name ≠ f.name := fun b hb e => by have := (List.pairwise_cons.1 h1.2.1).1 b hb; unfold ltB at this; rw [e] at this; exact List.lt_irrefl _ this
  show (A ++ f :: B).map _ = _
  rw [List.map_append, List.map_cons, if_pos rfl]
  have e1 : (A.map fun x => if x.name = f.name then g x else x) = A := modF_same hA
  have e2 : (B.map fun x => if x.name = f.name then g x else x) = B := modF_same hB
  rw [e1, e2]
theorem crash_step (keep : List Int) (i : Nat) (l : List Fl) (hs : SortedF l) (hi : i < l.length) : atF (crashT keep i l) l[i].name = some l[i] ∧ modF l[i].name (cutF (keptF keep i l[i])) (crashT keep i l) = crashT keep (i + 1) l := by
  have hs2 := sorted_names (crashT_names keep i l).symm hs
  rw [crashT_split keep i l hi] at hs2 ⊢
  exact ⟨atF_split hs2, by rw [modF_split hs2, crashT_succ keep i l hi]⟩
end Go.Pal.Dk
namespace Go.Proofs.YtffnkomnldgcaaaGreatDoor
open Go.RowKit Go.Pal Go.Pal.Dk Go.Maps Go.Sort

/-- A row of ints that came in. -/
def IntRow (w : World) (a : Option Addr) (l : List Int) : Prop := l = [] ∨ ∃ b off, a = some ⟨b, off, none⟩ ∧ b < w.heap.size ∧ ∀ i, i < l.length → w.cell? ⟨b, off + i, none⟩ = some (.int .i64 (l.getD i 0))
/-- A row of another kind lies apart from a disk. -/
theorem DkAt.not_row {w : World} {base D : Nat} {d : Dk} {L : Lay} (h : DkAt w base D d L) {g : Nat} {cur : Array Value} (hg : w.heap[g]? = some (.cells cur 9 (0, 0))) : ¬ Foot D d.files L g := by
  rintro (rfl | hm | ⟨f, hf, rfl | hr⟩)
  · have h1 := h.blk
    unfold Blk at h1
    rw [hg] at h1
    injection h1 with h1
    injection h1 with _ h2
    exact absurd h2 (by decide)
  · obtain ⟨_, es, c, h1⟩ := h.map.lt hm
    rw [hg] at h1; cases h1
  · have h1 := (h.each f hf).blk
    unfold Blk at h1
    rw [hg] at h1
    injection h1 with h1
    injection h1 with _ h2
    exact absurd h2 (by decide)
  · obtain ⟨_, _, c, h1⟩ := own_lt (h.each f hf).row hr
    rw [hg] at h1
    injection h1 with h1
    injection h1 with _ h2
    exact absurd h2 (by decide)
/-- What a crash keeps from round to round. -/
structure Cr (w : World) (base D : Nat) (d : Dk) (L : Lay) (keep : List Int) (p : Option Addr) (cap : Nat) (i : Nat) (wr : World) : Prop where
  went : Went w base D d L { d with files := crashT keep i d.files } wr
  row : wr.ownsRow w.heap.size 9 1 (.slice p d.files.length cap) d.files.length (namesV d.files)

theorem Went.of_drew {w w' : World} {base D : Nat} {d d' : Dk} {L : Lay} (h : Went w.drew base D d L d' w') : Went w base D d L d' w' := by
  obtain ⟨L', h1, h2, h3⟩ := h
  exact ⟨L', h1, ⟨h2.os, h2.tape, h2.output, h2.size, h2.block⟩, h3⟩
theorem Cr.next {w wr w3 : World} {base D : Nat} {d : Dk} {L : Lay} {keep : List Int} {p : Option Addr} {cap i : Nat} {Li : Lay} (hrow : wr.ownsRow w.heap.size 9 1 (.slice p d.files.length cap) d.files.length (namesV d.files))
    (hD : DkAt wr base D { d with files := crashT keep i d.files } Li) (o1 : Off (Foot D d.files L) w wr) (f1 : ∀ x, Foot D (crashT keep i d.files) Li x → Foot D d.files L x ∨ w.heap.size ≤ x)
    (hW : Went wr base D { d with files := crashT keep i d.files } Li { d with files := crashT keep (i + 1) d.files } w3) : Cr w base D d L keep p cap (i + 1) w3 := by
  refine ⟨Went.then o1 f1 hW, ?_⟩
  obtain ⟨L', _, ho, _⟩ := hW
  refine own_kept hrow (fun g hg => ?_)
  obtain ⟨hlt, _, cur, hh⟩ := own_lt hrow hg
  exact ho.block g hlt (hD.not_row hh)

set_option maxHeartbeats 2000000 in
set_option maxRecDepth 100000 in
theorem crash_any {w : World} {base D : Nat} {d : Dk} {L : Lay} (h : DkAt w base D d L) (hlen : d.files.length ≤ 1000000000) (keep : List Int) (a : Option Addr) (kc : Nat) (hk : IntRow w a keep) (hkf : ∀ b off, keep ≠ [] → a = some ⟨b, off, none⟩ → ¬ Foot D d.files L b)
    (hkl : keep.length ≤ maxLen) (hkb : ∀ x ∈ keep, -9223372036854775808 ≤ x ∧ x ≤ 9223372036854775807) :
    Calls Tryz.prog 14 #[.pointer (some ⟨D, 0, none⟩), .slice a keep.length kc] w fun e w' => e = .returned (.tuple #[]) ∧ Went w base D d L (crashD d keep) w' := by
  unfold maxLen at hkl
  have HR := Lib.hid (rising_any h hlen)
  have HST := Lib.hid h.good.sorted
  have HGD := Lib.hid h.good
  have C0 := Lib.hid (fun (w1 : World) (p : Option Addr) (cap : Nat) (hb : Below w.heap.size w w1) (ho : w1.ownsRow w.heap.size 9 1 (.slice p d.files.length cap) d.files.length (namesV d.files)) =>
    show Cr w base D d L keep p cap 0 w1 from ⟨⟨L, by rw [crashT_zero]; exact h.below hb (Nat.le_refl _), Off.of_new hb _, fun x hx => .inl (by rw [crashT_zero] at hx; exact hx)⟩, ho⟩)
  have HK := Lib.hid hk
  have HKF := Lib.hid hkf
  have HKB := Lib.hid hkb
  clear h hk hkf hkb
  go_enter Tryz.func14, Tryz.ntmps14
  go_wp2_with fail
  refine HR.out.mono ?_
  rintro e w1 ⟨⟨v, rfl, hown⟩, hb⟩
  obtain ⟨p, cap, rfl, hcap, hcm⟩ := row_form hown
  unfold maxLen at hcm
  have CC := Lib.hid (C0.out w1 p cap hb hown)
  clear HR C0 hown hb
  go_wp2
  go_loopw [13] (fun i wr => ∃ k : Nat, k ≤ d.files.length ∧ i = .int .i64 k ∧ Cr w base D d L keep p cap k wr) (fun i _ => d.files.length - (intOf i).toNat)
  case atStart => exact ⟨0, Nat.zero_le _, rfl, CC.out⟩
  case round =>
    obtain ⟨k, hkl2, rfl, hC⟩ := hrel
    obtain ⟨hW, hrow⟩ := hC
    obtain ⟨Li, hD, ho, hft⟩ := hW
    by_cases hlt : k < d.files.length
    · have hnz : p ≠ none := by
        intro e; subst e
        rcases hrow.2 with ⟨_, h0⟩ | ⟨g, cap', cur, e, _⟩
        · omega
        · cases e
      obtain ⟨g, rfl⟩ : ∃ g, p = some ⟨g, 0, none⟩ := by
        rcases hrow.2 with ⟨_, h0⟩ | ⟨g, cap', cur, e, _⟩
        · omega
        · cases e; exact ⟨g, rfl⟩
      clear hnz
      obtain ⟨ck, _⟩ := own_cell hrow k hlt
      rw [namesV_get d.files k hlt] at ck
      obtain ⟨hat, hmod⟩ := crash_step keep k d.files HST.out hlt
      have hfm := (atF_some hat).1
      have hx := hD.each d.files[k] hfm
      have hnl := HGD.out.names d.files[k] (List.getElem_mem hlt)
      have hfz : d.files[k].data.size ≤ 4194304 := by
        have h1 := data_le_used (List.getElem_mem hlt)
        have h2 := HGD.out.used
        have h3 := HGD.out.room
        omega
      have hfs := HGD.out.safe d.files[k] (List.getElem_mem hlt)
      have hlook := hD.look d.files[k].name (by unfold maxLen; omega)
      rw [ptrV_some hat] at hlook
      have c2 : wr.cell? ⟨D, 2, none⟩ = some (.map Li.map) := hD.blk.cell 2
      obtain ⟨p2, cap2, hv, _, hcm2⟩ := row_form hx.row
      have hB := hx.blk
      have k0 := hB.cell 0
      have k1 := hB.cell 1
      rw [hv] at k0
      simp only [List.getElem?_cons_zero, List.getElem?_cons_succ] at k0 k1
      have hkept : keptF keep k d.files[k] ≤ d.files[k].data.size := by unfold keptF; omega
      have HLV := Lib.hid (leave_any hD (n := d.files[k].name) (f := d.files[k]) hat hkept)
      have HLD := Lib.hid (leave_any hD.drew (n := d.files[k].name) (f := d.files[k]) hat hkept)
      have HNX := Lib.hid (fun w3 hW => Cr.next (w3 := w3) (d := d) (L := L) hrow hD ho hft hW)
      rw [show ({ ({ d with files := crashT keep k d.files } : Dk) with files := modF d.files[k].name (cutF (keptF keep k d.files[k])) ({ d with files := crashT keep k d.files } : Dk).files } : Dk) = { d with files := crashT keep (k + 1) d.files } by
        show ({ d with files := modF d.files[k].name (cutF (keptF keep k d.files[k])) (crashT keep k d.files) } : Dk) = _
        rw [hmod]] at HLV HLD
      have HKE := Lib.hid (show keptF keep k d.files[k] = d.files[k].safe + min (keep.getD k 0).toNat (d.files[k].data.size - d.files[k].safe) from rfl)
      have HKC := Lib.hid (show k < keep.length → ∃ b off, a = some ⟨b, off, none⟩ ∧ wr.cell? ⟨b, off + k, none⟩ = some (.int .i64 (keep.getD k 0)) by
        intro hkk
        rcases HK.out with h0 | ⟨b, off, rfl, hbl, hc⟩
        · rw [h0] at hkk; cases hkk
        · exact ⟨b, off, rfl, (World.cell?_of_block (a := ⟨b, off + k, none⟩) (ho.block b hbl (HKF.out b off (fun h0 => by rw [h0] at hkk; cases hkk) rfl))).trans (hc k hkk)⟩)
      have HXB := Lib.hid (show k < keep.length → -9223372036854775808 ≤ keep.getD k 0 ∧ keep.getD k 0 ≤ 9223372036854775807 by
        intro hkk
        have : keep.getD k 0 = keep[k] := by simp [List.getD_eq_getElem?_getD, hkk]
        rw [this]; exact HKB.out _ (List.getElem_mem hkk))
      have HX0 := Lib.hid (show ¬ k < keep.length → keep.getD k 0 = 0 by
        intro hkk
        rw [List.getD_eq_getElem?_getD, List.getElem?_eq_none (by omega)]; rfl)
      clear hB hv hx hfm hat hmod hD hrow ho hft hkept
      generalize keptF keep k d.files[k] = kk at *
      generalize keep.getD k 0 = x at *
      generalize d.files[k].safe = sf at *
      generalize d.files[k].data.size = z at *
      generalize Li.fb d.files[k].name = F at *
      generalize d.files[k].name = nm at *
      by_cases hkk : k < keep.length
      · obtain ⟨b, off, rfl, kx⟩ := HKC.out hkk
        obtain ⟨x1, x2⟩ := HXB.out hkk
        have dk : decide ((k : Int) < (keep.length : Int)) = true := decide_eq_true (by omega)
        have hwz : IntKind.i64.wrap ((z : Int) - (sf : Int)) = (z : Int) - (sf : Int) := by rw [IntKind.wrap_i64]; omega
        have hks : (sf : Int) + min (max x 0) ((z : Int) - (sf : Int)) = (kk : Int) := by rw [HKE.out]; omega
        rw [← hks] at HLD
        clear HKC HXB HKE hks
        go_wp2
        go_region
        all_goals
          go_wp2_with fail
          refine HLD.out.mono ?_
          rintro e w3 ⟨rfl, hW3⟩
          have HN := Lib.hid (HNX.out w3 hW3.of_drew)
          clear hW3 HNX HLV HLD
          go_wp2
          go_roundw
          case rel => exact ⟨k + 1, by omega, by go_num, HN.out⟩
          case measure => simp [intOf]; omega
      · have dk : decide ((k : Int) < (keep.length : Int)) = false := decide_eq_false (by omega)
        have hx0 := HX0.out hkk
        subst hx0
        have hks : kk = sf := by rw [HKE.out]; simp
        subst hks
        clear HKE HKC HXB HX0
        go_wp2_with fail
        refine HLV.out.mono ?_
        rintro e w3 ⟨rfl, hW3⟩
        have HN := Lib.hid (HNX.out w3 hW3)
        clear hW3 HNX HLV
        go_wp2
        go_roundw
        case rel => exact ⟨k + 1, by omega, by go_num, HN.out⟩
        case measure => simp [intOf]; omega
    · have hkd : k = d.files.length := by omega
      have c3 : wr.cell? ⟨D, 3, none⟩ = some (.bool d.on) := hD.blk.cell 3
      have c4 : wr.cell? ⟨D, 4, none⟩ = some (.bool d.arm.isSome) := hD.blk.cell 4
      have c5 : wr.cell? ⟨D, 5, none⟩ = some (.int .i64 ((d.arm.getD 0 : Nat) : Int)) := hD.blk.cell 5
      have f3 := hD.blk.frozen 3
      have f4 := hD.blk.frozen 4
      have f5 := hD.blk.frozen 5
      have HD := Lib.hid hD
      have HO := Lib.hid ho
      have HFT := Lib.hid hft
      have HKD := Lib.hid hkd
      clear hD ho hft hrow hkd
      go_wp2
      go_end0
      have hg : wr.grownBy (((wr.setCell ⟨D, 3, none⟩ (.bool true)).setCell ⟨D, 4, none⟩ (.bool false)).setCell ⟨D, 5, none⟩ (.int .i64 0)) (some D) := grow_set (grow_set (grow_set (World.grownBy.refl wr _) rfl) rfl) rfl
      have hh := HD.out.head (on := true) (arm := none) (Nat.zero_le _) hg (((HD.out.blk.set 3 (.bool true)).set 4 (.bool false)).set 5 (.int .i64 0))
      have he : ({ ({ d with files := crashT keep k d.files } : Dk) with on := true, arm := none } : Dk) = crashD d keep := by
        unfold crashD
        rw [HKD.out, crashT_all]
      rw [he] at hh
      have hff : (crashD d keep).files = crashT keep k d.files := by rw [← he]
      refine ⟨rfl, Went.then HO.out HFT.out (Went.head (d := { d with files := crashT keep k d.files }) hh hff hg)⟩
set_option maxHeartbeats 400000 in
set_option maxRecDepth 100000 in
theorem crash_nil (w : World) (a : Option Addr) (n c : Nat) :
    Calls Tryz.prog 14 #[.pointer none, .slice a n c] w fun e w' => e = .returned (.tuple #[]) ∧ w' = w := by
  go_enter Tryz.func14, Tryz.ntmps14
  go_wp2
  refine bodyPost_ret (results_none rfl _ _ _) rfl ?_
  exact ⟨rfl, rfl⟩
end Go.Proofs.YtffnkomnldgcaaaGreatDoor
