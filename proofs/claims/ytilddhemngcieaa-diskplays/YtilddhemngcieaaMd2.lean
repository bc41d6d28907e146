/-
  The law's model: a crash.
-/
import Derived.Test.YtilddhemngcieaaMd1
namespace Go.Pal.Dk
open Go.Pal
def mixF (keep : List Int) : Nat → Nat → List Fl → List Fl
  | _, 0, l => l
  | _, _ + 1, [] => []
  | i, k + 1, f :: r => cutF (keptF keep i f) f :: mixF keep (i + 1) k r
theorem mixF_all (keep : List Int) : ∀ (l : List Fl) (i : Nat), mixF keep i l.length l = crashF keep i l
  | [], _ => rfl
  | f :: r, i => by simp only [List.length_cons, mixF, crashF]; rw [mixF_all keep r (i + 1)]
theorem mixF_length (keep : List Int) : ∀ (l : List Fl) (i k : Nat), (mixF keep i k l).length = l.length
  | [], _, 0 => rfl
  | [], _, _ + 1 => rfl
  | _ :: _, _, 0 => rfl
  | f :: r, i, k + 1 => by simp [mixF, mixF_length keep r (i + 1) k]
theorem mixF_get (keep : List Int) : ∀ (l : List Fl) (i k : Nat), (mixF keep i k l)[k]? = l[k]?
  | [], _, 0 => rfl
  | [], _, _ + 1 => rfl
  | _ :: _, _, 0 => rfl
  | f :: r, i, k + 1 => by simp only [mixF, List.getElem?_cons_succ]; exact mixF_get keep r (i + 1) k
theorem mixF_set (keep : List Int) : ∀ (l : List Fl) (i k : Nat) (hk : k < l.length), mixF keep i (k + 1) l = (mixF keep i k l).set k (cutF (keptF keep (i + k) l[k]) l[k])
  | f :: r, i, 0, _ => by cases r <;> rfl
  | f :: r, i, k + 1, hk => by
    simp only [mixF, List.set_cons_succ, List.getElem_cons_succ]
    have := mixF_set keep r (i + 1) k (by simpa using hk)
    rw [show i + 1 + k = i + (k + 1) by omega] at this
    rw [← this]
end Go.Pal.Dk
namespace Go.Proofs.Ytilddhemngcieaa
open Go.RowKit Go.Pal Go.Pal.Dk
theorem MdAt.drew {w : World} {base M : Nat} {d : Dk} {v : Value} {left : Nat} (h : MdAt w base M d v left) : MdAt w.drew base M d v left := h.keep fun _ _ => rfl
theorem MdAt.put {w : World} {base M g cap n : Nat} {d : Dk} {left : Nat} (h : MdAt w base M d (.slice (some ⟨g, 0, none⟩) n cap) left) (i : Nat) (hi : i < d.files.length) (j : Nat) (hj : j < 3) (x : Value) (f : Fl) (hf : (fileV d.files[i]).set j x = fileV f) :
    MdAt (w.setCell ⟨g, i * 3 + j, none⟩ x) base M { d with files := d.files.set i f } (.slice (some ⟨g, 0, none⟩) n cap) left := by
  have hne : g ≠ M := fun e => h.ne (by rw [e]; rfl)
  obtain ⟨p, c, e, _⟩ := row3_form h.row
  cases e
  refine ⟨h.blk.other (p := ⟨g, i * 3 + j, none⟩) (fun e => hne e.symm) x, ?_, h.small, h.arm, h.mbase⟩
  show World.ownsRow _ base _ 3 _ (d.files.set i f).length (cellsF (d.files.set i f))
  rw [List.length_set, ← cellsF_set d.files i hi j x f hj hf]
  exact own3_set h.row _ x
theorem MdAt.frozen {w : World} {base M g cap n : Nat} {d : Dk} {left : Nat} (h : MdAt w base M d (.slice (some ⟨g, 0, none⟩) n cap) left) (k : Nat) : w.frozen? ⟨g, k, none⟩ = false := by
  rcases h.row.2 with ⟨h1, _⟩ | ⟨g', cap', cur, e, _, hh, _⟩
  · cases h1
  · cases e; simp [World.frozen?, hh]
/-- Whether it is on, and armed. -/
theorem MdAt.head {w : World} {base M : Nat} {d : Dk} {v : Value} {left : Nat} (h : MdAt w base M d v left) {w' : World} {on : Bool} {arm : Option Nat} {left' : Nat} (hs : left' ≤ 9223372036854775807) (ha : ∀ k, arm = some k → left' = k) (hg : w.grownBy w' (some M))
    (hB : Blk w' M 45 [.int .i64 (d.room : Int), v, .bool (!on), .bool arm.isSome, .int .i64 (left' : Int)]) : MdAt w' base M { d with on := on, arm := arm } v left' :=
  ⟨hB, own_kept h.row (fun g hg' => hg.block g (own_lt h.row hg').1 (fun e => h.ne (by rw [hg']; exact e))), hs, ha, h.mbase⟩
theorem IntRow.cellAt {w : World} {a : Option Addr} {l : List Int} (h : IntRow w a l) (i : Nat) (hi : i < l.length) : ∃ b off, a = some ⟨b, off, none⟩ ∧ b < w.heap.size ∧ w.cell? ⟨b, off + i, none⟩ = some (.int .i64 (l.getD i 0)) := by
  rcases h with h0 | ⟨b, off, e, h1, h2⟩
  · rw [h0] at hi; simp at hi
  · exact ⟨b, off, e, h1, h2 i hi⟩

set_option maxHeartbeats 1000000 in
set_option maxRecDepth 100000 in
theorem mcrash_any {w : World} {base M : Nat} {d : Dk} {v : Value} {left : Nat} (h : MdAt w base M d v left) (hlen : d.files.length ≤ 1000000000) (keep : List Int) (ka : Option Addr) (kc : Nat) (hk : IntRow w ka keep) (hkl : keep.length ≤ maxLen)
    (hkf : ∀ b off, keep ≠ [] → ka = some ⟨b, off, none⟩ → ¬ MFoot M v b) (hko : ∀ x ∈ keep, -9223372036854775808 ≤ x ∧ x ≤ 9223372036854775807) (hs : ∀ f ∈ d.files, f.safe ≤ f.data.size ∧ f.data.size ≤ 4194304) :
    Calls Try.prog 28 #[.pointer (some ⟨M, 0, none⟩), .slice ka keep.length kc] w fun e w' => e = .returned (.tuple #[]) ∧ MdAt w' base M (crashD d keep) v left ∧ Off (MFoot M v) w w' := by
  obtain ⟨p, cap, rfl, hc0, hcm, _, hp, _⟩ := h.open
  have c2 := h.blk.cell 2
  have c3 := h.blk.cell 3
  have f2 := h.blk.frozen 2
  have f3 := h.blk.frozen 3
  simp only [List.getElem?_cons_zero, List.getElem?_cons_succ] at c2 c3
  have HH := Lib.hid (show MdAt ((w.setCell ⟨M, 2, none⟩ (.bool false)).setCell ⟨M, 3, none⟩ (.bool false)) base M { d with on := true, arm := none } (.slice p d.files.length cap) left by
    have hg : w.grownBy ((w.setCell ⟨M, 2, none⟩ (.bool false)).setCell ⟨M, 3, none⟩ (.bool false)) (some M) := ⟨rfl, rfl, rfl, by simp, fun k _ hk => (Below.heap_setCell _ _ _ _ (fun e => hk (by rw [e]))).trans (Below.heap_setCell _ _ _ _ (fun e => hk (by rw [e])))⟩
    exact h.head (on := true) (arm := none) h.small (fun k e => by cases e) hg ((h.blk.set 2 (.bool false)).set 3 (.bool false)))
  have HO := Lib.hid (show Off (MFoot M (.slice p d.files.length cap)) w ((w.setCell ⟨M, 2, none⟩ (.bool false)).setCell ⟨M, 3, none⟩ (.bool false)) from ((Off.refl _ w).set (p := ⟨M, 2, none⟩) (.inr (.inl rfl)) _).set (p := ⟨M, 3, none⟩) (.inr (.inl rfl)) _)
  have HK := Lib.hid hk
  have HKF := Lib.hid hkf
  have HKO := Lib.hid hko
  have HS := Lib.hid hs
  unfold maxLen at hkl
  have HA := Lib.hid (mixF_all keep d.files 0)
  have HL := Lib.hid (mixF_length keep d.files 0)
  have HG := Lib.hid (mixF_get keep d.files 0)
  have HT := Lib.hid (mixF_set keep d.files 0)
  clear h hk hkf hko hs
  go_enter Try.func28, Try.ntmps28
  go_wp2
  generalize (w.setCell ⟨M, 2, none⟩ (.bool false)).setCell ⟨M, 3, none⟩ (.bool false) = W0 at *
  clear c2 c3 f2 f3
  go_loopw [4] (fun i wr => ∃ k : Nat, k ≤ d.files.length ∧ i = .int .i64 k ∧ MdAt wr base M ⟨d.room, mixF keep 0 k d.files, true, none⟩ (.slice p d.files.length cap) left ∧ Off (MFoot M (.slice p d.files.length cap)) w wr) (fun i _ => d.files.length - (intOf i).toNat)
  case atStart => exact ⟨0, Nat.zero_le _, rfl, by cases hd : d.files <;> (have := HH.out; rw [hd] at this; exact this), HO.out⟩
  case round =>
    obtain ⟨k, hkn, rfl, hm, ho⟩ := hrel
    obtain ⟨p', cap', ev, _, _, hb1, _, hc⟩ := hm.open
    obtain ⟨rfl, hev, rfl⟩ : p = p' ∧ d.files.length = (mixF keep 0 k d.files).length ∧ cap = cap' := by simpa using ev
    clear ev hev
    simp only [HL.out k] at hb1 hc
    by_cases hlt : k < d.files.length
    · obtain ⟨g, rfl⟩ := hp (by omega)
      have hlm : k < (mixF keep 0 k d.files).length := by rw [HL.out]; exact hlt
      have hfk : (mixF keep 0 k d.files)[k] = d.files[k] := by
        have := HG.out k
        rw [List.getElem?_eq_getElem hlm, List.getElem?_eq_getElem hlt] at this
        exact Option.some.inj this
      obtain ⟨c0, c1, c2⟩ := hc g rfl k hlt
      rw [hfk] at c1 c2
      have hsf := HS.out d.files[k] (List.getElem_mem hlt)
      have hgM : g ≠ M := fun e => hm.ne (by rw [e]; rfl)
      have hMg : M ≠ g := fun e => hgM e.symm
      have z1 := hm.frozen (k * 3 + 1)
      have z2 := hm.frozen (k * 3 + 2)
      obtain ⟨E, hE⟩ : ∃ E, E = min (keep.getD k 0).toNat (d.files[k].data.size - d.files[k].safe) := ⟨_, rfl⟩
      have HFIN := Lib.hid (show MdAt ((wr.setCell ⟨g, k * 3 + 1, none⟩ (.string (d.files[k].data.extract 0 (d.files[k].safe + E)))).setCell ⟨g, k * 3 + 2, none⟩ (.int .i64 ((d.files[k].safe + E : Nat) : Int))) base M ⟨d.room, mixF keep 0 (k + 1) d.files, true, none⟩ (.slice (some ⟨g, 0, none⟩) d.files.length cap) left by
        have h1 := hm.put k hlm 1 (by omega) (.string (d.files[k].data.extract 0 (d.files[k].safe + E))) { d.files[k] with data := d.files[k].data.extract 0 (d.files[k].safe + E) } (by rw [hfk]; rfl)
        have h2 := h1.put k (by simpa using hlm) 2 (by omega) (.int .i64 ((d.files[k].safe + E : Nat) : Int)) (cutF (d.files[k].safe + E) d.files[k]) (by simp [fileV, cutF])
        rw [HT.out k hlt]
        have e2 : keptF keep (0 + k) d.files[k] = d.files[k].safe + E := by rw [hE, Nat.zero_add]; rfl
        rw [e2]
        have e3 : ((mixF keep 0 k d.files).set k { d.files[k] with data := d.files[k].data.extract 0 (d.files[k].safe + E) }).set k (cutF (d.files[k].safe + E) d.files[k]) = (mixF keep 0 k d.files).set k (cutF (d.files[k].safe + E) d.files[k]) := List.set_set ..
        rw [← e3]
        exact h2)
      have HOF := Lib.hid (show Off (MFoot M (.slice (some ⟨g, 0, none⟩) d.files.length cap)) w ((wr.setCell ⟨g, k * 3 + 1, none⟩ (.string (d.files[k].data.extract 0 (d.files[k].safe + E)))).setCell ⟨g, k * 3 + 2, none⟩ (.int .i64 ((d.files[k].safe + E : Nat) : Int))) from (ho.set (p := ⟨g, k * 3 + 1, none⟩) (.inr (.inr rfl)) _).set (p := ⟨g, k * 3 + 2, none⟩) (.inr (.inr rfl)) _)
      have HKW := Lib.hid (show ∀ hi : k < keep.length, ∃ b off, ka = some ⟨b, off, none⟩ ∧ wr.cell? ⟨b, off + k, none⟩ = some (.int .i64 (keep.getD k 0)) by
        intro hi
        obtain ⟨b, off, e, hb, hcell⟩ := HK.out.cellAt k hi
        refine ⟨b, off, e, ?_⟩
        have := ho.block b hb (HKF.out b off (by intro e0; rw [e0] at hi; simp at hi) e)
        rw [← hcell]
        simp [World.cell?, this])
      have hx : -9223372036854775808 ≤ keep.getD k 0 ∧ keep.getD k 0 ≤ 9223372036854775807 := by
        by_cases hi : k < keep.length
        · have := HKO.out keep[k] (List.getElem_mem hi)
          simpa [List.getD, hi] using this
        · simp [List.getD, hi]
      have hx0 : ¬ k < keep.length → keep.getD k 0 = 0 := by intro hi; simp [List.getD, hi]
      generalize d.files[k].data = dt at *
      generalize d.files[k].safe = sf at *
      generalize keep.getD k 0 = x at *
      have HX := Lib.hid hx0
      have hE1 : E ≤ x.toNat := by omega
      have hE2 : sf + E ≤ dt.size := by omega
      have HE3 := Lib.hid (show E = x.toNat ∨ sf + E = dt.size by omega)
      have HE4 := Lib.hid (show ((sf + E : Nat) : Int) = (sf : Int) + (E : Int) by omega)
      rw [HE4.out] at HFIN HOF
      have hNN : ((sf : Int) + (E : Int)).toNat = sf + E := by omega
      clear hE
      clear hm ho hc hfk hlm c0 hx0
      go_wp2
      go_loop [5, 6] (fun a b => ∃ j : Nat, j ≤ E ∧ a = .int .i64 ((sf + j : Nat) : Int) ∧ b = .int .i64 j) (fun _ b => E - (intOf b).toNat)
      case atStart => exact ⟨0, Nat.zero_le _, rfl, rfl⟩
      case round =>
        obtain ⟨j, hj, rfl, rfl⟩ := hrel
        by_cases hi : k < keep.length
        · obtain ⟨b, off, rfl, ck⟩ := HKW.out hi
          by_cases hjE : j < E
          · have t1 : decide ((j : Int) < x) = true := decide_eq_true (by omega)
            have t2 : decide ((sf : Int) + (j : Int) < (dt.size : Int)) = true := decide_eq_true (by omega)
            go_wp2
            go_round
            case rel => exact ⟨j + 1, by omega, by go_num, by go_num⟩
            case measure => simp [intOf]; omega
          · obtain rfl : j = E := by omega
            by_cases hq : (j : Int) < x
            · have t1 : decide ((j : Int) < x) = true := decide_eq_true hq
              have t2 : decide ((sf : Int) + (j : Int) < (dt.size : Int)) = false := decide_eq_false (by rcases HE3.out with h | h <;> omega)
              go_wp2
              go_region
              go_wp2
              go_roundw
              case rel => exact ⟨k + 1, by omega, by go_num, HFIN.out.drew, HOF.out.drew⟩
              case measure => simp [intOf]; omega
            · have t1 : decide ((j : Int) < x) = false := decide_eq_false hq
              go_wp2
              go_region
              go_wp2
              go_roundw
              case rel => exact ⟨k + 1, by omega, by go_num, HFIN.out.drew, HOF.out.drew⟩
              case measure => simp [intOf]; omega
        · have hE0 : j = E := by have := HX.out hi; rw [this] at hE1; simp at hE1; omega
          subst hE0
          go_wp2
          go_region
          go_wp2
          go_roundw
          case rel => exact ⟨k + 1, by omega, by go_num, HFIN.out.drew, HOF.out.drew⟩
          case measure => simp [intOf]; omega
    · have FIN := Lib.hid (show MdAt wr base M (crashD d keep) (.slice p d.files.length cap) left by
        have e : k = d.files.length := by omega
        rw [e, HA.out] at hm; exact hm)
      have HOF := Lib.hid ho
      clear hm ho hc
      go_wp2
      go_end0
      exact ⟨rfl, FIN.out, HOF.out⟩
end Go.Proofs.Ytilddhemngcieaa
