/-
  P9.3: a crash behind a crash changes nothing, whatever is kept: for every list of acts and every two lists of ints.
  No condition beside the form's own.
-/
import Derived.Test.YtilddhemngcieaaAOpen2
import Derived.Deep.AppendLies
import Derived.ProofKit
import Derived.OpenShut
import Derived.ShutString
import Derived.ChangeOld
import Derived.SizedLaws
namespace Go.Pal.Dk
open Go.Pal Go.Proofs.Ytilddhemngcieaa
theorem length_modF (n : ByteArray) (g : Fl → Fl) (l : List Fl) : (modF n g l).length = l.length := by simp [modF]
theorem length_putF (n s : ByteArray) (l : List Fl) : (putF n s l).length ≤ l.length + 1 := by
  unfold putF
  split
  · rw [length_modF]; omega
  · rw [length_insF]; exact Nat.le_refl _
theorem append_len (d : Dk) (n s : ByteArray) : (appendD d n s).2.files.length ≤ d.files.length + 1 := by
  have h := (begD_files d).1
  unfold appendD
  split
  · simp only [h]; omega
  · split
    · simp only [h]; omega
    · exact length_putF n s d.files
theorem sync_len (d : Dk) (n : ByteArray) : (syncD d n).2.files.length ≤ d.files.length + 1 := by
  have h := (begD_files d).1
  unfold syncD
  split
  · simp only [h]; omega
  · split
    · simp only [h]; omega
    · simp only [length_modF]; omega
theorem cut_len (d : Dk) (n : ByteArray) (k : Int) : (cutD d n k).2.files.length ≤ d.files.length + 1 := by
  have h := (begD_files d).1
  unfold cutD
  split
  · simp only [h]; omega
  · split
    · simp only [h]; omega
    · split
      · simp only [h]; omega
      · simp only [length_modF]; omega
theorem do_len (d : Dk) (c : Ac) : (doD d c).2.2.files.length ≤ d.files.length + 1 := by
  unfold doD
  split
  · exact append_len _ _ _
  · split
    · exact sync_len _ _
    · split
      · exact cut_len _ _ _
      · split
        · show d.files.length ≤ _; omega
        · split
          · show d.files.length ≤ _; omega
          · show (crashF c.keep 0 d.files).length ≤ _; rw [crashF_length]; omega
def runD (l : List Ac) (d : Dk) : Dk := l.foldl (fun d c => (doD d c).2.2) d
theorem run_take (l : List Ac) (d : Dk) (k : Nat) (h : k < l.length) : runD (l.take (k + 1)) d = (doD (runD (l.take k) d) l[k]).2.2 := by
  unfold runD
  rw [List.take_succ_eq_append_getElem h, List.foldl_append]; rfl
theorem run_len (l : List Ac) (d : Dk) : ∀ k, k ≤ l.length → (runD (l.take k) d).files.length ≤ d.files.length + k
  | 0, _ => by simp [runD]
  | k + 1, h => by
    rw [run_take l d k (by omega)]
    have h1 := do_len (runD (l.take k) d) l[k]
    have h2 := run_len l d k (by omega)
    omega
theorem cut_again (f : Fl) (k : Nat) (hk : k ≤ f.data.size) (keep : List Int) (i : Nat) : cutF (keptF keep i (cutF k f)) (cutF k f) = cutF k f := by
  have hz : (f.data.extract 0 k).size = k := by rw [ByteArray.size_extract]; omega
  have e : keptF keep i (cutF k f) = k := by simp [keptF, cutF, hz]
  rw [e]
  unfold cutF
  simp only [Fl.mk.injEq, true_and, and_true]
  rw [ByteArray.extract_extract]
  congr 1
  omega
theorem crash_again (keep again : List Int) : ∀ (l : List Fl) (i : Nat), (∀ f ∈ l, f.safe ≤ f.data.size) → crashF again i (crashF keep i l) = crashF keep i l
  | [], _, _ => rfl
  | f :: r, i, h => by
    have h1 := h f List.mem_cons_self
    simp only [crashF]
    rw [cut_again f _ (by unfold keptF; omega), crash_again keep again r (i + 1) (fun g hg => h g (List.mem_cons_of_mem _ hg))]
end Go.Pal.Dk
namespace Go.Proofs.Ytilddhemngcieaa
open Go.RowKit Go.Pal Go.Pal.Dk
theorem IntRow.below {w w' : World} {a : Option Addr} {l : List Int} (h : IntRow w a l) (hb : Below w.heap.size w w') : IntRow w' a l := by
  rcases h with h0 | ⟨b, off, e, h1, h2⟩
  · exact .inl h0
  · exact .inr ⟨b, off, e, Nat.lt_of_lt_of_le h1 hb.size, fun i hi => (hb.cell (p := ⟨b, off + i, none⟩) h1).trans (h2 i hi)⟩
theorem AcOk.below {w w' : World} {c : Ac} (h : AcOk w c) (hb : Below w.heap.size w w') : AcOk w' c := ⟨h.kind, h.n, h.name, h.data, h.row.below hb, h.keep⟩
theorem IntRow.far {w : World} {a : Option Addr} {l : List Int} (h : IntRow w a l) {W : World} {D : Nat} {d : Dk} {L : Lay} (hd : DkAt W w.heap.size D d L) : ∀ b off, l ≠ [] → a = some ⟨b, off, none⟩ → ¬ Foot D d.files L b := by
  intro b off hne e hf
  rcases h with h0 | ⟨b', off', e', h1, _⟩
  · exact hne h0
  · rw [e] at e'; cases e'
    have := hd.foot_base hf; omega
end Go.Proofs.Ytilddhemngcieaa
namespace Go.Proofs.Ytilddhemngcieaa.DiskTwice
open Go.ChangeShapes Go.WideShapes Go.ChangeAt Go.RowKit Go.Pal Go.Pal.Dk
open Go.ChangeMaps (open_string shut_string)
set_option linter.unusedVariables false

def dataV (l : List Fl) : List Value := l.map fun f => .string f.data
theorem dataV_take (l : List Fl) (k : Nat) (h : k < l.length) : (dataV l).take (k + 1) = (dataV l).take k ++ [.string l[k].data] := by
  rw [List.take_succ_eq_append_getElem (by simpa [dataV] using h)]
  simp [dataV]
theorem one_str (x : ByteArray) : ∀ u ∈ [Value.string x], u.oneCell' = true := by intro u hu; simp at hu; subst hu; rfl
theorem eqF' {a : ByteArray} : (a.toList != a.toList) = false := by simp

set_option maxHeartbeats 2000000 in
set_option maxRecDepth 100000 in
theorem walk (x : Option Addr) (cap : Nat) (l : List Ac) (ka : Option Addr) (kc : Nat) (keep : List Int) (ga : Option Addr) (gc : Nat) (again : List Int) (w : World) (hl : ActsAt w x l) (hk : IntRow w ka keep) (hko : IntsOk keep) (hg : IntRow w ga again) (hgo : IntsOk again) :
    Calls Try.prog 11 #[.slice x l.length cap, .slice ka keep.length kc, .slice ga again.length gc] w fun e w' => e = .returned (.bool true) ∧ Below w.heap.size w w' := by
  have HA := Lib.hid awake9
  have HG := Lib.hid (great_any w x cap l hl)
  have hlen := hl.len
  unfold maxLen at hlen
  cases hgr : greatB l
  · rw [hgr] at HG
    obtain ⟨h60, hsz⟩ := great_no hgr
    clear hgr
    have HNEW := Lib.hid (fun w => new_yes w 5000 (by decide))
    rw [show ((5000 : Nat) : Int) = 5000 from rfl] at HNEW
    have HD0 := Lib.hid (fun (W : World) (hb : w.heap.size ≤ W.heap.size) => new_at W w.heap.size 5000 hb (by decide))
    rw [show ((5000 : Nat) : Int) = 5000 from rfl] at HD0
    have HAT := Lib.hid (fun k hk => hl.at_ (k := k) hk)
    have HOK := Lib.hid hl.ok
    have HRT := Lib.hid (run_take l (newD 5000))
    have HRL := Lib.hid (run_len l (newD 5000))
    have HTK := Lib.hid (show l.take l.length = l from List.take_length)
    have HK := Lib.hid hk
    have HGA := Lib.hid hg
    clear hl hk hg
    go_enter Try.func11, Try.ntmps11
    go_wp2_with fail
    refine HG.out.mono ?_
    rintro e w1 ⟨rfl, rfl⟩
    go_wp2_with fail
    refine (HA.out _).mono ?_
    rintro e w2 ⟨rfl, b2⟩
    go_wp2_with fail
    refine (HNEW.out _).mono ?_
    rintro e w3 ⟨rfl, rfl⟩
    have X3 := Lib.hid (HD0.out w2 b2.size)
    have B3 := Lib.hid (b2.alloc b2.size (.cells #[.int .i64 5000, .int .i64 0, .map none, .bool true, .bool false, .int .i64 0] 79))
    clear b2 HD0 HNEW HG
    generalize w2.heap.size = D at *
    go_wp2
    generalize w2.alloc (.cells #[.int .i64 5000, .int .i64 0, .map none, .bool true, .bool false, .int .i64 0] 79) = w3 at *
    go_loopw [8] (fun i wr => ∃ k : Nat, k ≤ l.length ∧ i = .int .i64 k ∧ (∃ L, DkAt wr w1.heap.size D (runD (l.take k) (newD 5000)) L) ∧ Below w1.heap.size w1 wr) (fun i _ => l.length - (intOf i).toNat)
    case atStart => exact ⟨0, Nat.zero_le _, rfl, ⟨_, X3.out⟩, B3.out⟩
    case round =>
      obtain ⟨k, hkl, rfl, ⟨L, hD⟩, hB⟩ := hrel
      have hfl : (runD (l.take k) (newD 5000)).files.length ≤ k := by have := HRL.out k hkl; simpa [newD] using this
      by_cases hlt : k < l.length
      · obtain ⟨b, off, rfl, hbl, hcl⟩ := HAT.out k hlt
        have hc := HOK.out l[k] (List.getElem_mem hlt)
        have HDO := Lib.hid (do_any hD (by omega) l[k] (hc.below hB) (hc.row.far hD))
        have HS := Lib.hid (HRT.out k hlt)
        have cw : ∀ j, j < 5 → wr.cell? ⟨b, off + k * 5 + j, none⟩ = l[k].cells[j]? := fun j hj => (hB.cell (p := ⟨b, off + k * 5 + j, none⟩) hbl).trans (hcl j hj)
        have c0 := cw 0 (by omega)
        have c1 := cw 1 (by omega)
        have c2 := cw 2 (by omega)
        have c3 := cw 3 (by omega)
        have c4 := cw 4 (by omega)
        unfold Ac.val at HDO
        unfold Ac.cells at c0 c1 c2 c3 c4 HDO
        simp only [List.getElem?_cons_zero, List.getElem?_cons_succ, Nat.add_zero] at c0 c1 c2 c3 c4
        have HD := Lib.hid hD
        have HB := Lib.hid hB
        clear cw hcl hc hD hB
        generalize l[k].kind = ck at *
        generalize l[k].name = cn at *
        generalize l[k].data = cd at *
        generalize l[k].n = cm at *
        generalize l[k].keep.length = cl at *
        generalize l[k].at_ = ca at *
        generalize l[k].cap = cc at *
        go_wp2_with fail
        refine HDO.out.mono ?_
        rintro e w4 ⟨rfl, hw4⟩
        obtain ⟨L4, D4, b4⟩ := Went.at HD.out hw4
        rw [← HS.out] at D4
        have X4 := Lib.hid D4
        have B4 := Lib.hid (HB.out.trans b4)
        clear hw4 D4 b4 HD HB HDO HS c0 c1 c2 c3 c4
        generalize (doD (runD (l.take k) (newD 5000)) l[k]).1 = r1 at *
        generalize (doD (runD (l.take k) (newD 5000)) l[k]).2.1 = r2 at *
        go_wp2
        go_roundw
        case rel => exact ⟨k + 1, by omega, by go_num, ⟨_, X4.out⟩, B4.out⟩
        case measure => simp [intOf]; omega
      · have hkn : k = l.length := by omega
        rw [hkn, HTK.out] at hD
        have hfl2 : (runD l (newD 5000)).files.length ≤ 60 := by rw [hkn, HTK.out] at hfl; omega
        have HCR := Lib.hid (crash_any hD (by omega) keep ka kc (HK.out.below hB) (HK.out.far hD) hko.1 hko.2)
        have HSF := Lib.hid hD.good.safe
        have HD := Lib.hid hD
        have HB := Lib.hid hB
        clear hD hB hkn hfl X3 B3
        go_wp2_with fail
        refine HCR.out.mono ?_
        rintro e w4 ⟨rfl, hw4⟩
        obtain ⟨L4, D4, b4⟩ := Went.at HD.out hw4
        have hn60 : (crashD (runD l (newD 5000)) keep).files.length ≤ 60 := by
          show (crashF keep 0 (runD l (newD 5000)).files).length ≤ 60
          rw [crashF_length]; exact hfl2
        have HAG := Lib.hid (show crashD (crashD (runD l (newD 5000)) keep) again = crashD (runD l (newD 5000)) keep by
          show (⟨_, crashF again 0 (crashF keep 0 (runD l (newD 5000)).files), true, none⟩ : Dk) = _
          rw [crash_again keep again _ 0 HSF.out]; rfl)
        have HON1 := Lib.hid (show (crashD (runD l (newD 5000)) keep).on = true from rfl)
        have B4 := Lib.hid (HB.out.trans b4)
        clear hw4 b4 HD HB HCR HSF hfl2
        generalize crashD (runD l (newD 5000)) keep = d4 at *
        have HST := Lib.hid D4.good.sorted
        have HNM := Lib.hid D4.good.names
        have HNA := Lib.hid (names_any D4 (by omega))
        have HNA2 := Lib.hid (fun (W : World) (L : Lay) (h : DkAt W w1.heap.size D d4 L) => names_any h (by omega))
        have X4 := Lib.hid D4
        clear D4
        go_wp2_with fail
        refine HNA.out.mono ?_
        rintro e w5 ⟨⟨v1, rfl, hown1⟩, b5⟩
        have hD5 := X4.out.below b5 (Nat.le_refl _)
        have hB5 := B4.out.trans (b5.mono B4.out.size)
        obtain ⟨p1, cap1, rfl, hc1, hcm1⟩ := row_form hown1
        unfold maxLen at hcm1
        have O1 := Lib.hid hown1
        have X5 := Lib.hid hD5
        have B5 := Lib.hid hB5
        have HB45 := Lib.hid (show w1.heap.size ≤ w5.heap.size from hB5.size)
        have H45 := Lib.hid (show w1.heap.size ≤ w4.heap.size from B4.out.size)
        clear hown1 hD5 hB5 b5 HNA X4 B4
        obtain ⟨i0, hi0, hz0, hz1, hz2⟩ := info_parts (show (Try.prog.info? 9).map (fun i => (i.zero, i.size, i.bytes)) = some (some (.string ⟨#[]⟩), 1, 16) by kernel_rfl)
        have I0 := Lib.hid hi0
        have Z0 := Lib.hid hz0
        have Z1 := Lib.hid hz1
        have Z2 := Lib.hid hz2
        clear hi0 hz0 hz1 hz2
        generalize hn5 : d4.files.length = n at *
        have HN5 := Lib.hid hn5
        clear hn5 hlt
        have HRD := Lib.hid (fun (W : World) (L : Lay) (h : DkAt W w1.heap.size D d4 L) (k : Nat) (hk : k < d4.files.length) => show Calls Try.prog 33 #[.pointer (some ⟨D, 0, none⟩), .string d4.files[k].name] W fun e w' => e = .returned (.tuple #[.string d4.files[k].data, .int .i64 0]) ∧ w' = W by
          have h0 := read_any h d4.files[k].name (by have := HNM.out d4.files[k] (List.getElem_mem hk); unfold maxLen; omega)
          have h1 : readD d4 d4.files[k].name = (d4.files[k].data, 0) := by unfold readD; rw [if_neg (by rw [HON1.out]; decide), atF_mem HST.out (List.getElem_mem hk)]
          rw [h1] at h0; exact h0)
        have HDZ := Lib.hid (fun (k : Nat) (hk : k < d4.files.length) => show (d4.files[k]).data.size ≤ 4194304 by
          have h1 := data_le_used (List.getElem_mem hk)
          have h2 := X5.out.good.used
          have h3 := X5.out.good.room
          omega)
        go_wp2
        go_loopw [10, 11] (fun x i wr => ∃ (k : Nat) (v : Value), k ≤ n ∧ v = x ∧ i = .int .i64 k ∧ DkAt wr w1.heap.size D d4 L4 ∧ wr.ownsRow w4.heap.size 9 1 (.slice p1 n cap1) n (namesV d4.files) ∧ wr.ownsRow w5.heap.size 9 1 v k ((dataV d4.files).take k) ∧ Below w1.heap.size w1 wr ∧ w5.heap.size ≤ wr.heap.size) (fun _ i _ => n - (intOf i).toNat)
        case atStart => exact ⟨0, _, Nat.zero_le _, rfl, rfl, X5.out, O1.out, World.ownsRow_nil _ _ _ _, B5.out, Nat.le_refl _⟩
        case round =>
          obtain ⟨k, v, hkn, rfl, rfl, hD, hr1, hr2, hB, hsz5⟩ := hrel
          by_cases hlt : k < n
          · have hkd : k < d4.files.length := by rw [HN5.out]; exact hlt
            obtain ⟨g, rfl⟩ : ∃ g, p1 = some ⟨g, 0, none⟩ := by
              rcases hr1.2 with ⟨_, h0⟩ | ⟨g, cap', cur, e, _⟩
              · omega
              · cases e; exact ⟨g, rfl⟩
            obtain ⟨ck, _⟩ := own_cell hr1 k hlt
            rw [namesV_get d4.files k hkd] at ck
            have HR := Lib.hid (HRD.out wr L4 hD k hkd)
            have HTA := Lib.hid (dataV_take d4.files k hkd)
            have hg1 : g < w5.heap.size := (own_lt O1.out (g := g) rfl).1
            generalize d4.files[k].name = nm at *
            generalize d4.files[k].data = dt at *
            obtain ⟨W, hW⟩ : ∃ W, W = wr.alloc (.cells #[.string dt] 9) := ⟨_, rfl⟩
            have hDW : DkAt W w1.heap.size D d4 L4 := by rw [hW]; exact hD.below (new_below wr _) (Nat.le_refl _)
            have hr1W : W.ownsRow w4.heap.size 9 1 (.slice (some ⟨g, 0, none⟩) n cap1) n (namesV d4.files) := by rw [hW]; exact hr1.alloc _
            have hr2W : W.ownsRow w5.heap.size 9 1 v k ((dataV d4.files).take k) := by rw [hW]; exact hr2.alloc _
            have hWs : W.heap.size = wr.heap.size + 1 := by rw [hW]; simp
            have hBW : Below w1.heap.size w1 W := by rw [hW]; exact hB.alloc hB.size _
            have HNW := Lib.hid (World.news_of_block (cs := #[.string dt]) (t := 9) (fr := (0, 0)) (show W.heap[wr.heap.size]? = _ by rw [hW]; exact heap_alloc_new wr _))
            have HFIN := Lib.hid (show ∀ v' w7, w7.ownsRow w5.heap.size 9 1 v' (k + 1) ((dataV d4.files).take k ++ [.string dt]) → W.grownBy w7 v.ownBlock → DkAt w7 w1.heap.size D d4 L4 ∧ w7.ownsRow w4.heap.size 9 1 (.slice (some ⟨g, 0, none⟩) n cap1) n (namesV d4.files) ∧ w7.ownsRow w5.heap.size 9 1 v' (k + 1) ((dataV d4.files).take (k + 1)) ∧ Below w1.heap.size w1 w7 ∧ w5.heap.size ≤ w7.heap.size by
              intro v' w7 h1 h2
              refine ⟨hDW.off (Off.of_grown h2) (fun x hx e => ?_), own_kept hr1W (fun b hb => ?_), by rw [HTA.out]; exact h1, hBW.grown h2 hBW.size (fun j hj => ?_), by have := h2.size; omega⟩
              · obtain ⟨_, _, cur, hh⟩ := own_lt hr2W e
                exact hDW.not_row hh hx
              · obtain rfl : g = b := by simpa [Value.ownBlock] using hb
                refine h2.block g (by omega) (fun e => ?_)
                have := (own_lt hr2W e.symm).2.1
                omega
              · have := (own_lt hr2W hj).2.1
                have := HB45.out
                omega)
            have HR2 := Lib.hid hr2W
            have H1 := Lib.hid (show k + 1 ≤ maxLen by unfold maxLen; omega)
            have H2 := Lib.hid (show (k + 1) * 16 ≤ 140737488355328 by omega)
            have H3 := Lib.hid (show w5.heap.size ≤ W.heap.size by omega)
            clear hD hr1 hr2 hB hDW hr1W hr2W hBW
            go_wp2_with fail
            refine HR.out.mono ?_
            rintro e w7 ⟨rfl, rfl⟩
            go_wp2_with (at_builtin; rw [← hW]; refine wpList_append_own _ rfl _ _ 63 rfl w5.heap.size 9 i0 (.string ⟨#[]⟩) 1 16 Try.underlying63 I0.out Z0.out Z1.out Z2.out rfl (by decide) _ k ((dataV d4.files).take k) rfl HR2.out ⟨w7.heap.size, 0, none⟩ 1 1 [.string dt] rfl rfl HNW.out (one_str dt) H1.out H2.out H3.out ?_)
            intro v2 w8 hown8 hg8 _
            rw [← hW] at hg8
            have FN := Lib.hid (HFIN.out v2 w8 hown8 hg8)
            clear hown8 hg8 HFIN hW
            go_wp2
            go_roundw
            case rel => exact ⟨k + 1, _, by omega, rfl, by go_num, FN.out.1, FN.out.2.1, FN.out.2.2.1, FN.out.2.2.2.1, FN.out.2.2.2.2⟩
            case measure => simp [intOf]; omega
          · have hkn2 : k = n := by omega
            have hall : (dataV d4.files).take k = dataV d4.files := List.take_of_length_le (by simp [dataV]; rw [HN5.out]; omega)
            rw [hall, hkn2] at hr2
            obtain ⟨p2, cap2, hv2, _, hcm2⟩ := row_form hr2
            subst hv2
            unfold maxLen at hcm2
            have HCR := Lib.hid (crash_any hD (by rw [HN5.out]; omega) again ga gc (HGA.out.below hB) (HGA.out.far hD) hgo.1 hgo.2)
            rw [HAG.out] at HCR
            have HKP := Lib.hid (show ∀ w7, Went wr w1.heap.size D d4 L4 d4 w7 → (∃ L, DkAt w7 w1.heap.size D d4 L) ∧ w7.ownsRow w4.heap.size 9 1 (.slice p1 n cap1) n (namesV d4.files) ∧ w7.ownsRow w5.heap.size 9 1 (.slice p2 n cap2) n (dataV d4.files) ∧ Below w1.heap.size w1 w7 by
              intro w7 hw
              obtain ⟨L7, h1, h2⟩ := Went.at hD hw
              obtain ⟨_, _, ho, _⟩ := hw
              refine ⟨⟨L7, h1⟩, own_kept hr1 (fun b hb => ?_), own_kept hr2 (fun b hb => ?_), hB.trans h2⟩
              · obtain ⟨hlt', _, cur, hh⟩ := own_lt hr1 hb
                exact ho.block b hlt' (hD.not_row hh)
              · obtain ⟨hlt', _, cur, hh⟩ := own_lt hr2 hb
                exact ho.block b hlt' (hD.not_row hh))
            clear hD hr1 hr2 hB hall hkn2
            go_wp2_with fail
            refine HCR.out.mono ?_
            rintro e w7 ⟨rfl, hw7⟩
            have K7 := Lib.hid (HKP.out w7 hw7)
            clear hw7 HKP HCR hlt
            go_wp2
            go_loop [14] (fun i => ∃ k : Nat, k ≤ n ∧ i = .int .i64 k) (fun i => n - (intOf i).toNat)
            case atStart => exact ⟨0, Nat.zero_le _, rfl⟩
            case round =>
              obtain ⟨j, hjn, rfl⟩ := hrel
              obtain ⟨⟨L7, D7⟩, r1, r2, b7⟩ := K7.out
              by_cases hlt : j < n
              · have hkd : j < d4.files.length := by rw [HN5.out]; exact hlt
                obtain ⟨g, rfl⟩ : ∃ g, p1 = some ⟨g, 0, none⟩ := by
                  rcases r1.2 with ⟨_, h0⟩ | ⟨g, cap', cur, e, _⟩
                  · omega
                  · cases e; exact ⟨g, rfl⟩
                obtain ⟨g2, rfl⟩ : ∃ g, p2 = some ⟨g, 0, none⟩ := by
                  rcases r2.2 with ⟨_, h0⟩ | ⟨g, cap', cur, e, _⟩
                  · omega
                  · cases e; exact ⟨g, rfl⟩
                obtain ⟨ck, _⟩ := own_cell r1 j hlt
                obtain ⟨dk, _⟩ := own_cell r2 j hlt
                rw [namesV_get d4.files j hkd] at ck
                rw [show (dataV d4.files)[j]? = some (.string d4.files[j].data) by simp [dataV, hkd]] at dk
                have HR := Lib.hid (HRD.out w7 L7 D7 j hkd)
                generalize d4.files[j].name = nm at *
                generalize d4.files[j].data = dt at *
                clear r1 r2 b7 D7
                go_wp2_with fail
                refine HR.out.mono ?_
                rintro e w8 ⟨rfl, rfl⟩
                go_wp2
                go_round
                case rel => exact ⟨j + 1, by omega, by go_num⟩
                case measure => simp [intOf]; omega
              · have HNB := Lib.hid (HNA2.out w7 L7 D7)
                have HON2 := Lib.hid (fun (W : World) (L : Lay) (h : DkAt W w1.heap.size D d4 L) => on_any h)
                rw [HON1.out] at HON2
                have X7 := Lib.hid D7
                have B7 := Lib.hid b7
                clear r1 r2 b7 D7 K7
                go_wp2_with fail
                refine HNB.out.mono ?_
                rintro e w8 ⟨⟨v8, rfl, hown8⟩, b8⟩
                obtain ⟨p8, cap8, rfl, _, _⟩ := row_form hown8
                have X8 := Lib.hid (X7.out.below b8 (Nat.le_refl _))
                have B8 := Lib.hid (B7.out.trans (b8.mono B7.out.size))
                clear hown8 b8
                go_wp2_with fail
                refine (HON2.out _ _ X8.out).mono ?_
                rintro e w9 ⟨rfl, rfl⟩
                go_wp2
                go_ret
                exact ⟨rfl, B8.out⟩
  · rw [hgr] at HG
    clear hgr
    go_enter Try.func11, Try.ntmps11
    go_wp2_with fail
    refine HG.out.mono ?_
    rintro e w1 ⟨rfl, rfl⟩
    go_wp2_with fail
    refine (HA.out _).mono ?_
    rintro e w2 ⟨rfl, b2⟩
    go_wp2
    go_ret
    exact ⟨rfl, b2⟩

theorem own : ownKnob Try.prog.godebug = none := by kernel_rfl
theorem laidOut : laidOutB Try.prog = true := by kernel_rfl

set_option maxRecDepth 100000 in
theorem lifted (os : Os) (started : os.Started) (H : Type) (enc : TypeId × Value → H) :
    ReturnsInHanded {} Try.checked os 11 .any (Rows.diskTwiceSpec.pre6 enc Try.prog Try.f11 Rows.diskTwiceRow.domain false) (Rows.diskTwiceSpec.post enc Try.prog Try.f11 false true false false) := by
  refine returnsInHanded_of_change_sized (C := Try.checked) own started (by kernel_rfl) Try.func11
    (ChangeSpec.witness6 (enc := enc) (C := Try.checked) false ⟨#[], #[.slice none 0 0, .slice none 0 0, .slice none 0 0], []⟩ 8 (by kernel_rfl) (by kernel_rfl) (by kernel_rfl) (by kernel_rfl)) ?_
  intro W base args ds gs before hval0 hW _ hsz0 _
  have hsz : (DataW.weightsEach Try.prog (Try.f11.params.toList ++ Rows.diskTwiceSpec.plain.varTypes Try.prog) (ds ++ gs)).all (· ≤ reachBytes) = true := hsz0
  clear hsz0
  have hval : ∀ (j : Nat) t v, Try.f11.params[j]? = some t → args[j]? = some v → Value.okWide Try.prog W .any base t v := hval0
  have hW' := hW
  obtain ⟨p, q, hA0, hV, rfl, hfz, hnd⟩ := hW
  have hA : DataW.TrodAll enc Try.prog W 0 (fun _ => true) true Try.f11.params.toList args.toList ds p := hA0
  rw [Try.params11] at hA hval hsz
  obtain ⟨v0, vs0, d0, ds0, p0, q0, hargs, rfl, rfl, h0, r0⟩ := trodAll_cons hA
  obtain ⟨v1, vs1, d1, ds1, p1, q1, rfl, rfl, rfl, h1, r1⟩ := trodAll_cons r0
  obtain ⟨v2, vs2, d2, ds2, p2, q2, rfl, rfl, rfl, h2, r2⟩ := trodAll_cons r1
  obtain ⟨rfl, rfl, rfl⟩ := trodAll_nil r2
  obtain rfl : args = #[v0, v1, v2] := by cases args; simp_all
  obtain ⟨rfl, rfl⟩ := trodVars_none hV
  obtain ⟨x0, len0, cap0, rfl⟩ := okWide_slice Try.underlying38 (hval 0 38 v0 rfl rfl)
  have k0 := h0
  have lt0 : ∀ x ∈ p0, x.block < W.heap.size := by obtain ⟨m, hm⟩ := k0; exact DataW.trod_lt m _ _ _ hm
  obtain ⟨l0, rfl, i0⟩ : ∃ l : List Ac, len0 = l.length ∧ ActsAt W x0 l := by
    obtain ⟨fuel, hf⟩ := h0
    exact acts_of (show DataW.trod enc Try.prog W 0 (fun _ => true) true fuel 38 [.slice x0 len0 cap0] = some _ from hf)
  obtain ⟨x1, len1, cap1, rfl⟩ := okWide_slice Try.underlying49 (hval 1 49 v1 rfl rfl)
  have k1 := h1
  have lt1 : ∀ x ∈ p1, x.block < W.heap.size := by obtain ⟨m, hm⟩ := k1; exact DataW.trod_lt m _ _ _ hm
  obtain ⟨l1, rfl, i1, m1⟩ : ∃ l : List Int, len1 = l.length ∧ IntRow W x1 l ∧ IntsOk l := by
    obtain ⟨fuel, hf⟩ := h1
    obtain ⟨a, l, cap, e, hr, hk⟩ := ints_of (show DataW.trod enc Try.prog W 0 (fun _ => true) true fuel 49 [.slice x1 len1 cap1] = some _ from hf)
    cases e
    exact ⟨l, rfl, hr, hk⟩
  obtain ⟨x2, len2, cap2, rfl⟩ := okWide_slice Try.underlying49 (hval 2 49 v2 rfl rfl)
  have k2 := h2
  have lt2 : ∀ x ∈ p2, x.block < W.heap.size := by obtain ⟨m, hm⟩ := k2; exact DataW.trod_lt m _ _ _ hm
  obtain ⟨l2, rfl, i2, m2⟩ : ∃ l : List Int, len2 = l.length ∧ IntRow W x2 l ∧ IntsOk l := by
    obtain ⟨fuel, hf⟩ := h2
    obtain ⟨a, l, cap, e, hr, hk⟩ := ints_of (show DataW.trod enc Try.prog W 0 (fun _ => true) true fuel 49 [.slice x2 len2 cap2] = some _ from hf)
    cases e
    exact ⟨l, rfl, hr, hk⟩
  clear hA0 hval0
  refine (walk x0 cap0 l0 x1 cap1 l1 x2 cap2 l2  W i0 i1 m1 i2 m2).mono fun e W' ⟨he, bel⟩ => ?_
  subst he
  exact ⟨_, rfl, _, _, _, [], _, [], hW', trodAll_mk1 (shut_bool Try.underlying4 _), (trodAll_cons_mk (Below.trod laidOut (by kernel_rfl) (of_decide_eq_true (by kernel_rfl)) k0 bel lt0) (trodAll_cons_mk (Below.trod laidOut (by kernel_rfl) (of_decide_eq_true (by kernel_rfl)) k1 bel lt1) (trodAll_cons_mk (Below.trod laidOut (by kernel_rfl) (of_decide_eq_true (by kernel_rfl)) k2 bel lt2) trodAll_mk0))), rfl, bel.frame _, fun h => by cases h⟩

theorem over : Rows.diskTwiceRow.holds Try.pinned (OpenSpec.ofChange Rows.diskTwiceSpec) :=
  OpenClaim.holds_of_wide 11 Try.f11 rfl rfl rfl rfl rfl rfl rfl ⟨rfl, rfl, rfl, rfl, rfl⟩ rfl rfl rfl rfl rfl (by kernel_rfl) Try.func11 (by kernel_rfl)
    (of_decide_eq_true (by kernel_rfl)) (by unfold Func.isWrapper; first | (rw [if_pos (by decide +kernel)]; kernel_rfl) | (rw [if_neg (by decide +kernel)]; exact ⟨rfl, rfl⟩))
    (fun os started H enc _ => lifted os started H enc)

end Go.Proofs.Ytilddhemngcieaa.DiskTwice
namespace Go.Proofs.Ytilddhemngcieaa
theorem diskTwice_holds : Rows.DiskTwiceSaid := DiskTwice.over
#print axioms diskTwice_holds
end Go.Proofs.Ytilddhemngcieaa

