/-
  Contract of the document's own Decode of layer 6, walked.
-/
import Derived.Test.YtkdbbbmoalijhaaDoorE11
import Derived.Deep.RegionHeld3
import Derived.Deep.RegionLaw
import Derived.Deep.RegionWith
namespace Go.Proofs.YtkdbbbmoalijhaaDoor
open Go.RowKit Go.Pal Go.Pal.Fr Go.Pal.Ev

theorem beqT6 (a b : ByteArray) : (a.toList == b.toList) = true ↔ a = b := by
  rw [ByteArray.toList_eq, ByteArray.toList_eq, beq_iff_eq]
  constructor
  · intro h
    rw [ByteArray.ext_iff]
    exact Array.toList_inj.1 h
  · intro h
    rw [h]
theorem beqF6 {a b : ByteArray} (h : a ≠ b) : (a.toList == b.toList) = false := by
  cases e : a.toList == b.toList
  · rfl
  · exact absurd ((beqT6 a b).1 e) h
theorem RdP.no' {s : ByteArray} {w' : World} (h : ∀ e, evOk e = true → evB e = s → There e s → False) : RdP s (.returned (.tuple #[evV zero none 0, .bool false])) w' :=
  .inr ⟨fun e hok he => h e hok he (by have := there e hok; rwa [he] at this), rfl⟩
theorem There.eq {e : E} {s : ByteArray} (h : There e s) (h35 : 35 < s.size) {k n m : Nat} (hk : k = s[0].toNat) (hn : n = s[35].toNat) (hm : m = valL (s.extract (36 + 32 * n) (36 + 32 * n + 2)).data.toList) :
    e = ⟨(k : Int), s.extract 3 35, rPs s n, s.extract (36 + 32 * n + 2) (36 + 32 * n + 2 + m), s.extract (36 + 32 * n + 2 + m + 2) s.size⟩ ∧ s.size = 40 + 32 * n + m + e.sig.size ∧ n ≤ 8 := by
  have h1 : n = e.parents.length := hn.trans (h.count h35)
  have hb := h.bsz
  subst h1
  have h2 : m = e.body.size := by rw [hm, h.blen, val2 _ (by omega)]
  have h3 : (k : Int) = e.kind := by rw [hk]; exact h.kind (by omega)
  subst h2
  refine ⟨?_, h.size, h.few⟩
  rw [h3, h.author, h.parents, h.body, h.sig]

theorem rPs_each (s : ByteArray) (k : Nat) (_ : s.size ≤ 4000) (i : Nat) : (at' (rPs s k) i).size ≤ 4000 := by
  rw [at', List.getD_eq_getElem?_getD]
  cases h : (rPs s k)[i]? with
  | none => exact Nat.zero_le _
  | some y =>
    obtain ⟨hi, he⟩ := List.getElem?_eq_some_iff.1 h
    have : y = s.extract (36 + 32 * i) (36 + 32 * i + 32) := by rw [← he]; simp [rPs]
    rw [this]
    simp only [Option.getD_some, ByteArray.size_extract]; omega
/-- The document's Right and Encode of what was taken. -/
theorem right_ref_at {w : World} {R eb B0 : Nat} {wr : World} {kd : Nat} {au bo sg : ByteArray} {a : Option Addr} {c : Nat} {ps : List ByteArray} (h : Lq w R eb B0 wr (.int .i64 (kd : Int)) (.string au) (.slice a ps.length c) (.string bo) (.string sg) ps) (hr : StrRow wr a ps) (he : ∀ i, (at' ps i).size ≤ 4000) (hl : ps.length ≤ 300) (hb : bo.size ≤ 4000) :
    Calls Tryd.prog 18 #[.agg #[.int .i64 (kd : Int), .string au, .slice a ps.length c, .string bo, .string sg]] wr fun r w' => r = .returned (.bool (evOk ⟨(kd : Int), au, ps, bo, sg⟩)) ∧ Lq w R eb B0 w' (.int .i64 (kd : Int)) (.string au) (.slice a ps.length c) (.string bo) (.string sg) ps ∧ StrRow w' a ps :=
  (refright_any wr ⟨(kd : Int), au, ps, bo, sg⟩ a c hr (by show ps.length ≤ _; unfold maxLen; omega) (fun i => Nat.le_trans (he i) (by decide)) (Nat.le_trans hb (by decide))).mono (fun _ _ ⟨x, y⟩ => ⟨x, h.below y, hr.below y⟩)
theorem enc_ref_at {w : World} {R eb B0 : Nat} {kd : Nat} {au bo sg : ByteArray} {a : Option Addr} {c : Nat} {ps : List ByteArray} (wr : World) (h : Lq w R eb B0 wr (.int .i64 (kd : Int)) (.string au) (.slice a ps.length c) (.string bo) (.string sg) ps) (hr : StrRow wr a ps) (hok : evOk ⟨(kd : Int), au, ps, bo, sg⟩ = true) :
    Calls Tryd.prog 19 #[.agg #[.int .i64 (kd : Int), .string au, .slice a ps.length c, .string bo, .string sg]] wr fun r w' => r = .returned (.string (evB ⟨(kd : Int), au, ps, bo, sg⟩)) ∧ Lq w R eb B0 w' (.int .i64 (kd : Int)) (.string au) (.slice a ps.length c) (.string bo) (.string sg) ps ∧ StrRow w' a ps :=
  (refencode_any wr ⟨(kd : Int), au, ps, bo, sg⟩ a c hr hok).mono (fun _ _ ⟨x, y⟩ => ⟨x, h.below y, hr.below y⟩)
set_option maxHeartbeats 4000000 in
set_option maxRecDepth 100000 in
theorem refdecode_any (w : World) (s : ByteArray) (hs : s.size ≤ 4000) :
    Calls Tryd.prog 6 #[.string s] w fun r w' => RdP s r w' ∧ Below w.heap.size w w' := by
  obtain ⟨i0, hi0, hz0', hz1', hz2'⟩ := info_parts (show (Tryd.prog.info? 9).map (fun i => (i.zero, i.size, i.bytes)) = some (some (.string ⟨#[]⟩), 1, 16) by kernel_rfl)
  have HB := Lib.hid (fun o => alloc_below w o)
  by_cases h36 : s.size < 36
  · have i1 : (s.size : Int) < 36 := by omega
    have HNO := Lib.hid (show ∀ e, evOk e = true → evB e = s → There e s → False from fun e _ _ ht => by have := ht.size; omega)
    go_enter Tryd.func6, Tryd.ntmps6
    go_wp2
    refine bodyPost_ret (by simp [results, Tryd.results6, go_sem]; try rfl) rfl ?_
    exact ⟨RdP.no' HNO.out, HB.out _⟩
  have i1 : ¬ ((s.size : Int) < 36) := by omega
  have i3 : (3 : Int) ≤ (s.size : Int) := by omega
  have h35 : 35 < s.size := by omega
  by_cases hmk : s.extract 1 3 = ⟨#[0, 32]⟩
  · have i0' : (0 : Int) < (s.size : Int) := by omega
    have i35 : (35 : Int) ≤ (s.size : Int) := by omega
    have i36 : (35 : Int) < (s.size : Int) := by omega
    have h0 : 0 < s.size := by omega
    obtain ⟨n, hn⟩ : ∃ n, n = s[35].toNat := ⟨_, rfl⟩
    obtain ⟨kd, hkd⟩ : ∃ k, k = s[0].toNat := ⟨_, rfl⟩
    have hn256 : n < 256 := by rw [hn]; exact UInt8.toNat_lt _
    have hkd256 : kd < 256 := by rw [hkd]; exact UInt8.toNat_lt _
    have wk0 : IntKind.i64.wrap (s[0].toNat : Int) = (kd : Int) := by rw [IntKind.wrap_i64, hkd]; have := UInt8.toNat_lt s[0]; omega
    have wk35 : IntKind.i64.wrap (s[35].toNat : Int) = (n : Int) := by rw [IntKind.wrap_i64, hn]; have := UInt8.toNat_lt s[35]; omega
    have HEQ := Lib.hid (fun (e : E) (h : There e s) (m : Nat) (hm : m = valL (s.extract (36 + 32 * n) (36 + 32 * n + 2)).data.toList) => There.eq h h35 hkd hn hm)
    have HL2 := Lib.hid (show ∀ e, There e s → s.size = 40 + 32 * n + e.body.size + e.sig.size from fun e h => by have h1 := h.size; have h2 := h.count h35; omega)
    clear hkd hn
    go_enter Tryd.func6, Tryd.ntmps6
    go_wp2
    clear hmk
    refine wp_region_noPanic ?_
    refine wp_region_held_drew (S := fun _ => True) (by kernel_rfl) trivial (fun hHeld => ?_)
    refine wpAnyH_take (i := 0) (v := ?_) rfl (by kernel_rfl) (by kernel_rfl) (by kernel_rfl) (fun _ _ _ h => h) (Or.inl ⟨by rfl, ?_⟩) (by assumption) ?_
    rotate_left
    · (intro w' hSw; go_simp)
      first | done | with_reducible rfl
    try simp only [Act.put, List.getElem_toArray, List.getElem_cons_zero, List.setIfInBounds_toArray, List.set_cons_zero, List.set_cons_succ]
    refine wpAnyH_take (i := 3) (v := ?_) rfl (by kernel_rfl) (by kernel_rfl) (by kernel_rfl) (fun _ _ _ h => h) (Or.inl ⟨by rfl, ?_⟩) (by assumption) ?_
    rotate_left
    · (intro w' hSw; go_simp)
      first | done | with_reducible rfl
    try simp only [Act.put, List.getElem_toArray, List.getElem_cons_zero, List.getElem_cons_succ, List.setIfInBounds_toArray, List.set_cons_zero, List.set_cons_succ]
    refine wpAnyH_take (i := 4) (v := ?_) rfl (by kernel_rfl) (by kernel_rfl) (by kernel_rfl) (fun _ _ _ h => h) (Or.inl ⟨by rfl, ?_⟩) (by assumption) ?_
    rotate_left
    · (intro w' hSw; go_simp)
      first | done | with_reducible rfl
    try simp only [Act.put, List.getElem_toArray, List.getElem_cons_zero, List.getElem_cons_succ, List.setIfInBounds_toArray, List.set_cons_zero, List.set_cons_succ]
    refine wpAnyH_take (i := 1) (v := ?_) rfl (by kernel_rfl) (by kernel_rfl) (by kernel_rfl) (fun _ _ _ h => h) (Or.inl ⟨by rfl, ?_⟩) (by assumption) ?_
    rotate_left
    · (intro w' hSw; go_simp)
      first | done | with_reducible rfl
    try simp only [Act.put, List.getElem_toArray, List.getElem_cons_zero, List.getElem_cons_succ, List.setIfInBounds_toArray, List.set_cons_zero, List.set_cons_succ]
    refine wpAnyH_take (i := 2) (v := ?_) rfl (by kernel_rfl) (by kernel_rfl) (by kernel_rfl) (fun _ _ _ h => h) (Or.inl ⟨by rfl, ?_⟩) (by assumption) ?_
    rotate_left
    · (intro w' hSw; go_simp)
      first | done | with_reducible rfl
    try simp only [Act.put, List.getElem_toArray, List.getElem_cons_zero, List.getElem_cons_succ, List.setIfInBounds_toArray, List.set_cons_zero, List.set_cons_succ]
    refine wpAnyH_take (i := 5) (v := ?_) rfl (by kernel_rfl) (by kernel_rfl) (by kernel_rfl) (fun _ _ _ h => h) (Or.inl ⟨by rfl, ?_⟩) (by assumption) ?_
    rotate_left
    · (intro w' hSw; go_simp)
      first | done | with_reducible rfl
    try simp only [Act.put, List.getElem_toArray, List.getElem_cons_zero, List.getElem_cons_succ, List.setIfInBounds_toArray, List.set_cons_zero, List.set_cons_succ]
    refine wpAnyH_ready (rs := [6]) (by kernel_rfl) (by simp) ?_
    refine AllReadyH.cons rfl (fun K hK => ?_) AllReadyH.nil
    go_simp
    refine hK.out _ _ trivial (fun hHeld => ?_)
    clear hK K
    try simp only [Act.put, List.getElem_toArray, List.getElem_cons_zero, List.getElem_cons_succ, List.setIfInBounds_toArray, List.set_cons_zero, List.set_cons_succ]
    refine wpAnyH_ready (rs := [7]) (by kernel_rfl) (by simp) ?_
    refine AllReadyH.cons rfl (fun K hK => ?_) AllReadyH.nil
    go_simp
    refine hK.out _ _ trivial (fun hHeld => ?_)
    clear hK K
    try simp only [Act.put, List.getElem_toArray, List.getElem_cons_zero, List.getElem_cons_succ, List.setIfInBounds_toArray, List.set_cons_zero, List.set_cons_succ]
    refine wpAnyH_done (by kernel_rfl) ?_ _
    refine NoPanic.normal ?_
    all_goals
      obtain ⟨w1, hw1⟩ : ∃ W, W = ((w.alloc (.cells #[.int .i64 0, .string ⟨#[]⟩, .slice none 0 0, .string ⟨#[]⟩, .string ⟨#[]⟩] 25)).alloc (.cells #[.int .i64 (kd : Int), .string (s.extract 3 35), .slice none 0 0, .string ⟨#[]⟩, .string ⟨#[]⟩] 25)).drew := ⟨_, rfl⟩
      have LQ0 := Lib.hid (show Lq w w.heap.size (w.heap.size + 1) (w.heap.size + 2) w1 (.int .i64 (kd : Int)) (.string (s.extract 3 35)) (.slice none 0 0) (.string ⟨#[]⟩) (.string ⟨#[]⟩) (rPs s 0) by
        rw [hw1]
        exact ⟨((Blk.new w _ _).alloc _).drew, (Blk.new' (w.alloc _) _ _ (by simp)).drew, World.ownsRow_nil _ _ _ _, (((Below.refl _ _).alloc (Nat.le_refl _) _).alloc (by simp) _).drew, by simp⟩)
      have HPQ := Lib.hid (show Pq w w.heap.size (w.heap.size + 1) (w.heap.size + 2) from ⟨rfl, by omega, by omega⟩)
      rw [← hw1]
      clear hw1
      generalize hau : s.extract 3 35 = au at *
      have HAU := Lib.hid hau
      clear hau
      obtain ⟨eb, heb⟩ : ∃ e, e = w.heap.size + 1 := ⟨_, rfl⟩
      obtain ⟨B0, hB0⟩ : ∃ b, b = w.heap.size + 2 := ⟨_, rfl⟩
      rw [← heb, ← hB0] at LQ0 HPQ
      rw [← heb]
      clear heb hB0
      go_wp2
      go_loopw [5, 6] (fun at_ i wr => ∃ (k p : Nat) (v : Value), k ≤ n ∧ p = 36 + 32 * k ∧ i = .int .i64 (k : Int) ∧ at_ = .int .i64 (p : Int) ∧ p ≤ s.size ∧ Lq w w.heap.size eb B0 wr (.int .i64 (kd : Int)) (.string au) v (.string ⟨#[]⟩) (.string ⟨#[]⟩) (rPs s k)) (fun at_ i _ => n - (intOf i).toNat)
      case atStart => exact ⟨0, 36, _, Nat.zero_le _, rfl, rfl, rfl, by omega, LQ0.out⟩
      case round =>
        obtain ⟨k, p, v, hk, hp, rfl, rfl, hps, hL⟩ := hrel
        have HP := Lib.hid hp
        by_cases hlt : k < n
        · have ik : (k : Int) < (n : Int) := by omega
          have ip0 : (0 : Int) ≤ (p : Int) := by omega
          have ipw : IntKind.i64.wrap ((p : Int) + 32) = (p : Int) + 32 := by rw [IntKind.wrap_i64]; omega
          by_cases hb : p + 32 ≤ s.size
          · have ib : ¬ ((s.size : Int) < (p : Int) + 32) := by omega
            have ib2 : (p : Int) + 32 ≤ (s.size : Int) := by omega
            have ib3 : ((p : Int) + 32).toNat = p + 32 := by omega
            have ib4 : (0 : Int) ≤ (p : Int) + 32 := by omega
            have ib5 : (p : Int) ≤ (p : Int) + 32 := by omega
            have hll := rPs_length s k
            have HSU := Lib.hid (rPs_succ s k)
            clear hp
            generalize rPs s k = l at *
            have HLEN := Lib.hid hll
            have LD := Lib.hid hL.drew
            have d2 := LD.out.c.2.2.1
            have d2b := hL.c.2.2.1
            have d2a : ∀ o, (wr.alloc o).cell? ⟨eb, 2, none⟩ = some v := fun o => (hL.below (alloc_below wr o)).c.2.2.1
            have hl2 : l.length ≤ 256 := by omega
            have HC1 : Hid (l.length + 1 ≤ maxLen) := Lib.hid (by unfold maxLen; omega)
            have HC2 : Hid ((l.length + 1) * 16 ≤ 140737488355328) := Lib.hid (by omega)
            clear hL hll
            go_wp2
            go_region_law (first | (refine step_append_lies _ (by rfl) _ _ _ (by rfl) B0 9 i0 (.string ⟨#[]⟩) 1 16 Tryd.underlying23 hi0 hz0' hz1' hz2' rfl (by omega) _ l.length _ (by rfl) (LD.out.own.alloc _) ⟨wr.heap.size, 0, none⟩ 1 1 [.string (s.extract p (p + 32))] (by rfl) (by rfl) (World.news_of_block (cs := #[.string (s.extract p (p + 32))]) (t := 9) (fr := (0, 0)) (heap_alloc_new wr.drew _)) (one_str _) (by omega) HC1.out HC2.out (by have := LD.out.base; simp at this ⊢; omega) (wr.heap.size + 1) (by simp) ?_; intro g8 cap8 w8 hown8 hg8 _ _; obtain ⟨d8, f8, L8⟩ := LD.out.more HPQ.out hown8 hg8))
            all_goals
              have HL8 := Lib.hid L8
              clear L8
              go_wp2
              go_roundw
              case rel => exact ⟨k + 1, p + 32, _, by omega, by have := HP.out; omega, by go_num, by go_num, by omega, by rw [HSU.out, ← HP.out]; exact HL8.out⟩
              case measure => simp [intOf]; omega
          · have ib : (s.size : Int) < (p : Int) + 32 := by omega
            have HNO := Lib.hid (show ∀ e, evOk e = true → evB e = s → There e s → False from fun e _ _ ht => by have := HL2.out e ht; omega)
            have HL9 := Lib.hid hL
            obtain ⟨x0, x1, x2, x3, x4, y⟩ := hL.x
            clear hL hp
            go_wp2
            obtain ⟨s0, s1, s2, s3, s4⟩ := put5 HL9.out.res (.int .i64 0) (.string ⟨#[]⟩) (.slice none 0 0) (.string ⟨#[]⟩) (.string ⟨#[]⟩)
            refine bodyPost_ret (by simp [results, Tryd.results6, go_sem, s0, s1, s2, s3, s4]; try rfl) rfl ?_
            exact ⟨RdP.no' HNO.out, below5 HL9.out.bel (Nat.le_refl _) _ _ _ _ _⟩
        · obtain rfl : k = n := by omega
          have HL := Lib.hid hL
          have hpz : p ≤ 4000 := by omega
          clear hL
          rw [← hp] at HEQ
          have HEQ := Lib.hid (show ∀ e, There e s → ∀ m, m = valL (s.extract p (p + 2)).data.toList → e = ⟨(kd : Int), au, rPs s k, s.extract (p + 2) (p + 2 + m), s.extract (p + 2 + m + 2) s.size⟩ ∧ s.size = p + 4 + m + e.sig.size from fun e h m hm => by obtain ⟨a, b, _⟩ := HEQ.out e h m hm; exact ⟨a, by omega⟩)
          have HLB := Lib.hid (show ∀ e, There e s → s.size = p + 4 + e.body.size + e.sig.size from fun e h => by have := HL2.out e h; omega)
          have ip0 : (0 : Int) ≤ (p : Int) := by omega
          have ik : ¬ ((k : Int) < (k : Int)) := by omega
          have i2w : IntKind.i64.wrap ((p : Int) + 2) = (p : Int) + 2 := by rw [IntKind.wrap_i64]; omega
          clear hp HL2 HP
          by_cases hb : p + 2 ≤ s.size
          · have ib : ¬ ((s.size : Int) < (p : Int) + 2) := by omega
            have j1 : (0 : Int) ≤ (p : Int) + 2 := by omega
            have j2 : (p : Int) ≤ (p : Int) + 2 := by omega
            have j3 : (p : Int) + 2 ≤ (s.size : Int) := by omega
            have j4 : ((p : Int) + 2).toNat = p + 2 := by omega
            have hez : (s.extract p (p + 2)).size = 2 := by rw [ByteArray.size_extract]; omega
            have hml := valL_lt (s.extract p (p + 2)).data.toList
            have hml2 : valL (s.extract p (p + 2)).data.toList < 65536 := by
              have e1 : (s.extract p (p + 2)).data.toList.length = 2 := by rw [Array.length_toList]; exact hez
              rw [e1] at hml
              simpa using hml
            have HV := Lib.hid (fun W => value_any (s.extract p (p + 2)) (by omega) W)
            have HEQ2 := Lib.hid (fun e h => HEQ.out e h _ rfl)
            clear hml hez HEQ
            generalize valL (s.extract p (p + 2)).data.toList = m at *
            have i2m : IntKind.i64.wrap ((p : Int) + 2 + (m : Int)) = (p : Int) + 2 + (m : Int) := by rw [IntKind.wrap_i64]; omega
            by_cases hb2 : p + 2 + m ≤ s.size
            · have ib2 : ¬ ((s.size : Int) < (p : Int) + 2 + (m : Int)) := by omega
              have k1 : (0 : Int) ≤ (p : Int) + 2 + (m : Int) := by omega
              have k2 : (p : Int) + 2 ≤ (p : Int) + 2 + (m : Int) := by omega
              have k3 : (p : Int) + 2 + (m : Int) ≤ (s.size : Int) := by omega
              have k4 : ((p : Int) + 2 + (m : Int)).toNat = p + 2 + m := by omega
              have i2n : IntKind.i64.wrap ((p : Int) + 2 + (m : Int) + 2) = (p : Int) + 2 + (m : Int) + 2 := by rw [IntKind.wrap_i64]; omega
              have c3 := HL.out.c.2.2.2.1
              have f3 : wr.frozen? ⟨eb, 3, none⟩ = false := HL.out.box.frozen 3
              by_cases hb3 : p + 2 + m + 2 ≤ s.size
              · have ib3 : ¬ ((s.size : Int) < (p : Int) + 2 + (m : Int) + 2) := by omega
                have l1 : (0 : Int) ≤ (p : Int) + 2 + (m : Int) + 2 := by omega
                have l3 : (p : Int) + 2 + (m : Int) + 2 ≤ (s.size : Int) := by omega
                have l4 : ((p : Int) + 2 + (m : Int) + 2).toNat = p + 2 + m + 2 := by omega
                obtain ⟨a, c, hv, hrow, hcap⟩ := own_row HL.out.own
                subst hv
                have hpe := rPs_each s k hs
                have hpl := rPs_length s k
                generalize hps : rPs s k = ps at *
                have HPS := Lib.hid hps
                clear hps
                have L3 := Lib.hid (HL.out.put HPQ.out (.string (s.extract (p + 2) (p + 2 + m)))).1
                have c4 := L3.out.c.2.2.2.2
                have f4 : (wr.setCell ⟨eb, 3, none⟩ (.string (s.extract (p + 2) (p + 2 + m)))).frozen? ⟨eb, 4, none⟩ = false := L3.out.box.frozen 4
                have L4 := Lib.hid (L3.out.put HPQ.out (.string (s.extract (p + 2 + m + 2) s.size))).2
                have hbz : (s.extract (p + 2) (p + 2 + m)).size ≤ 4000 := by rw [ByteArray.size_extract]; omega
                clear hrow hcap
                obtain ⟨a0, c0, hv0, hrow, hcap⟩ := own_row L4.out.own
                cases hv0
                have HRT := Lib.hid (right_ref_at L4.out hrow hpe (by omega) hbz)
                obtain ⟨g0, g1, g2, g3, g4⟩ := L4.out.c
                clear hpe hpl hrow hcap hbz
                go_wp2_with fail
                refine (HV.out wr).mono ?_
                rintro r w5 ⟨rfl, rfl⟩
                go_wp2_with fail
                refine (HV.out wr).mono ?_
                rintro r w5 ⟨rfl, rfl⟩
                go_wp2_with fail
                generalize (wr.setCell ⟨eb, 3, none⟩ (.string (s.extract (p + 2) (p + 2 + m)))).setCell ⟨eb, 4, none⟩ (.string (s.extract (p + 2 + m + 2) s.size)) = w8 at *
                clear L3 HL c3 f3 c4 f4 g0 g1 g2 g3 g4 HV
                refine HRT.out.mono ?_
                rintro r w9 ⟨rfl, l9, r9⟩
                have HE2 := Lib.hid (show ∀ e, There e s → e = ⟨(kd : Int), au, ps, s.extract (p + 2) (p + 2 + m), s.extract (p + 2 + m + 2) s.size⟩ from fun e h => (HEQ2.out e h).1)
                clear HEQ2 HRT
                generalize s.extract (p + 2) (p + 2 + m) = bo at *
                generalize s.extract (p + 2 + m + 2) s.size = sg at *
                have L9 := Lib.hid l9
                have R9 := Lib.hid r9
                clear l9 r9 L4
                obtain ⟨g0, g1, g2, g3, g4⟩ := L9.out.c
                cases hX : evOk ⟨(kd : Int), au, ps, bo, sg⟩
                · have HNO := Lib.hid (show ∀ e, evOk e = true → evB e = s → There e s → False from fun e hok _ ht => by rw [HE2.out e ht, hX] at hok; cases hok)
                  clear hX
                  obtain ⟨x0, x1, x2, x3, x4, y⟩ := L9.out.x
                  go_wp2
                  obtain ⟨s0, s1, s2, s3, s4⟩ := put5 L9.out.res (.int .i64 0) (.string ⟨#[]⟩) (.slice none 0 0) (.string ⟨#[]⟩) (.string ⟨#[]⟩)
                  refine bodyPost_ret (by simp [results, Tryd.results6, go_sem, s0, s1, s2, s3, s4]; try rfl) rfl ?_
                  exact ⟨RdP.no' HNO.out, below5 L9.out.bel (Nat.le_refl _) _ _ _ _ _⟩
                · have HEN := Lib.hid (enc_ref_at w9 L9.out R9.out hX)
                  have HX := Lib.hid hX
                  clear hX
                  by_cases hB : evB ⟨(kd : Int), au, ps, bo, sg⟩ = s
                  · rw [hB] at HEN
                    have HBB := Lib.hid hB
                    clear hB
                    go_wp2_with fail
                    refine HEN.out.mono ?_
                    rintro r wa ⟨rfl, la, ra⟩
                    have LA := Lib.hid la
                    clear la ra g0 g1 g2 g3 g4
                    obtain ⟨g0, g1, g2, g3, g4⟩ := LA.out.c
                    obtain ⟨x0, x1, x2, x3, x4, y⟩ := LA.out.x
                    go_wp2
                    obtain ⟨s0, s1, s2, s3, s4⟩ := put5 LA.out.res (.int .i64 (kd : Int)) (.string au) (.slice a ps.length c) (.string bo) (.string sg)
                    refine bodyPost_ret (by simp [results, Tryd.results6, go_sem, s0, s1, s2, s3, s4]; try rfl) rfl ?_
                    obtain ⟨q1, q2, q3⟩ := HPQ.out
                    obtain ⟨a2, c2', e2, hrow2, hcap2⟩ := own_row (own_keep LA.out.own (fun g h1 _ => heap5 wa w.heap.size g (by omega) (.int .i64 (kd : Int)) (.string au) (.slice a ps.length c) (.string bo) (.string sg)))
                    cases e2
                    exact ⟨.inl ⟨_, a, c, HX.out, HBB.out, rfl, hrow2, hcap2⟩, below5 LA.out.bel (Nat.le_refl _) _ _ _ _ _⟩
                  · have HNO := Lib.hid (show ∀ e, evOk e = true → evB e = s → There e s → False from fun e hok he ht => by rw [HE2.out e ht] at he; exact hB he)
                    have hn1 := beqF6 hB
                    have hn2 : ¬ (evB ⟨(kd : Int), au, ps, bo, sg⟩).toList = s.toList := fun e => hB ((beqT6 _ _).1 (by rw [e, beq_self_eq_true]))
                    generalize evB ⟨(kd : Int), au, ps, bo, sg⟩ = EB at *
                    clear hB
                    go_wp2_with fail
                    refine HEN.out.mono ?_
                    rintro r wa ⟨rfl, la, ra⟩
                    have LA := Lib.hid la
                    clear la ra g0 g1 g2 g3 g4
                    obtain ⟨x0, x1, x2, x3, x4, y⟩ := LA.out.x
                    go_wp2
                    obtain ⟨s0, s1, s2, s3, s4⟩ := put5 LA.out.res (.int .i64 0) (.string ⟨#[]⟩) (.slice none 0 0) (.string ⟨#[]⟩) (.string ⟨#[]⟩)
                    refine bodyPost_ret (by simp [results, Tryd.results6, go_sem, s0, s1, s2, s3, s4]; try rfl) rfl ?_
                    exact ⟨RdP.no' HNO.out, below5 LA.out.bel (Nat.le_refl _) _ _ _ _ _⟩
              · have ib3 : (s.size : Int) < (p : Int) + 2 + (m : Int) + 2 := by omega
                have HNO := Lib.hid (show ∀ e, evOk e = true → evB e = s → There e s → False from fun e _ _ ht => by have h1 := (HEQ2.out e ht).2; omega)
                have LF := Lib.hid (HL.out.put HPQ.out (.string (s.extract (p + 2) (p + 2 + m)))).1
                go_wp2_with fail
                refine (HV.out wr).mono ?_
                rintro r w5 ⟨rfl, rfl⟩
                go_wp2_with fail
                refine (HV.out wr).mono ?_
                rintro r w5 ⟨rfl, rfl⟩
                obtain ⟨x0, x1, x2, x3, x4, y⟩ := LF.out.x
                go_wp2
                obtain ⟨s0, s1, s2, s3, s4⟩ := put5 LF.out.res (.int .i64 0) (.string ⟨#[]⟩) (.slice none 0 0) (.string ⟨#[]⟩) (.string ⟨#[]⟩)
                refine bodyPost_ret (by simp [results, Tryd.results6, go_sem, s0, s1, s2, s3, s4]; try rfl) rfl ?_
                exact ⟨RdP.no' HNO.out, below5 LF.out.bel (Nat.le_refl _) _ _ _ _ _⟩
            · have ib2 : (s.size : Int) < (p : Int) + 2 + (m : Int) := by omega
              have HNO := Lib.hid (show ∀ e, evOk e = true → evB e = s → There e s → False from fun e _ _ ht => by have h1 := (HEQ2.out e ht).2; omega)
              go_wp2_with fail
              refine (HV.out wr).mono ?_
              rintro r w5 ⟨rfl, rfl⟩
              obtain ⟨x0, x1, x2, x3, x4, y⟩ := HL.out.x
              go_wp2
              obtain ⟨s0, s1, s2, s3, s4⟩ := put5 HL.out.res (.int .i64 0) (.string ⟨#[]⟩) (.slice none 0 0) (.string ⟨#[]⟩) (.string ⟨#[]⟩)
              refine bodyPost_ret (by simp [results, Tryd.results6, go_sem, s0, s1, s2, s3, s4]; try rfl) rfl ?_
              exact ⟨RdP.no' HNO.out, below5 HL.out.bel (Nat.le_refl _) _ _ _ _ _⟩
          · have ib : (s.size : Int) < (p : Int) + 2 := by omega
            have HNO := Lib.hid (show ∀ e, evOk e = true → evB e = s → There e s → False from fun e _ _ ht => by have := HLB.out e ht; omega)
            obtain ⟨x0, x1, x2, x3, x4, y⟩ := HL.out.x
            go_wp2
            obtain ⟨s0, s1, s2, s3, s4⟩ := put5 HL.out.res (.int .i64 0) (.string ⟨#[]⟩) (.slice none 0 0) (.string ⟨#[]⟩) (.string ⟨#[]⟩)
            refine bodyPost_ret (by simp [results, Tryd.results6, go_sem, s0, s1, s2, s3, s4]; try rfl) rfl ?_
            exact ⟨RdP.no' HNO.out, below5 HL.out.bel (Nat.le_refl _) _ _ _ _ _⟩
  · have hl : (⟨#[0, 32]⟩ : ByteArray).toList = [0, 32] := by rw [ByteArray.toList_eq]
    have hne : ((s.extract 1 3).toList == [0, 32]) = false := by rw [← hl]; exact beqF6 hmk
    have hne2 : ¬ (s.extract 1 3).toList = [0, 32] := by rw [← hl]; exact fun e => hmk ((beqT6 _ _).1 (by rw [e, beq_self_eq_true]))
    have HNO := Lib.hid (show ∀ e, evOk e = true → evB e = s → There e s → False from fun e _ _ ht => hmk ht.mark)
    clear hmk hl
    go_enter Tryd.func6, Tryd.ntmps6
    go_wp2
    refine bodyPost_ret (by simp [results, Tryd.results6, go_sem]; try rfl) rfl ?_
    exact ⟨RdP.no' HNO.out, HB.out _⟩
end Go.Proofs.YtkdbbbmoalijhaaDoor
