/-
  Two unlike texts of one digest: plain, and the contract of sha.Clash.
-/
import Derived.Test.YtanplccigmihfaaDoorIn2
import Derived.Test.YtanplccigmihfaaDoorSize
import Derived.Maps.OwnSet
import Derived.Maps.Own
namespace Go.Pal
open Go.RowKit

def txt (l : List ByteArray) (i : Nat) : ByteArray := l.getD i ByteArray.empty
def dg (l : List ByteArray) (i : Nat) : ByteArray := shaB (txt l i)
def Cl (l : List ByteArray) (a b : Nat) : Prop := a < b ∧ txt l a ≠ txt l b ∧ dg l a = dg l b
/-- The lowest clash among the first n, or that there is none. -/
def Best (l : List ByteArray) (n lo hi : Nat) (fd : Bool) : Prop :=
  (fd = false ∧ lo = 0 ∧ hi = 0 ∧ ∀ a b, b < n → ¬ Cl l a b) ∨ (fd = true ∧ hi < n ∧ Cl l lo hi ∧ ∀ a b, b < n → Cl l a b → lo ≤ a ∧ (a = lo → hi ≤ b))
/-- The first of a digest. -/
def First (l : List ByteArray) (k p : Nat) (d : ByteArray) : Prop := p < k ∧ dg l p = d ∧ ∀ q, q < p → dg l q ≠ d
theorem best_zero (l : List ByteArray) : Best l 0 0 0 false := .inl ⟨rfl, rfl, rfl, fun _ b h => absurd h (Nat.not_lt_zero b)⟩
/-- Nothing new. -/
theorem best_same {l : List ByteArray} {n lo hi : Nat} {fd : Bool} (h : Best l n lo hi fd) (hno : ∀ a, Cl l a n → fd = true ∧ lo ≤ a ∧ (a = lo → hi ≤ n)) : Best l (n + 1) lo hi fd := by
  rcases h with ⟨h1, h2, h3, h4⟩ | ⟨h1, h2, h3, h4⟩
  · refine .inl ⟨h1, h2, h3, fun a b hb hc => ?_⟩
    by_cases e : b = n
    · subst e; have := (hno a hc).1; rw [h1] at this; cases this
    · exact h4 a b (by omega) hc
  · refine .inr ⟨h1, by omega, h3, fun a b hb hc => ?_⟩
    by_cases e : b = n
    · subst e; exact (hno a hc).2
    · exact h4 a b (by omega) hc
theorem best_unseen {l : List ByteArray} {n lo hi : Nat} {fd : Bool} (h : Best l n lo hi fd) (hn : ∀ p, p < n → dg l p ≠ dg l n) : Best l (n + 1) lo hi fd :=
  best_same h fun a hc => absurd hc.2.2 (hn a hc.1)
theorem first_le {l : List ByteArray} {n p a : Nat} {d : ByteArray} (hf : First l n p d) (ha : dg l a = d) : p ≤ a := by
  rcases Nat.lt_or_ge a p with h | h
  · exact absurd ha (hf.2.2 a h)
  · exact h
theorem best_alike {l : List ByteArray} {n lo hi p : Nat} {fd : Bool} (h : Best l n lo hi fd) (hf : First l n p (dg l n)) (he : txt l p = txt l n) : Best l (n + 1) lo hi fd := by
  refine best_same h fun a hc => ?_
  have hpa := first_le hf hc.2.2
  have hne : p ≠ a := fun e => hc.2.1 (by rw [← e]; exact he)
  have hcl : Cl l p a := ⟨by omega, fun e => hc.2.1 (by rw [← e]; exact he), hf.2.1.trans hc.2.2.symm⟩
  rcases h with ⟨_, _, _, h4⟩ | ⟨h1, h2, _, h4⟩
  · exact absurd hcl (h4 p a hc.1)
  · have := h4 p a hc.1 hcl
    exact ⟨h1, by omega, fun _ => by omega⟩
theorem best_new {l : List ByteArray} {n lo hi p : Nat} {fd : Bool} (h : Best l n lo hi fd) (hf : First l n p (dg l n)) (hne : txt l p ≠ txt l n) (hlo : fd = false ∨ p < lo) : Best l (n + 1) p n true := by
  refine .inr ⟨rfl, by omega, ⟨hf.1, hne, hf.2.1⟩, fun a b hb hc => ?_⟩
  by_cases e : b = n
  · subst e
    exact ⟨first_le hf hc.2.2, fun _ => by omega⟩
  · rcases h with ⟨_, _, _, h4⟩ | ⟨h1, h2, _, h4⟩
    · exact absurd hc (h4 a b (by omega))
    · have := h4 a b (by omega) hc
      rcases hlo with h5 | h5
      · rw [h1] at h5; cases h5
      · exact ⟨by omega, fun _ => by omega⟩
theorem best_old {l : List ByteArray} {n lo hi p : Nat} (h : Best l n lo hi true) (hf : First l n p (dg l n)) (hlo : lo ≤ p) : Best l (n + 1) lo hi true := by
  refine best_same h fun a hc => ?_
  have hpa := first_le hf hc.2.2
  rcases h with ⟨h1, _⟩ | ⟨_, h2, _, _⟩
  · cases h1
  · exact ⟨rfl, by omega, fun _ => by omega⟩
/-- The pair that is met first is the lowest. -/
theorem best_is {l : List ByteArray} {n lo hi a b : Nat} {fd : Bool} (h : Best l n lo hi fd) (hb : b < n) (hc : Cl l a b) (hno : ∀ x y, y < n → Cl l x y → ¬ (x < a ∨ (x = a ∧ y < b))) : fd = true ∧ lo = a ∧ hi = b := by
  rcases h with ⟨_, _, _, h4⟩ | ⟨h1, h2, h3, h4⟩
  · exact absurd hc (h4 a b hb)
  · have h5 := h4 a b hb hc
    have h6 := hno lo hi h2 h3
    refine ⟨h1, by omega, ?_⟩
    have : lo = a := by omega
    have := h5.2 this.symm
    omega
theorem best_none {l : List ByteArray} {n lo hi : Nat} {fd : Bool} (h : Best l n lo hi fd) (hno : ∀ x y, y < n → ¬ Cl l x y) : fd = false ∧ lo = 0 ∧ hi = 0 := by
  rcases h with ⟨h1, h2, h3, _⟩ | ⟨_, h2, h3, _⟩
  · exact ⟨h1, h2, h3⟩
  · exact absurd h3 (hno lo hi h2)

def keyL (d : ByteArray) : Lit := .string d.data.toList
theorem keyL_inj {a b : ByteArray} (h : keyL a = keyL b) : a = b := by
  injection h with h
  rw [ByteArray.ext_iff]; exact Array.ext' h
/-- What the map of digests holds behind k texts. -/
def MapOk (l : List ByteArray) (k : Nat) (D : DataW Unit) : Prop :=
  Maps.IsMap D ∧ ∀ d : ByteArray, (Maps.has D (keyL d) = true → ∃ p, First l k p d ∧ D.atKey (keyL d) (.lit (.int .i64 0)) = .lit (.int .i64 (p : Nat))) ∧ (Maps.has D (keyL d) = false → ∀ p, p < k → dg l p ≠ d)
theorem mapOk_zero (l : List ByteArray) : MapOk l 0 (.map []) := ⟨⟨_, rfl⟩, fun d => ⟨fun h => (by cases h), fun _ p h => absurd h (Nat.not_lt_zero p)⟩⟩
theorem mapOk_seen {l : List ByteArray} {k : Nat} {D : DataW Unit} (h : MapOk l k D) (hs : Maps.has D (keyL (dg l k)) = true) : MapOk l (k + 1) D := by
  refine ⟨h.1, fun d => ⟨fun hd => ?_, fun hd p hp => ?_⟩⟩
  · obtain ⟨p, hf, ha⟩ := (h.2 d).1 hd
    exact ⟨p, ⟨by have := hf.1; omega, hf.2⟩, ha⟩
  · by_cases e : p = k
    · intro e2
      rw [e] at e2
      rw [e2, hd] at hs; cases hs
    · exact (h.2 d).2 hd p (by omega)
theorem mapOk_put {l : List ByteArray} {k : Nat} {D : DataW Unit} (h : MapOk l k D) (hs : Maps.has D (keyL (dg l k)) = false) : MapOk l (k + 1) (D.put (keyL (dg l k)) (.lit (.int .i64 (k : Nat)))) := by
  refine ⟨?_, fun d => ?_⟩
  · obtain ⟨es, rfl⟩ := h.1
    exact ⟨_, rfl⟩
  · by_cases e : d = dg l k
    · subst e
      refine ⟨fun _ => ⟨k, ⟨by omega, rfl, (h.2 _).2 hs⟩, Maps.atKey_put_same h.1 (show WideAt.IsKeyLit (keyL (dg l k)) from trivial) _ _⟩, fun hd => ?_⟩
      rw [Maps.has_put_same h.1 (show WideAt.IsKeyLit (keyL (dg l k)) from trivial)] at hd; cases hd
    · have hne : keyL d ≠ keyL (dg l k) := fun x => e (keyL_inj x)
      rw [Maps.has_put_other hne, Maps.atKey_put_other hne]
      refine ⟨fun hd => ?_, fun hd p hp => ?_⟩
      · obtain ⟨p, hf, ha⟩ := (h.2 d).1 hd
        exact ⟨p, ⟨by have := hf.1; omega, hf.2⟩, ha⟩
      · by_cases e2 : p = k
        · rw [e2]; exact fun x => e x.symm
        · exact (h.2 d).2 hd p (by omega)
end Go.Pal
namespace Go.Proofs.YtanplccigmihfaaDoor
open Go.RowKit Go.Pal

theorem strRow_some {w : World} {a : Option Addr} {l : List ByteArray} (h : StrRow w a l) (h0 : 0 < l.length) : ∃ b off, a = some ⟨b, off, none⟩ ∧ b < w.heap.size := by
  rcases h with h | ⟨b, off, rfl, hbl, _⟩
  · rw [h] at h0; simp at h0
  · exact ⟨b, off, rfl, hbl⟩
theorem strRow_cell {w : World} {b off : Nat} {l : List ByteArray} (h : StrRow w (some ⟨b, off, none⟩) l) (i : Nat) (hi : i < l.length) : w.cell? ⟨b, off + i, none⟩ = some (.string (txt l i)) := by
  rcases h with h | ⟨b2, o2, he, _, hc⟩
  · rw [h] at hi; simp at hi
  · cases he; exact hc i hi
theorem beqF' {a b : ByteArray} (h : a ≠ b) : (a.toList == b.toList) = false := by
  cases e : a.toList == b.toList
  · rfl
  · refine absurd ?_ h
    rw [ByteArray.toList_eq, ByteArray.toList_eq, beq_iff_eq] at e
    rw [ByteArray.ext_iff]; exact Array.ext' e
theorem mlaw : Maps.Keyed Tryd.prog 9 := Maps.string_keyed Tryd.underlying9
theorem zeroE (w : World) : (zeroValue 3).run Tryd.prog w = .ok (.int .i64 0) w := by kernel_rfl

set_option maxHeartbeats 2000000 in
set_option maxRecDepth 100000 in
theorem clashBy_any (w : World) (a : Option Addr) (cap : Nat) (l : List ByteArray) (hr : StrRow w a l) (hl : l.length ≤ 100000) (hsz : ∀ i, (txt l i).size ≤ 1000000) (ht : Tabs w) :
    Calls Tryd.prog 15 #[.slice a l.length cap, .func (.func 13) #[] #[]] w fun e w' => (∃ lo hi fd, e = .returned (.tuple #[.int .i64 ((lo : Nat) : Int), .int .i64 ((hi : Nat) : Int), .bool fd]) ∧ Best l l.length lo hi fd) ∧ Below w.heap.size w w' := by
  have hmm := @run_makeMap Tryd.prog
  have hnot : ∀ (x : Bool) (w : World), (Op.unary .not (.bool x)).run Tryd.prog w = .ok (.bool (!x)) w := fun _ _ => rfl
  have HR := Lib.hid hr
  have HSZ := Lib.hid hsz
  have HT := Lib.hid ht
  clear hr hsz ht
  go_enter Tryd.func15, Tryd.ntmps15
  go_wp2
  go_loopw [7, 8, 9, 19] (fun v7 v8 v9 i wr => ∃ (k lo hi : Nat) (fd : Bool) (D : DataW Unit), k ≤ l.length ∧ i = .int .i64 k ∧ v7 = .int .i64 lo ∧ v8 = .int .i64 hi ∧ v9 = .bool fd ∧ Best l k lo hi fd ∧ MapOk l k D ∧ wr.ownsMap Tryd.prog 9 (plainElem Tryd.prog 3) w.heap.size k D ∧ Below w.heap.size w wr) (fun _ _ _ i _ => l.length - (intOf i).toNat)
  case atStart => exact ⟨0, 0, 0, false, .map [], by omega, rfl, rfl, rfl, rfl, best_zero l, mapOk_zero l, World.ownsMap_made _ _ _ _, (Below.refl _ _).alloc (Nat.le_refl _) _⟩
  case round =>
    clear hmm
    obtain ⟨k, lo, hi, fd, D, hk, rfl, rfl, rfl, rfl, hbest, hmap, hown, hb⟩ := hrel
    by_cases hlt : k < l.length
    · obtain ⟨tb, to, rfl, htb⟩ := strRow_some HR.out (by omega)
      have ck := strRow_cell (HR.out.below hb) k hlt
      have hzk := HSZ.out k
      have HSU := Lib.hid (sum_any wr (txt l k) (by omega) (HT.out.below hb))
      have HBE := Lib.hid hbest
      have HMA := Lib.hid hmap
      have HO := Lib.hid hown
      have HB := Lib.hid hb
      have HCE := Lib.hid (fun (W : World) (hB : Below w.heap.size w W) p (hp : p < l.length) => strRow_cell (HR.out.below hB) p hp)
      rw [← show dg l k = shaB (txt l k) from rfl] at HSU
      have hdz : (dg l k).size ≤ maxLen := by
        have : (shaB (txt l k)).size = 32 := by show (shaL _).toArray.size = 32; rw [List.size_toArray, shaL_length]
        unfold dg; rw [this]; unfold maxLen; omega
      have HKEY := Lib.hid (WideMaps.keyOf_string_mk (P := Tryd.prog) Tryd.underlying9 hdz)
      clear hbest hmap hown hb hzk hdz
      cases hsn : Maps.has D (keyL (dg l k))
      · have HBN := Lib.hid (best_unseen HBE.out ((HMA.out.2 _).2 hsn))
        have HMN := Lib.hid (mapOk_put HMA.out hsn)
        have HSN := Lib.hid hsn
        clear hsn HBE HMA
        generalize hDD : dg l k = DD at *
        clear hDD
        go_wp2_with fail
        refine HSU.out.mono ?_
        rintro e w1 ⟨rfl, b1⟩
        have B1 := Lib.hid (HB.out.trans (b1.mono HB.out.size))
        have O1 := Lib.hid (HO.out.kept (Lib.grownBy_below (World.grownBy.refl _ none) b1) (by simp))
        clear b1 HO HB HSU
        go_wp2_with (first
          | (at_lookup; refine wpList_lookup_own_ok_int _ rfl _ _ 53 rfl 9 3 .i64 mlaw Tryd.underlying53 Tryd.underlying3 (zeroE _) w.heap.size k D rfl O1.out _ _ rfl HKEY.out ?_; intro c hat hwc; rw [show Maps.has D (Lit.string DD.data.toList) = false from HSN.out]; clear hat hwc)
          | (at_mapUpdate; refine wpList_mapUpdate_own _ rfl _ _ _ 53 rfl 9 3 mlaw Tryd.underlying53 _ w.heap.size k _ rfl O1.out (by unfold maxLen; omega) _ _ _ rfl rfl HKEY.out _ [] (plainElem_int Tryd.underlying3 (WalkArith.wf_i64 (by omega))) ?_; intro w2 hown2 hg2))
        have O2 := Lib.hid hown2
        have B2 := Lib.hid (B1.out.grown hg2 B1.out.size (fun j hj => by cases hj; exact Nat.le_refl _))
        clear hown2 hg2
        go_wp2
        go_roundw
        case rel => exact ⟨k + 1, lo, hi, fd, _, by omega, by go_num, rfl, rfl, rfl, HBN.out, HMN.out, O2.out, B2.out⟩
        case measure => simp [intOf]; omega
      · obtain ⟨p, hf, hp⟩ := (HMA.out.2 _).1 hsn
        have HMN := Lib.hid (mapOk_seen HMA.out hsn)
        have HF := Lib.hid hf
        have HP := Lib.hid hp
        have HSN := Lib.hid hsn
        have hpk : p < k := hf.1
        have hpl : p < l.length := by omega
        have hpli : (p : Int) < (l.length : Int) := by omega
        have HA1 := Lib.hid (fun e => best_alike HBE.out HF.out e)
        have HA2 := Lib.hid (fun e h => best_new HBE.out HF.out e h)
        have HA3 := Lib.hid (fun (e : fd = true) h => best_old (p := p) (lo := lo) (hi := hi) (by rw [← e]; exact HBE.out) HF.out h)
        clear hsn hf hp HMA HF
        generalize hDD : dg l k = DD at *
        clear hDD
        go_wp2_with fail
        refine HSU.out.mono ?_
        rintro e w1 ⟨rfl, b1⟩
        have B1 := Lib.hid (HB.out.trans (b1.mono HB.out.size))
        have O1 := Lib.hid ((HO.out.kept (Lib.grownBy_below (World.grownBy.refl _ none) b1) (by simp)).mono (show k ≤ k + 1 by omega))
        have cp := HCE.out w1 B1.out p hpl
        clear b1 HO HB HSU ck
        generalize txt l k = X at *
        generalize txt l p = Y at *
        by_cases hxy : Y = X
        · subst hxy
          have HBN := Lib.hid (HA1.out rfl)
          clear HA1 HA2 HA3 HBE
          go_wp2_with (at_lookup; refine wpList_lookup_own_ok_int _ rfl _ _ 53 rfl 9 3 .i64 mlaw Tryd.underlying53 Tryd.underlying3 (zeroE _) w.heap.size (k + 1) D rfl O1.out _ _ rfl HKEY.out ?_; intro c hat hwc; rw [show Maps.has D (Lit.string DD.data.toList) = true from HSN.out]; have hc : c = (p : Int) := (by have h1 := HP.out.symm.trans hat; injection h1 with h1; injection h1 with _ h1; exact h1.symm); rw [hc]; clear hat hwc hc)
          go_roundw
          case rel => exact ⟨k + 1, lo, hi, fd, D, by omega, by go_num, rfl, rfl, rfl, HBN.out, HMN.out, O1.out, B1.out⟩
          case measure => simp [intOf]; omega
        · have hne := beqF' hxy
          cases fd
          · have HBN := Lib.hid (HA2.out hxy (.inl rfl))
            clear HA1 HA2 HA3 HBE hxy
            go_wp2_with (at_lookup; refine wpList_lookup_own_ok_int _ rfl _ _ 53 rfl 9 3 .i64 mlaw Tryd.underlying53 Tryd.underlying3 (zeroE _) w.heap.size (k + 1) D rfl O1.out _ _ rfl HKEY.out ?_; intro c hat hwc; rw [show Maps.has D (Lit.string DD.data.toList) = true from HSN.out]; have hc : c = (p : Int) := (by have h1 := HP.out.symm.trans hat; injection h1 with h1; injection h1 with _ h1; exact h1.symm); rw [hc]; clear hat hwc hc)
            go_roundw
            case rel => exact ⟨k + 1, p, k, true, D, by omega, by go_num, rfl, rfl, rfl, HBN.out, HMN.out, O1.out, B1.out⟩
            case measure => simp [intOf]; omega
          · by_cases hpo : p < lo
            · have HBN := Lib.hid (HA2.out hxy (.inr hpo))
              have hpo2 : (p : Int) < (lo : Int) := by omega
              clear HA1 HA2 HA3 HBE hxy
              go_wp2_with (at_lookup; refine wpList_lookup_own_ok_int _ rfl _ _ 53 rfl 9 3 .i64 mlaw Tryd.underlying53 Tryd.underlying3 (zeroE _) w.heap.size (k + 1) D rfl O1.out _ _ rfl HKEY.out ?_; intro c hat hwc; rw [show Maps.has D (Lit.string DD.data.toList) = true from HSN.out]; have hc : c = (p : Int) := (by have h1 := HP.out.symm.trans hat; injection h1 with h1; injection h1 with _ h1; exact h1.symm); rw [hc]; clear hat hwc hc)
              go_roundw
              case rel => exact ⟨k + 1, p, k, true, D, by omega, by go_num, rfl, rfl, rfl, HBN.out, HMN.out, O1.out, B1.out⟩
              case measure => simp [intOf]; omega
            · have HBN := Lib.hid (HA3.out rfl (by omega))
              clear HA1 HA2 HA3 HBE hxy
              go_wp2_with (at_lookup; refine wpList_lookup_own_ok_int _ rfl _ _ 53 rfl 9 3 .i64 mlaw Tryd.underlying53 Tryd.underlying3 (zeroE _) w.heap.size (k + 1) D rfl O1.out _ _ rfl HKEY.out ?_; intro c hat hwc; rw [show Maps.has D (Lit.string DD.data.toList) = true from HSN.out]; have hc : c = (p : Int) := (by have h1 := HP.out.symm.trans hat; injection h1 with h1; injection h1 with _ h1; exact h1.symm); rw [hc]; clear hat hwc hc)
              go_roundw
              case rel => exact ⟨k + 1, lo, hi, true, D, by omega, by go_num, rfl, rfl, rfl, HBN.out, HMN.out, O1.out, B1.out⟩
              case measure => simp [intOf]; omega
    · obtain rfl : k = l.length := by omega
      have HBE := Lib.hid hbest
      have HB := Lib.hid hb
      clear hbest hmap hown hb
      go_wp2
      go_ret3
      exact ⟨⟨lo, hi, fd, rfl, HBE.out⟩, HB.out⟩
end Go.Proofs.YtanplccigmihfaaDoor
