/-
  Contracts of package store: lay.
-/
import Derived.Test.YtffnkomnldgcaaaGreatDoorSo4
import Derived.Test.YtffnkomnldgcaaaGreatDoorLg5
namespace Go.Proofs.YtffnkomnldgcaaaGreatDoor
open Go.RowKit Go.Pal Go.Pal.Dk Go.Pal.Fr Go.Pal.Cr

/-- A store, with its log and its disk. -/
structure SoAt (w : World) (base B Lb D : Nat) (d : Dk) (L : Lay) (gs : List (List ByteArray)) (br : Bool) (s : SS) (ev q : Value) : Prop where
  st : StAt w base B (.pointer (some ⟨Lb, 0, none⟩)) s ev q
  lg : LgAt w Lb D (gs.length - 1) gs.flatten.length br
  dk : DkAt w base D d L
def SoF (B Lb D : Nat) (d : Dk) (L : Lay) (ev q : Value) (g : Nat) : Prop := RowB B ev q g ∨ g = Lb ∨ Foot D d.files L g
theorem SoAt.keep {w w' : World} {base B Lb D : Nat} {d : Dk} {L : Lay} {gs : List (List ByteArray)} {br : Bool} {s : SS} {ev q : Value} (h : SoAt w base B Lb D d L gs br s ev q) (hk : ∀ g, SoF B Lb D d L ev q g → w'.heap[g]? = w.heap[g]?) : SoAt w' base B Lb D d L gs br s ev q :=
  ⟨h.st.keep (fun g hg => hk g (.inl hg)), h.lg.keep (hk Lb (.inr (.inl rfl))), h.dk.keep (fun g hg => hk g (.inr (.inr hg)))⟩
theorem SoAt.lt {w : World} {base B Lb D : Nat} {d : Dk} {L : Lay} {gs : List (List ByteArray)} {br : Bool} {s : SS} {ev q : Value} (h : SoAt w base B Lb D d L gs br s ev q) {g : Nat} (hg : SoF B Lb D d L ev q g) : g < w.heap.size := by
  rcases hg with hg | rfl | hg
  · exact h.st.row_lt hg
  · exact Blk.lt h.lg
  · exact h.dk.foot_lt hg
theorem SoAt.below {w w' : World} {base B Lb D : Nat} {d : Dk} {L : Lay} {gs : List (List ByteArray)} {br : Bool} {s : SS} {ev q : Value} (h : SoAt w base B Lb D d L gs br s ev q) {n : Nat} (hb : Below n w w') (hn : w.heap.size ≤ n) : SoAt w' base B Lb D d L gs br s ev q :=
  h.keep fun _ hg => hb.block _ (Nat.lt_of_lt_of_le (h.lt hg) hn)
/-- The rows of a state lie apart from its log and its disk. -/
theorem SoAt.row_apart {w : World} {base B Lb D : Nat} {d : Dk} {L : Lay} {gs : List (List ByteArray)} {br : Bool} {s : SS} {ev q : Value} (h : SoAt w base B Lb D d L gs br s ev q) {g : Nat} (hg : RowB B ev q g) : g ≠ Lb ∧ ¬ Foot D d.files L g := by
  rcases hg with rfl | hg | hg
  · refine ⟨fun e => ?_, h.dk.not_typ h.st.blk (by decide) (by decide) (by decide)⟩
    have h1 := h.st.blk
    have h2 := h.lg
    unfold LgAt Blk at h2
    unfold Blk at h1
    rw [e, h2] at h1
    injection h1 with h1
    injection h1 with _ h3
    exact absurd h3 (by decide)
  · exact ⟨fun e => QR.notBlk h.lg (by decide) h.st.evs (by rw [hg, e]), QR.foot h.dk h.st.evs hg⟩
  · exact ⟨fun e => QR.notBlk h.lg (by decide) h.st.qs (by rw [hg, e]), QR.foot h.dk h.st.qs hg⟩
/-- What a call leaves of a store. -/
def Did (w : World) (base B Lb D : Nat) (d : Dk) (L : Lay) (ev q : Value) (d' : Dk) (gs : List (List ByteArray)) (br : Bool) (s' : SS) (w' : World) : Prop :=
  ∃ L' ev' q', SoAt w' base B Lb D d' L' gs br s' ev' q' ∧ Off (SoF B Lb D d L ev q) w w' ∧ ∀ g, SoF B Lb D d' L' ev' q' g → SoF B Lb D d L ev q g ∨ w.heap.size ≤ g
theorem Did.same {w w' : World} {base B Lb D : Nat} {d : Dk} {L : Lay} {gs : List (List ByteArray)} {br : Bool} {s : SS} {ev q : Value} (h : SoAt w base B Lb D d L gs br s ev q) (hb : Below w.heap.size w w') : Did w base B Lb D d L ev q d gs br s w' :=
  ⟨L, ev, q, h.below hb (Nat.le_refl _), Off.of_new hb _, fun _ hg => .inl hg⟩
theorem Did.pre {w w1 w' : World} {base B Lb D : Nat} {d d' : Dk} {L : Lay} {gs : List (List ByteArray)} {br : Bool} {s' : SS} {ev q : Value} (hb : Below w.heap.size w w1) (h : Did w1 base B Lb D d L ev q d' gs br s' w') : Did w base B Lb D d L ev q d' gs br s' w' := by
  obtain ⟨L', ev', q', a, b, c⟩ := h
  refine ⟨L', ev', q', a, (Off.of_new hb _).trans b (fun g _ h => h), fun g hg => ?_⟩
  rcases c g hg with h | h
  · exact .inl h
  · exact .inr (Nat.le_trans hb.size h)
theorem Did.then {w w1 w' : World} {base B Lb D : Nat} {d d1 d' : Dk} {L : Lay} {gs gs1 : List (List ByteArray)} {br br1 : Bool} {s1 s' : SS} {ev q : Value} (h : Did w base B Lb D d L ev q d1 gs1 br1 s1 w1)
    (h2 : ∀ L1 ev1 q1, SoAt w1 base B Lb D d1 L1 gs1 br1 s1 ev1 q1 → Did w1 base B Lb D d1 L1 ev1 q1 d' gs br s' w') : Did w base B Lb D d L ev q d' gs br s' w' := by
  obtain ⟨L1, ev1, q1, a, b, c⟩ := h
  obtain ⟨L', ev', q', a2, b2, c2⟩ := h2 L1 ev1 q1 a
  refine ⟨L', ev', q', a2, b.trans b2 (fun g hg hs => ?_), fun g hg => ?_⟩
  · rcases c g hs with h | h
    · exact h
    · omega
  · rcases c2 g hg with h | h
    · exact c g h
    · exact .inr (Nat.le_trans b.size h)
/-- .. of the log's append. -/
theorem Did.ap {w w' : World} {base B Lb D : Nat} {d d' : Dk} {L : Lay} {gs gs' : List (List ByteArray)} {br br' : Bool} {s : SS} {ev q : Value} (h : SoAt w base B Lb D d L gs br s ev q) {last cnt : Nat} (ha : Ap w base D Lb d L last cnt br' d' w') (hl : last = gs'.length - 1) (hc : cnt = gs'.flatten.length) : Did w base B Lb D d L ev q d' gs' br' s w' := by
  obtain ⟨l, ⟨L', a, c⟩, o⟩ := ha
  subst hl hc
  refine ⟨L', ev, q, ⟨h.st.keep (fun g hg => o.block g (h.st.row_lt hg) (fun e => ?_)), l, a⟩, o.mono (fun g _ hg => .inr hg), fun g hg => ?_⟩
  · have := h.row_apart hg
    rcases e with e | e
    · exact this.1 e
    · exact this.2 e
  · rcases hg with hg | hg | hg
    · exact .inl (.inl hg)
    · exact .inl (.inr (.inl hg))
    · rcases c g hg with h | h
      · exact .inl (.inr (.inr h))
      · exact .inr h
/-- .. of a record that is taken. -/
theorem Did.taken {w w' : World} {base B Lb D : Nat} {d : Dk} {L : Lay} {gs : List (List ByteArray)} {br : Bool} {s s' : SS} {ev q : Value} (h : SoAt w base B Lb D d L gs br s ev q) (ht : Taken w base B (.pointer (some ⟨Lb, 0, none⟩)) ev q s' w') : Did w base B Lb D d L ev q d gs br s' w' := by
  obtain ⟨ev', q', a, b, c⟩ := ht
  have hk : ∀ g, g = Lb ∨ Foot D d.files L g → w'.heap[g]? = w.heap[g]? := fun g hg => b.block g (h.lt (.inr hg)) (fun e => by
    have := h.row_apart e
    rcases hg with hg | hg
    · exact this.1 hg
    · exact this.2 hg)
  refine ⟨L, ev', q', ⟨a, h.lg.keep (hk Lb (.inl rfl)), h.dk.keep (fun g hg => hk g (.inr hg))⟩, b.mono (fun g _ hg => .inl hg), fun g hg => ?_⟩
  rcases hg with (hg | hg) | hg
  · exact .inl (.inl (.inl hg))
  · rcases c g hg with h | h
    · exact .inl (.inl (.inr h))
    · exact .inr h
  · exact .inl (.inr hg)

/-- What a record that was laid leaves of a disk, and what one that wasn't. -/
structure OkD (d : Dk) (gs : List (List ByteArray)) (r : ByteArray) (d' : Dk) : Prop where
  files : d'.files = modF (segN (nextL gs)) syncF (putF (segN (nextL gs)) (sealB r) d.files)
  room : d'.room = d.room
  calm : d.on = true → d.arm = none → d'.on = true ∧ d'.arm = none
structure BadD (d : Dk) (gs : List (List ByteArray)) (r : ByteArray) (d' : Dk) : Prop where
  files : d'.files = d.files ∨ d'.files = putF (segN (nextL gs)) (sealB r) d.files
  room : d'.room = d.room
  calm : ¬ (d.on = true ∧ d.arm = none)
theorem beg_calm {d : Dk} (h1 : d.on = true) (h2 : d.arm = none) : begD d = (true, d) := by unfold begD; rw [h1, if_neg (by decide), h2]
/-- Either a record was laid, or it wasn't. -/
def LaidP (w : World) (base B Lb D : Nat) (d : Dk) (L : Lay) (gs : List (List ByteArray)) (s s' : SS) (ev q : Value) (r : ByteArray) (e : Ending) (w' : World) : Prop :=
  (∃ d', e = .returned (.int .i64 0) ∧ Did w base B Lb D d L ev q d' (addL gs r) false s' w' ∧ OkD d gs r d') ∨ (∃ d', e = .returned (.int .i64 6) ∧ Did w base B Lb D d L ev q d' gs true s w' ∧ BadD d gs r d')
theorem append_so {w : World} {base B Lb D : Nat} {d : Dk} {L : Lay} {gs : List (List ByteArray)} {s : SS} {ev q : Value} (h : SoAt w base B Lb D d L gs false s ev q) (hs : Segs d.files gs ByteArray.empty) (hg : gs.length ≤ 59) (hc : gs.flatten.length ≤ 1000000) (r : ByteArray) (hr : r.size ≤ 65535) (hlen : d.files.length ≤ 1000000) (hroom : usedF d.files + (8 + r.size) ≤ d.room) :
    Calls Tryz.prog 45 #[.pointer (some ⟨Lb, 0, none⟩), .string r] w (LaidP w base B Lb D d L gs s s ev q r) := by
  have hl := addL_length gs r
  cases hb : (begD d).1
  · refine (append_off h.lg h.dk (by omega) r hr hlen hb).mono ?_
    rintro e w' ⟨rfl, ha⟩
    exact .inr ⟨_, rfl, Did.ap h ha rfl rfl, ⟨.inl (begD_files d).1, (begD_files d).2, fun hh => by rw [beg_calm hh.1 hh.2] at hb; cases hb⟩⟩
  · have hf2 := begD_files (laidD d (segN (nextL gs)) (sealB r))
    have hrm : (laidD d (segN (nextL gs)) (sealB r)).room = d.room := (begD_files d).2
    have hcalm : d.on = true → d.arm = none → laidD d (segN (nextL gs)) (sealB r) = { d with files := putF (segN (nextL gs)) (sealB r) d.files } := fun h1 h2 => by unfold laidD; rw [beg_calm h1 h2]
    cases hb2 : (begD (laidD d (segN (nextL gs)) (sealB r))).1
    · refine (append_under h.lg h.dk hs hg hc r hr hlen hroom hb hb2).mono ?_
      rintro e w' ⟨rfl, ha⟩
      refine .inr ⟨_, rfl, Did.ap h ha rfl rfl, ⟨.inr hf2.1, hf2.2.trans hrm, fun hh => ?_⟩⟩
      rw [hcalm hh.1 hh.2] at hb2
      rw [beg_calm (d := { d with files := putF (segN (nextL gs)) (sealB r) d.files }) hh.1 hh.2] at hb2
      cases hb2
    · refine (append_yes h.lg h.dk hs hg hc r hr hlen hroom hb hb2).mono ?_
      rintro e w' ⟨rfl, ha⟩
      refine .inl ⟨_, rfl, Did.ap h ha (by omega) (by rw [addL_flat]; simp), ⟨rfl, hf2.2.trans hrm, fun h1 h2 => ?_⟩⟩
      unfold syncedD
      rw [hcalm h1 h2, beg_calm (d := { d with files := putF (segN (nextL gs)) (sealB r) d.files }) h1 h2]
      exact ⟨h1, h2⟩

/-- The closure that is asked answers er, and only reads. -/
structure Wrong (w : World) (F : Nat) (caps : Array Value) (er : Int) : Prop where
  ent : ∀ args w, (callFunc F args).run Tryz.prog w = .ok (.enter F args) w
  call : ∀ W : World, W.heap = w.heap → Calls Tryz.prog F caps W fun e w' => e = .returned (.int .i64 er) ∧ ∃ m, w' = W.drewN m

set_option maxHeartbeats 1000000 in
set_option maxRecDepth 100000 in
theorem lay_wrong (w : World) (B F : Nat) (caps : Array Value) (er : Int) (c r : ByteArray) (hw : Wrong w F caps er) (he : er ≠ 0) :
    Calls Tryz.prog 30 #[.pointer (some ⟨B, 0, none⟩), .string c, .string r, .func (.func F) #[] caps] w fun e w' => e = .returned (.int .i64 er) ∧ Below w.heap.size w w' := by
  have HW := Lib.hid hw
  have hE := hw.ent
  clear hw
  go_enter Tryz.func30, Tryz.ntmps30
  go_wp2_with fail
  refine (HW.out.call _ (by rfl)).mono ?_
  rintro e w1 ⟨rfl, m, rfl⟩
  clear hE
  go_wp2
  go_ret
  exact ⟨rfl, rfl, rfl, rfl, Nat.le_refl _, fun _ _ => rfl⟩
theorem SoAt.drewN {w : World} {base B Lb D : Nat} {d : Dk} {L : Lay} {gs : List (List ByteArray)} {br : Bool} {s : SS} {ev q : Value} (h : SoAt w base B Lb D d L gs br s ev q) (n : Nat) : SoAt (w.drewN n) base B Lb D d L gs br s ev q := h.keep (fun _ _ => rfl)
theorem below_drewN (w : World) (n : Nat) : Below w.heap.size w (w.drewN n) := ⟨rfl, rfl, rfl, Nat.le_refl _, fun _ _ => rfl⟩

set_option maxHeartbeats 1000000 in
set_option maxRecDepth 100000 in
theorem lay_ok {w : World} {base B Lb D : Nat} {d : Dk} {L : Lay} {gs : List (List ByteArray)} {s s' : SS} {ev q : Value} (h : SoAt w base B Lb D d L gs false s ev q) (hs : Segs d.files gs ByteArray.empty) (hg : gs.length ≤ 59) (hc : gs.flatten.length ≤ 1000000) (hlen : d.files.length ≤ 1000000) {n : Nat} (hz : SzS s n) (hn : n ≤ 1000000)
    (F : Nat) (caps : Array Value) (c r : ByteArray) (hw : Wrong w F caps 0) (hr : (c ++ r).size ≤ 65535) (hroom : usedF d.files + (8 + (c ++ r).size) ≤ d.room) (ht : takeR s (c ++ r) = some s') :
    Calls Tryz.prog 30 #[.pointer (some ⟨B, 0, none⟩), .string c, .string r, .func (.func F) #[] caps] w (LaidP w base B Lb D d L gs s s' ev q (c ++ r)) := by
  have HW := Lib.hid hw
  have hE := hw.ent
  have HA := Lib.hid (fun (W : World) (hh : SoAt W base B Lb D d L gs false s ev q) => append_so hh hs hg hc (c ++ r) hr hlen hroom)
  have HT := Lib.hid (fun (W : World) (ev q : Value) (hh : StAt W base B (.pointer (some ⟨Lb, 0, none⟩)) s ev q) (hb : base ≤ W.heap.size) => stake_any hh (c ++ r) (by omega) (Nat.le_trans hz.el hn) (Nat.le_trans hz.ql hn) hb)
  have HTR := Lib.hid ht
  have H := Lib.hid h
  have hcs : c.size + r.size ≤ 65535 := by rw [ByteArray.size_append] at hr; exact hr
  clear hw h hs hroom ht
  go_enter Tryz.func30, Tryz.ntmps30
  go_wp2_with fail
  refine (HW.out.call _ (by rfl)).mono ?_
  rintro e w1 ⟨rfl, m, rfl⟩
  clear hE
  have c0 := (H.out.drewN m).st.blk.cell 0
  simp only [List.getElem?_cons_zero] at c0
  go_wp2_with fail
  refine (HA.out _ (H.out.drewN m)).mono ?_
  rintro e w2 (⟨d', rfl, hdid, hok⟩ | ⟨d', rfl, hdid, hbad⟩)
  · have HD := Lib.hid hdid
    have HO := Lib.hid hok
    obtain ⟨L2, ev2, q2, a2, o2, f2⟩ := hdid
    have A2 := Lib.hid a2
    have hb2 : base ≤ w2.heap.size := Nat.le_trans a2.dk.dbase (Nat.le_of_lt a2.dk.blk.lt)
    have HF2 := Lib.hid (And.intro o2 f2)
    clear a2 o2 f2 hok c0
    go_wp2_with fail
    refine (HT.out _ ev2 q2 A2.out.st hb2).mono ?_
    rintro e w3 ⟨ht3, _⟩
    obtain ⟨rfl, tk⟩ := ht3 _ HTR.out
    have TK := Lib.hid tk
    clear tk ht3
    go_wp2
    go_ret
    refine .inl ⟨d', rfl, Did.pre (below_drewN w m) ?_, HO.out⟩
    obtain ⟨L3, ev3, q3, a3, o3, f3⟩ := Did.taken A2.out TK.out
    refine ⟨L3, ev3, q3, a3, HF2.out.1.trans o3 (fun g hg hs => ?_), fun g hg => ?_⟩
    · rcases HF2.out.2 g hs with h | h
      · exact h
      · omega
    · rcases f3 g hg with h | h
      · exact HF2.out.2 g h
      · exact .inr (Nat.le_trans HF2.out.1.size h)
  · have HD := Lib.hid hdid
    have HO := Lib.hid hbad
    clear hdid hbad c0
    go_wp2
    go_ret
    exact .inr ⟨d', rfl, Did.pre (below_drewN w m) HD.out, HO.out⟩
end Go.Proofs.YtffnkomnldgcaaaGreatDoor
