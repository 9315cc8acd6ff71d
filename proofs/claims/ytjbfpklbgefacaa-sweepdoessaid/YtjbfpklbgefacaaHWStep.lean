/- Step. -/
import Derived.Test.YtjbfpklbgefacaaHWSmall
namespace Go.Proofs.Ytjbfpklbgefacaa
open Go.RowKit

/-- What a step answers: the error, whether it frees, the heap behind it. -/
def swE (h : List Cl) (a : Nat) : Int := match h[a]? with
  | none => 160
  | some x => if x.k = 0 then 0 else if x.c = 1 then 160 else 0
def swB (h : List Cl) (a : Nat) : Bool := match h[a]? with
  | none => false
  | some x => !decide (x.k = 0) && decide (x.c = 0)
def swH (h : List Cl) (a : Nat) : List Cl := match h[a]? with
  | none => h
  | some x => if x.k = 0 then h else if x.c = 0 then h.set a c0 else if x.c = 2 then h.set a ⟨x.k, 0, x.a, x.b⟩ else h
def swN (h : List Cl) (a : Nat) : Nat := if swE h a = 0 then a else 0
def swA (h : List Cl) (a : Nat) : Nat := if swE h a = 0 then a + 1 else a
/-- A sweeper and its heap. -/
structure SS (w : World) (sb hb ab : Nat) (h : List Cl) (a f : Nat) : Prop where
  c : CH w hb ab h
  s : SW w sb hb a f
theorem SS.ne {w : World} {sb hb ab : Nat} {h : List Cl} {a f : Nat} (H : SS w sb hb ab h a f) : sb ≠ hb ∧ sb ≠ ab := by
  obtain ⟨cs, r1, _⟩ := H.c.r
  exact ⟨ty_ne H.s H.c.v (by decide), ty_ne H.s r1 (by decide)⟩
theorem SS.below {w w' : World} {sb hb ab : Nat} {h : List Cl} {a f : Nat} (H : SS w sb hb ab h a f) (hB : Below w.heap.size w w') : SS w' sb hb ab h a f := ⟨H.c.below hB, H.s.kept (hB.block _ H.s.lt)⟩
/-- A sweeper stays where the heap is exchanged. -/
theorem SW.ex {w w' : World} {sb hb hb' ab : Nat} {h h' : List Cl} {a f : Int} (S : SW w sb hb' a f) (C : CH w hb ab h) (hE : ExR hb ab h' w w') : SW w' sb hb' a f := by
  obtain ⟨cs, r1, _⟩ := C.r
  exact S.kept (hE.2.1.2 _ (ty_ne S r1 (by decide)) S.lt)
/-- A heap stays where a sweeper's block turns. -/
theorem CH.sw {w w' : World} {sb hb hb' ab : Nat} {h : List Cl} {a f : Int} (C : CH w hb ab h) (S : SW w sb hb' a f) (hF : Fr (fun g => g ≠ sb) w w') : CH w' hb ab h := by
  obtain ⟨cs, r1, _⟩ := C.r
  exact C.kept (hF.2 _ (ty_ne C.v S (by decide)) C.lt.1) (hF.2 _ (ty_ne r1 S (by decide)) C.lt.2) (fun q cs hq => hF.2 q (ty_ne hq S (by decide)) (heap_lt hq))
/-- What a step leaves. -/
def StR (sb hb ab : Nat) (h : List Cl) (a f : Nat) (w : World) (e : Ending) (w' : World) : Prop :=
  e = .returned (.tuple #[.int .i64 (swN h a), .bool (swB h a), .int .i64 (swE h a)]) ∧ SS w' sb hb ab (swH h a) (swA h a) (f + (swB h a).toNat) ∧ Fr (fun g => g ≠ sb ∧ g ≠ ab) w w'
theorem fr_of_below {A : Nat → Prop} {w w' : World} (h : Below w.heap.size w w') : Fr A w w' := Fr.of h (fun _ _ hl => hl)
theorem Fr.sub {A B : Nat → Prop} {w w' : World} (h : Fr A w w') (hs : ∀ g, B g → A g) : Fr B w w' := ⟨h.1, fun g hg hl => h.2 g (hs g hg) hl⟩
set_option maxRecDepth 100000 in
set_option maxHeartbeats 16000000 in
theorem step_any {sb hb ab a f : Nat} {h : List Cl} (w : World) (H : SS w sb hb ab h a f) (ha : a ≤ h.length) (hf : f ≤ 100000) : Calls Try.prog 15 #[.pointer (some ⟨sb, 0, none⟩)] w fun e w' => StR sb hb ab h a f w e w' := by
  have hl := H.c.len
  have HD : Hid (Calls Try.prog 20 #[.pointer (some ⟨sb, 0, none⟩)] w fun e w' => e = .returned (.bool ((a : Int) == (h.length : Int))) ∧ Below w.heap.size w w') := done_any w H.s H.c
  have HH : Hid (SS w sb hb ab h a f) := H
  clear H
  by_cases e0 : a = h.length
  · have hx : h[a]? = none := List.getElem?_eq_none (by omega)
    have E : Hid (swN h a = 0 ∧ swB h a = false ∧ swE h a = 160 ∧ swH h a = h ∧ swA h a = a) := by
      have e1 : swE h a = 160 := by unfold swE; rw [hx]
      exact ⟨by unfold swN; rw [e1]; rfl, by unfold swB; rw [hx], e1, by unfold swH; rw [hx], by unfold swA; rw [e1]; rfl⟩
    have z : ((a : Int) == (h.length : Int)) = true := by rw [e0]; simp
    rw [z] at HD
    unfold StR
    rw [E.out.1, E.out.2.1, E.out.2.2.1, E.out.2.2.2.1, E.out.2.2.2.2]
    clear z hx E e0
    go_enter Try.func15, Try.ntmps15
    go_wp2_with fail
    refine Calls.mono HD.out ?_
    rintro e w1 ⟨rfl, hb1⟩
    have HB1 : Hid (Below w.heap.size w w1) := hb1
    clear hb1
    go_wp2_with fail
    exact bodyPost_ret (results_tmp3 rfl _ _ _) rfl ⟨rfl, HH.out.below HB1.out, fr_of_below HB1.out⟩
  · obtain ⟨x, hx⟩ : ∃ x, h[a]? = some x := ⟨_, List.getElem?_eq_getElem (by omega)⟩
    have hg : getC h (a : Int) = some x := by unfold getC; rw [if_pos (by omega)]; simpa using hx
    have z : ((a : Int) == (h.length : Int)) = false := by simp; omega
    rw [z] at HD
    have K : Hid (hdK h a = x.k ∧ hdC h a = x.c) := ⟨by unfold hdK; rw [hg], by unfold hdC; rw [hg]⟩
    have hok : OkK x := HH.out.c.ok x (List.mem_of_getElem? hx)
    by_cases hk : x.k = 0
    · have E : Hid (swN h a = a ∧ swB h a = false ∧ swE h a = 0 ∧ swH h a = h ∧ swA h a = a + 1) := by
        have e1 : swE h a = 0 := by unfold swE; rw [hx]; dsimp only; rw [if_pos hk]
        exact ⟨by unfold swN; rw [e1]; rfl, by unfold swB; rw [hx]; simp [hk], e1, by unfold swH; rw [hx]; dsimp only; rw [if_pos hk], by unfold swA; rw [e1]; rfl⟩
      unfold StR
      rw [E.out.1, E.out.2.1, E.out.2.2.1, E.out.2.2.2.1, E.out.2.2.2.2]
      have z1 : (x.k == 0) = true := by simpa using hk
      clear z hx hg E e0 hk hok
      go_enter Try.func15, Try.ntmps15
      go_wp2_with fail
      refine Calls.mono HD.out ?_
      rintro e w1 ⟨rfl, hb1⟩
      have HB1 : Hid (Below w.heap.size w w1) := hb1
      have HH1 : Hid (SS w1 sb hb ab h a f) := HH.out.below hb1
      obtain ⟨q0, q1, q2, _⟩ := HH1.out.s.cell
      clear hb1
      go_wp2_with fail
      refine Calls.mono (at_any w1 HH1.out.s) ?_
      rintro e w' ⟨rfl, hw'⟩
      rw [hw']
      clear hw'
      go_wp2_with fail
      refine Calls.mono (head_any (a : Int) HH1.out.c) ?_
      rintro e w2 ⟨rfl, hb2⟩
      rw [K.out.1, K.out.2]
      have HB2 : Hid (Below w.heap.size w w2) := HB1.out.trans (hb2.mono HB1.out.size)
      have HH2 : Hid (SS w2 sb hb ab h a f) := HH1.out.below hb2
      clear hb2 HH1 q0 q1 q2
      go_wp2_with fail
      refine Calls.mono (note_any false w2 HH2.out.s (by omega) hf) ?_
      rintro e w3 ⟨rfl, s3, f3⟩
      have HH3 : Hid (SS w3 sb hb ab h (a + 1) (f + (false).toNat)) := ⟨HH2.out.c.sw HH2.out.s f3, s3⟩
      have HF3 : Hid (Fr (fun g => g ≠ sb ∧ g ≠ ab) w w3) := (fr_of_below HB2.out).trans (f3.sub (fun _ h => h.1))
      clear s3 f3
      go_wp2_with fail
      exact bodyPost_ret (results_tmp3 rfl _ _ _) rfl ⟨rfl, HH3.out, HF3.out⟩
    · have z1 : (x.k == 0) = false := by simpa using hk
      by_cases c1 : x.c = 1
      · have E : Hid (swN h a = 0 ∧ swB h a = false ∧ swE h a = 160 ∧ swH h a = h ∧ swA h a = a) := by
          have e1 : swE h a = 160 := by unfold swE; rw [hx]; dsimp only; rw [if_neg hk, if_pos c1]
          exact ⟨by unfold swN; rw [e1]; rfl, by unfold swB; rw [hx]; simp [c1], e1, by unfold swH; rw [hx]; dsimp only; rw [if_neg hk, if_neg (by omega), if_neg (by omega)], by unfold swA; rw [e1]; rfl⟩
        unfold StR
        rw [E.out.1, E.out.2.1, E.out.2.2.1, E.out.2.2.2.1, E.out.2.2.2.2]
        have z2 : (x.c == 1) = true := by simpa using c1
        clear z hx hg E e0 hk hok c1
        go_enter Try.func15, Try.ntmps15
        go_wp2_with fail
        refine Calls.mono HD.out ?_
        rintro e w1 ⟨rfl, hb1⟩
        have HB1 : Hid (Below w.heap.size w w1) := hb1
        have HH1 : Hid (SS w1 sb hb ab h a f) := HH.out.below hb1
        obtain ⟨q0, q1, q2, _⟩ := HH1.out.s.cell
        clear hb1
        go_wp2_with fail
        refine Calls.mono (at_any w1 HH1.out.s) ?_
        rintro e w' ⟨rfl, hw'⟩
        rw [hw']
        clear hw'
        go_wp2_with fail
        refine Calls.mono (head_any (a : Int) HH1.out.c) ?_
        rintro e w2 ⟨rfl, hb2⟩
        rw [K.out.1, K.out.2]
        have HB2 : Hid (Below w.heap.size w w2) := HB1.out.trans (hb2.mono HB1.out.size)
        clear hb2 HH1 q0 q1 q2
        go_wp2_with fail
        exact bodyPost_ret (results_tmp3 rfl _ _ _) rfl ⟨rfl, HH.out.below HB2.out, fr_of_below HB2.out⟩
      · have z2 : (x.c == 1) = false := by simpa using c1
        by_cases c0' : x.c = 0
        · have hdE : dropE h a = 0 ∧ dropH h a = h.set a c0 := by
            have : dropE h a = 0 := by unfold dropE; rw [hg]; dsimp only; unfold chE; rw [if_neg hk]
            exact ⟨this, by unfold dropH; rw [this]; simp⟩
          have E : Hid (swN h a = a ∧ swB h a = true ∧ swE h a = 0 ∧ swH h a = h.set a c0 ∧ swA h a = a + 1) := by
            have e1 : swE h a = 0 := by unfold swE; rw [hx]; dsimp only; rw [if_neg hk, if_neg c1]
            exact ⟨by unfold swN; rw [e1]; rfl, by unfold swB; rw [hx]; simp [c0', hk], e1, by unfold swH; rw [hx]; dsimp only; rw [if_neg hk, if_pos c0'], by unfold swA; rw [e1]; rfl⟩
          unfold StR
          rw [E.out.1, E.out.2.1, E.out.2.2.1, E.out.2.2.2.1, E.out.2.2.2.2]
          have z3 : (x.c == 0) = true := by simpa using c0'
          have HE : Hid (dropE h a = 0 ∧ dropH h a = h.set a c0) := hdE
          clear z hx hg E e0 hk hok c1 c0' hdE
          go_enter Try.func15, Try.ntmps15
          go_wp2_with fail
          refine Calls.mono HD.out ?_
          rintro e w1 ⟨rfl, hb1⟩
          have HB1 : Hid (Below w.heap.size w w1) := hb1
          have HH1 : Hid (SS w1 sb hb ab h a f) := HH.out.below hb1
          obtain ⟨q0, q1, q2, _⟩ := HH1.out.s.cell
          clear hb1
          go_wp2_with fail
          refine Calls.mono (at_any w1 HH1.out.s) ?_
          rintro e w' ⟨rfl, hw'⟩
          rw [hw']
          clear hw'
          go_wp2_with fail
          refine Calls.mono (head_any (a : Int) HH1.out.c) ?_
          rintro e w2 ⟨rfl, hb2⟩
          rw [K.out.1, K.out.2]
          have HB2 : Hid (Below w.heap.size w w2) := HB1.out.trans (hb2.mono HB1.out.size)
          have HH2 : Hid (SS w2 sb hb ab h a f) := HH1.out.below hb2
          clear hb2 HH1 q0 q1 q2
          obtain ⟨q0, q1, q2, _⟩ := HH2.out.s.cell
          go_wp2_with fail
          refine Calls.mono (drop_any (a : Int) HH2.out.c) ?_
          rintro e w3 ⟨rfl, hx3⟩
          rw [HE.out.2] at hx3
          rw [HE.out.1]
          have HC3 : Hid (CH w3 hb ab (h.set a c0)) := hx3.1
          have HS3 : Hid (SW w3 sb hb a f) := HH2.out.s.ex HH2.out.c hx3
          have HF3 : Hid (Fr (fun g => g ≠ sb ∧ g ≠ ab) w w3) := (fr_of_below HB2.out).trans (hx3.2.1.sub (fun _ h => h.2))
          clear hx3 HH2 q0 q1 q2
          go_wp2_with fail
          refine Calls.mono (note_any true w3 HS3.out (by omega) hf) ?_
          rintro e w4 ⟨rfl, s4, f4⟩
          have HH4 : Hid (SS w4 sb hb ab (h.set a c0) (a + 1) (f + (true).toNat)) := ⟨HC3.out.sw HS3.out f4, s4⟩
          have HF4 : Hid (Fr (fun g => g ≠ sb ∧ g ≠ ab) w w4) := HF3.out.trans (f4.sub (fun _ h => h.1))
          clear s4 f4
          go_wp2_with fail
          exact bodyPost_ret (results_tmp3 rfl _ _ _) rfl ⟨rfl, HH4.out, HF4.out⟩
        · have z3 : (x.c == 0) = false := by simpa using c0'
          by_cases c2 : x.c = 2
          · have hdE : turnB h a 2 0 = true ∧ turnH h a 2 0 = h.set a ⟨x.k, 0, x.a, x.b⟩ := by
              have : turnB h a 2 0 = true := by unfold turnB; rw [hg]; simp [hk, c2]
              exact ⟨this, by unfold turnH; rw [hg]; dsimp only; rw [this]; simp⟩
            have E : Hid (swN h a = a ∧ swB h a = false ∧ swE h a = 0 ∧ swH h a = h.set a ⟨x.k, 0, x.a, x.b⟩ ∧ swA h a = a + 1) := by
              have e1 : swE h a = 0 := by unfold swE; rw [hx]; dsimp only; rw [if_neg hk, if_neg c1]
              exact ⟨by unfold swN; rw [e1]; rfl, by unfold swB; rw [hx]; simp [c0'], e1, by unfold swH; rw [hx]; dsimp only; rw [if_neg hk, if_neg c0', if_pos c2], by unfold swA; rw [e1]; rfl⟩
            unfold StR
            rw [E.out.1, E.out.2.1, E.out.2.2.1, E.out.2.2.2.1, E.out.2.2.2.2]
            have z4 : (x.c == 2) = true := by simpa using c2
            have HE : Hid (turnB h a 2 0 = true ∧ turnH h a 2 0 = h.set a ⟨x.k, 0, x.a, x.b⟩) := hdE
            clear z hx hg E e0 hk hok c1 c0' c2 hdE
            go_enter Try.func15, Try.ntmps15
            go_wp2_with fail
            refine Calls.mono HD.out ?_
            rintro e w1 ⟨rfl, hb1⟩
            have HB1 : Hid (Below w.heap.size w w1) := hb1
            have HH1 : Hid (SS w1 sb hb ab h a f) := HH.out.below hb1
            obtain ⟨q0, q1, q2, _⟩ := HH1.out.s.cell
            clear hb1
            go_wp2_with fail
            refine Calls.mono (at_any w1 HH1.out.s) ?_
            rintro e w' ⟨rfl, hw'⟩
            rw [hw']
            clear hw'
            go_wp2_with fail
            refine Calls.mono (head_any (a : Int) HH1.out.c) ?_
            rintro e w2 ⟨rfl, hb2⟩
            rw [K.out.1, K.out.2]
            have HB2 : Hid (Below w.heap.size w w2) := HB1.out.trans (hb2.mono HB1.out.size)
            have HH2 : Hid (SS w2 sb hb ab h a f) := HH1.out.below hb2
            clear hb2 HH1 q0 q1 q2
            obtain ⟨q0, q1, q2, _⟩ := HH2.out.s.cell
            go_wp2_with fail
            refine Calls.mono (turn_any (a : Int) 2 0 HH2.out.c (by decide)) ?_
            rintro e w3 ⟨rfl, hx3⟩
            rw [HE.out.2] at hx3
            have HC3 : Hid (CH w3 hb ab (h.set a ⟨x.k, 0, x.a, x.b⟩)) := hx3.1
            have HS3 : Hid (SW w3 sb hb a f) := HH2.out.s.ex HH2.out.c hx3
            have HF3 : Hid (Fr (fun g => g ≠ sb ∧ g ≠ ab) w w3) := (fr_of_below HB2.out).trans (hx3.2.1.sub (fun _ h => h.2))
            clear hx3 HH2 q0 q1 q2
            go_wp2_with fail
            refine Calls.mono (note_any false w3 HS3.out (by omega) hf) ?_
            rintro e w4 ⟨rfl, s4, f4⟩
            have HH4 : Hid (SS w4 sb hb ab (h.set a ⟨x.k, 0, x.a, x.b⟩) (a + 1) (f + (false).toNat)) := ⟨HC3.out.sw HS3.out f4, s4⟩
            have HF4 : Hid (Fr (fun g => g ≠ sb ∧ g ≠ ab) w w4) := HF3.out.trans (f4.sub (fun _ h => h.1))
            clear s4 f4
            go_wp2_with fail
            exact bodyPost_ret (results_tmp3 rfl _ _ _) rfl ⟨rfl, HH4.out, HF4.out⟩
          · have E : Hid (swN h a = a ∧ swB h a = false ∧ swE h a = 0 ∧ swH h a = h ∧ swA h a = a + 1) := by
              have e1 : swE h a = 0 := by unfold swE; rw [hx]; dsimp only; rw [if_neg hk, if_neg c1]
              exact ⟨by unfold swN; rw [e1]; rfl, by unfold swB; rw [hx]; simp [c0'], e1, by unfold swH; rw [hx]; dsimp only; rw [if_neg hk, if_neg c0', if_neg c2], by unfold swA; rw [e1]; rfl⟩
            unfold StR
            rw [E.out.1, E.out.2.1, E.out.2.2.1, E.out.2.2.2.1, E.out.2.2.2.2]
            have z4 : (x.c == 2) = false := by simpa using c2
            clear z hx hg E e0 hk hok c1 c0' c2
            go_enter Try.func15, Try.ntmps15
            go_wp2_with fail
            refine Calls.mono HD.out ?_
            rintro e w1 ⟨rfl, hb1⟩
            have HB1 : Hid (Below w.heap.size w w1) := hb1
            have HH1 : Hid (SS w1 sb hb ab h a f) := HH.out.below hb1
            obtain ⟨q0, q1, q2, _⟩ := HH1.out.s.cell
            clear hb1
            go_wp2_with fail
            refine Calls.mono (at_any w1 HH1.out.s) ?_
            rintro e w' ⟨rfl, hw'⟩
            rw [hw']
            clear hw'
            go_wp2_with fail
            refine Calls.mono (head_any (a : Int) HH1.out.c) ?_
            rintro e w2 ⟨rfl, hb2⟩
            rw [K.out.1, K.out.2]
            have HB2 : Hid (Below w.heap.size w w2) := HB1.out.trans (hb2.mono HB1.out.size)
            have HH2 : Hid (SS w2 sb hb ab h a f) := HH1.out.below hb2
            clear hb2 HH1 q0 q1 q2
            go_wp2_with fail
            refine Calls.mono (note_any false w2 HH2.out.s (by omega) hf) ?_
            rintro e w3 ⟨rfl, s3, f3⟩
            have HH3 : Hid (SS w3 sb hb ab h (a + 1) (f + (false).toNat)) := ⟨HH2.out.c.sw HH2.out.s f3, s3⟩
            have HF3 : Hid (Fr (fun g => g ≠ sb ∧ g ≠ ab) w w3) := (fr_of_below HB2.out).trans (f3.sub (fun _ h => h.1))
            clear s3 f3
            go_wp2_with fail
            exact bodyPost_ret (results_tmp3 rfl _ _ _) rfl ⟨rfl, HH3.out, HF3.out⟩
/-- A heap all whose blocks are new. -/
structure CN (w0 w : World) (hb ab : Nat) (h : List Cl) : Prop where
  c : CH w hb ab h
  b : Below w0.heap.size w0 w
  hb : w0.heap.size ≤ hb
  ab : w0.heap.size ≤ ab
theorem below_out {w0 w w' : World} (h : Below w0.heap.size w0 w) (hb : Below 0 w w') (hk : ∀ g, g < w0.heap.size → w'.heap[g]? = w.heap[g]?) : Below w0.heap.size w0 w' :=
  ⟨(h.mono (Nat.zero_le _)).trans hb |>.os, (h.mono (Nat.zero_le _)).trans hb |>.tape, (h.mono (Nat.zero_le _)).trans hb |>.output, (h.mono (Nat.zero_le _)).trans hb |>.size, fun g hg => (hk g hg).trans (h.block g hg)⟩
theorem CN.ex {w0 w w' : World} {hb ab : Nat} {h h' : List Cl} (H : CN w0 w hb ab h) (hE : ExR hb ab h' w w') : CN w0 w' hb ab h' :=
  ⟨hE.1, below_out H.b hE.2.1.1 (fun g hg => hE.2.1.2 g (by have := H.ab; omega) (Nat.lt_of_lt_of_le hg H.b.size)), H.hb, H.ab⟩
end Go.Proofs.Ytjbfpklbgefacaa
