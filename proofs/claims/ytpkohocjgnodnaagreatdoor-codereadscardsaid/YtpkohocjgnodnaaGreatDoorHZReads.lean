/- CodeReads: the walk. -/
import Derived.Test.YtpkohocjgnodnaaGreatDoorHZParse
import Derived.Test.YtpkohocjgnodnaaGreatDoorGBE
import Derived.Test.YtpkohocjgnodnaaGreatDoorHZBookO
import Derived.Test.YtpkohocjgnodnaaGreatDoorGAT
import Derived.Test.YtpkohocjgnodnaaGreatDoorGAR
namespace Go.Proofs.YtpkohocjgnodnaaGreatDoor
open Go.RowKit

/-- What Parse tells of a text: the code, the error, the line. -/
def rdT (s : List UInt8) : Cd × Int × Int :=
  if (parsedV s noCd 1).2 ≠ 0 then (noCd, 81, (parsedV s noCd 1).2)
  else if (chkC (parsedV s noCd 1).1).1 ≠ 0 then (noCd, (chkC (parsedV s noCd 1).1).1, 0) else ((parsedV s noCd 1).1, 0, 0)
/-- Not too much. -/
def Sml (c : Cd) : Prop := c.consts.length ≤ 1000000 ∧ c.globals.length ≤ 1000000 ∧ c.procs.length ≤ 256 ∧ ∀ p ∈ c.procs, p.code.length ≤ 1000000
theorem sml_no : Sml noCd := ⟨Nat.zero_le _, Nat.zero_le _, Nat.zero_le _, fun p hp => (by cases hp)⟩
theorem good_no (L : Nat) : GoodC L noCd := ⟨fun x hx => (by cases hx), fun x hx => (by cases hx), fun x hx => (by cases hx)⟩
theorem sml_ok {c : Cd} (h : (chkC c).1 = 0) : Sml c := by
  obtain ⟨h1, h2⟩ := chkC_ok h
  obtain ⟨a1, a2, a3, _⟩ := listsE_ok h1
  exact ⟨by omega, by omega, a1, fun p hp => by have := (chkP_ok (h2 p hp)).1; omega⟩
/-- .. in memory of its own. -/
def RdR (s : List UInt8) (base : Nat) (e : Ending) (w' : World) : Prop := ∃ r1 n1 d1 r2 n2 d2 r3 n3 d3 vs, e = .returned (.tuple #[C3 r1 n1 d1 r2 n2 d2 r3 n3 d3, .int .i64 (rdT s).2.1, .int .i64 (rdT s).2.2]) ∧ OC w' base (.slice r1 n1 d1) (.slice r2 n2 d2) (.slice r3 n3 d3) vs (rdT s).1 ∧ GoodC s.length (rdT s).1 ∧ Sml (rdT s).1
theorem parseR_rd {s : List UInt8} {base : Nat} {e : Ending} {w' : World} (h : ParseR s base e w') : RdR s base e w' := by
  rcases h with ⟨h1, rfl⟩ | ⟨h1, h2, rfl⟩ | ⟨h1, h2, v1, v2, v3, vs, rfl, ho, hg⟩
  · have e : rdT s = (noCd, 81, (parsedV s noCd 1).2) := by unfold rdT; rw [if_pos h1]
    refine ⟨none, 0, 0, none, 0, 0, none, 0, 0, [], by rw [e]; rfl, ?_, ?_, ?_⟩ <;> rw [e]
    · exact OC.empty _ _
    · exact good_no _
    · exact sml_no
  · have e : rdT s = (noCd, (chkC (parsedV s noCd 1).1).1, 0) := by unfold rdT; rw [if_neg (by simpa using h1), if_pos h2]
    refine ⟨none, 0, 0, none, 0, 0, none, 0, 0, [], by rw [e]; rfl, ?_, ?_, ?_⟩ <;> rw [e]
    · exact OC.empty _ _
    · exact good_no _
    · exact sml_no
  · have e : rdT s = ((parsedV s noCd 1).1, 0, 0) := by unfold rdT; rw [if_neg (by simpa using h1), if_neg (by simpa using h2)]
    obtain ⟨r1, d1, rfl⟩ := own_slice' ho.o1
    obtain ⟨r2, d2, rfl⟩ := own_slice' ho.o2
    obtain ⟨r3, d3, rfl⟩ := own_slice' ho.o3
    exact ⟨r1, _, d1, r2, _, d2, r3, _, d3, vs, by rw [e], by rw [e]; exact ho, by rw [e]; exact hg, by rw [e]; exact sml_ok h2⟩
theorem BC.low {w W : World} {b base lo : Nat} {v1 v2 v3 : Value} {vs : List Value} {cd : Cd} {c : Nat → Value} {N : Nat → Nat} {V : Nat → Nat → Value} {M : Nat} {a1 a2 a3 : Prop} {i : Nat} (h : BC w W b base lo v1 v2 v3 vs cd c N V M a1 a2 a3 i) (hlo : lo ≤ base) (hbw : base ≤ w.heap.size) : ∀ g, BkF b c N V Fo g → lo ≤ g := fun g hg => by
  rcases h.fr g hg with h' | h' | h'
  · exact h'.1
  · obtain ⟨l1, l2, l3, l4⟩ := h.oc.lts
    rcases h' with ⟨_, e⟩ | ⟨_, e⟩ | ⟨_, e⟩ | ⟨j, v, _, hv, e⟩
    · have := (l1 g e).1; omega
    · have := (l2 g e).1; omega
    · have := (l3 g e).1; omega
    · have := (l4 j v hv g e).1; omega
  · omega
theorem OC.mono {w : World} {base base' : Nat} {v1 v2 v3 : Value} {vs : List Value} {c : Cd} (h : OC w base v1 v2 v3 vs c) (hb : base' ≤ base) : OC w base' v1 v2 v3 vs c := by
  have key : ∀ {e s n : Nat} {v : Value} {xs : List Value}, w.ownsRow base e s v n xs → w.ownsRow base' e s v n xs := fun ho => by
    refine ⟨ho.1, ?_⟩
    rcases ho.2 with h' | ⟨g, cap, cur, hv, hg, r⟩
    · exact .inl h'
    · exact .inr ⟨g, cap, cur, hv, by omega, r⟩
  exact ⟨key h.o1, key h.o2, key h.o3, h.hv, fun j p v hp hv => key (h.code j p v hp hv), h.inc⟩
theorem cells_co {W : World} {b : Nat} {v1 v2 v3 : Value} (h : W.heap[b]? = some (CO v1 v2 v3)) : W.cell? ⟨b, 0, none⟩ = some v1 ∧ W.cell? ⟨b, 1, none⟩ = some v2 ∧ W.cell? ⟨b, 2, none⟩ = some v3 ∧ b < W.heap.size := ⟨heap_cell h rfl, heap_cell h rfl, heap_cell h rfl, heap_lt h⟩
/-- How the law's loop stands: what is wanted (its box at bw), and the book at bb. -/
structure RS (w W : World) (bw bb bs M : Nat) (u1 u2 u3 : Value) (us : List Value) (cd : Cd) (c : Nat → Value) (N : Nat → Nat) (V : Nat → Nat → Value) : Prop where
  box : W.heap[bw]? = some (CO u1 u2 u3)
  oc : OC W bs u1 u2 u3 us cd
  bk : Bk W bb c N V Fo
  fr : ∀ g, BkF bb c N V Fo g → w.heap.size ≤ g
  n : ∀ k, N k ≤ M
  b : Below w.heap.size w W
theorem RS.below {w W W' : World} {bw bb bs M : Nat} {u1 u2 u3 : Value} {us : List Value} {cd : Cd} {c : Nat → Value} {N : Nat → Nat} {V : Nat → Nat → Value} (h : RS w W bw bb bs M u1 u2 u3 us cd c N V) (hb : Below W.heap.size W W') : RS w W' bw bb bs M u1 u2 u3 us cd c N V :=
  ⟨(KpB.of hb).code h.box, h.oc.below hb, h.bk.below hb, h.fr, h.n, h.b.trans (hb.mono h.b.size)⟩
theorem RS.next {w W W' : World} {bw bb bs M M' base : Nat} {u1 u2 u3 v1 v2 v3 : Value} {us vs : List Value} {cd cd' : Cd} {c c' : Nat → Value} {N N' : Nat → Nat} {V V' : Nat → Nat → Value} {i : Nat} (h : RS w W bw bb bs M u1 u2 u3 us cd c N V) (hc : BC W W' bb base w.heap.size v1 v2 v3 vs cd' c' N' V' M' True True True i) (hlo : w.heap.size ≤ base) (hbw : base ≤ W.heap.size) {M2 : Nat} (hm : M' ≤ M2) :
    RS w W' bw bb bs M2 u1 u2 u3 us cd c' N' V' :=
  ⟨hc.kp.code h.box, h.oc.kpb hc.kp, hc.bk, hc.low hlo hbw, fun k => Nat.le_trans (hc.n k) hm, h.b.trans hc.lb⟩
abbrev BkO : Obj := .cells #[.slice none 0 0, .slice none 0 0, .slice none 0 0, .slice none 0 0, .slice none 0 0, .slice none 0 0, .slice none 0 0, .slice none 0 0, .slice none 0 0, .slice none 0 0, .slice none 0 0, .slice none 0 0, .slice none 0 0, .slice none 0 0, .slice none 0 0, .slice none 0 0, .slice none 0 0] 59
theorem RS.new {w W : World} {bs : Nat} {u1 u2 u3 : Value} {us : List Value} {cd : Cd} (hb : Below w.heap.size w W) (ho : OC W bs u1 u2 u3 us cd) :
    RS w ((W.alloc (CO u1 u2 u3)).alloc BkO) W.heap.size (W.heap.size + 1) bs 0 u1 u2 u3 us cd (fun _ => .slice none 0 0) (fun _ => 0) (fun _ _ => .slice none 0 0) := by
  have e1 : (W.alloc (CO u1 u2 u3)).heap.size = W.heap.size + 1 := World.size_alloc ..
  have hn := heap_alloc_new (W.alloc (CO u1 u2 u3)) BkO
  rw [e1] at hn
  have hbb : Below W.heap.size W ((W.alloc (CO u1 u2 u3)).alloc BkO) := ((Below.refl _ W).alloc (Nat.le_refl _) _).alloc (by rw [e1]; omega) _
  refine ⟨(Below.heap_alloc _ _ _ (by rw [e1]; omega)).trans (heap_alloc_new W _), ho.below hbb, ⟨hn, fun _ h => h, fun k _ => ⟨fun _ => 0, fun _ => [], sh_nil _ _ _ _ _⟩⟩, fun g hg => ?_, fun _ => Nat.le_refl _, hb.trans (hbb.mono hb.size)⟩
  rcases hg with rfl | ⟨k, _, hg⟩
  · have := hb.size; omega
  · rcases hg with hg | ⟨j, hj, _⟩
    · cases hg
    · exact absurd hj (Nat.not_lt_zero _)
set_option maxRecDepth 100000 in
set_option maxHeartbeats 16000000 in
theorem codeReads_walk (B : ByteArray) (w : World) (hE : Env w) (hsz : B.size ≤ 281474976710656) :
    Calls Tryz.prog 4 #[.string B] w fun e w' => e = .returned (.bool true) ∧ Below w.heap.size w w' := by
  have HE : Hid (Env w) := hE
  have HWk : Hid (Calls Tryz.prog 5 #[] w fun e w' => e = .returned (.bool true) ∧ Below w.heap.size w w') := works_any w hE
  have hmx : B.size ≤ 9223372036854775807 := by omega
  have HL : Hid (B.size = B.data.toList.length) := size_len B
  clear hE
  go_enter Tryz.func4, Tryz.ntmps4
  go_wp2_with fail
  refine Calls.mono HWk.out ?_
  rintro e w1 ⟨rfl, hb1⟩
  have HB1 : Hid (Below w.heap.size w w1) := hb1
  clear hb1 HWk
  by_cases hbig : 8388608 < B.size
  · have i1 : (8388608 : Int) < (B.size : Int) := by omega
    go_wp2
    go_ret
    exact ⟨rfl, HB1.out⟩
  have i1 : ¬ (8388608 : Int) < (B.size : Int) := by omega
  have HD : Hid (Calls Tryz.prog 14 #[.string B] w1 fun e w' => ParseR B.data.toList (w1.heap.size + 3) e w' ∧ Below w1.heap.size w1 w') := dParse_any B w1 (by omega)
  have HPP : Hid (∀ w5 : World, Below w.heap.size w w5 → Calls Tryz.prog 15 #[.string B] w5 fun e w' => ParseR B.data.toList (w5.heap.size + 4) e w' ∧ Below w5.heap.size w5 w') := fun w5 h5 => parse_any B.data.toList w5 (by have := HL.out; omega) (HE.out.below h5)
  go_wp2_with fail
  refine Calls.mono HD.out ?_
  rintro e w2 ⟨hr, hb2⟩
  obtain ⟨r1, n1, d1, r2, n2, d2, r3, n3, d3, us, rfl, ho, hg, hs⟩ := parseR_rd hr
  have HR0 : Hid (RS w ((w2.alloc (CO (.slice r1 n1 d1) (.slice r2 n2 d2) (.slice r3 n3 d3))).alloc BkO) w2.heap.size (w2.heap.size + 1) (w1.heap.size + 3) 0 (.slice r1 n1 d1) (.slice r2 n2 d2) (.slice r3 n3 d3) us (rdT B.data.toList).1 (fun _ => .slice none 0 0) (fun _ => 0) (fun _ _ => .slice none 0 0)) := RS.new (HB1.out.trans (hb2.mono HB1.out.size)) ho
  have HG : Hid (GoodC B.data.toList.length (rdT B.data.toList).1 ∧ Sml (rdT B.data.toList).1) := ⟨hg, hs⟩
  have HRd : Hid (∀ (base : Nat) (e : Ending) (w' : World), ParseR B.data.toList base e w' → ∃ r1 n1 d1 r2 n2 d2 r3 n3 d3 vs, e = .returned (.tuple #[C3 r1 n1 d1 r2 n2 d2 r3 n3 d3, .int .i64 (rdT B.data.toList).2.1, .int .i64 (rdT B.data.toList).2.2]) ∧ OC w' base (.slice r1 n1 d1) (.slice r2 n2 d2) (.slice r3 n3 d3) vs (rdT B.data.toList).1) := fun base e w' h => by
    obtain ⟨a1, m1, e1, a2, m2, e2, a3, m3, e3, vs, h1, h2, _⟩ := parseR_rd h
    exact ⟨a1, m1, e1, a2, m2, e2, a3, m3, e3, vs, h1, h2⟩
  generalize (rdT B.data.toList).1 = cd at *
  generalize (rdT B.data.toList).2.1 = er at *
  generalize (rdT B.data.toList).2.2 = li at *
  clear ho hg hs hr hb2 HD HB1
  generalize w1.heap.size + 3 = bs at *
  obtain ⟨bw, hbw⟩ : ∃ bw, bw = w2.heap.size := ⟨_, rfl⟩
  go_wp2_with fail
  go_loopw [8, 9, 10, 11, 12] (fun i _ _ _ _ wr => ∃ (j : Nat) (c : Nat → Value) (N : Nat → Nat) (V : Nat → Nat → Value), i = .int .i64 j ∧ j ≤ 2 ∧ Hid (RS w wr w2.heap.size (w2.heap.size + 1) bs (259 * j) (.slice r1 n1 d1) (.slice r2 n2 d2) (.slice r3 n3 d3) us cd c N V)) (fun i _ _ _ _ _ => 2 - (intOf i).toNat)
  case atStart => exact ⟨0, _, _, _, rfl, Nat.zero_le _, HR0⟩
  case round =>
    clear HR0
    obtain ⟨j, c, N, V, rfl, hj, HR⟩ := hrel
    have bb := heap_lt HR.out.bk.h
    have lbw := heap_lt HR.out.box
    by_cases hlt : j < 2
    · have i2 : (j : Int) < 2 := by omega
      have HP5 : Hid (Calls Tryz.prog 15 #[.string B] wr fun e w' => ParseR B.data.toList (wr.heap.size + 4) e w' ∧ Below wr.heap.size wr w') := HPP.out wr HR.out.b
      go_wp2_with fail
      refine Calls.mono HP5.out ?_
      rintro e w3 ⟨hr3, hb3⟩
      obtain ⟨a1, m1, e1, a2, m2, e2, a3, m3, e3, vs, rfl, ho3⟩ := HRd.out _ _ _ hr3
      have hal : Below w3.heap.size w3 (w3.alloc (CO (.slice a1 m1 e1) (.slice a2 m2 e2) (.slice a3 m3 e3))) := (Below.refl _ w3).alloc (Nat.le_refl _) _
      have HR4 : Hid (RS w (w3.alloc (CO (.slice a1 m1 e1) (.slice a2 m2 e2) (.slice a3 m3 e3))) w2.heap.size (w2.heap.size + 1) bs (259 * j) (.slice r1 n1 d1) (.slice r2 n2 d2) (.slice r3 n3 d3) us cd c N V) := (HR.out.below hb3).below hal
      have HO4 : Hid (OC (w3.alloc (CO (.slice a1 m1 e1) (.slice a2 m2 e2) (.slice a3 m3 e3))) wr.heap.size (.slice a1 m1 e1) (.slice a2 m2 e2) (.slice a3 m3 e3) vs cd) := (ho3.mono (by omega)).below hal
      have HB4 : Hid ((w3.alloc (CO (.slice a1 m1 e1) (.slice a2 m2 e2) (.slice a3 m3 e3))).heap[w3.heap.size]? = some (CO (.slice a1 m1 e1) (.slice a2 m2 e2) (.slice a3 m3 e3))) := heap_alloc_new _ _
      have HZ4 : Hid (wr.heap.size ≤ (w3.alloc (CO (.slice a1 m1 e1) (.slice a2 m2 e2) (.slice a3 m3 e3))).heap.size) := Nat.le_trans hb3.size hal.size
      have HFr : Hid (∀ g, BkF (w2.heap.size + 1) c N V Fo g → w.heap.size ≤ g ∧ g < wr.heap.size) := fun g hg => ⟨HR.out.fr g hg, HR.out.bk.lt g hg⟩
      have HWr : Hid (w.heap.size ≤ wr.heap.size) := HR.out.b.size
      clear hal ho3 hr3 hb3 HP5 bb lbw HR
      go_upto_region 10 with fail
      generalize w3.alloc (CO (.slice a1 m1 e1) (.slice a2 m2 e2) (.slice a3 m3 e3)) = w4 at *
      obtain ⟨t0, t1, t2, lt4⟩ := cells_co HB4.out
      obtain ⟨u0, u1, u2, lu4⟩ := cells_co HR4.out.box
      have HSm : Hid (Calls Tryz.prog 16 #[C3 a1 m1 e1 a2 m2 e2 a3 m3 e3, C3 r1 n1 d1 r2 n2 d2 r3 n3 d3] w4 fun e w' => e = .returned (.bool true) ∧ Below w4.heap.size w4 w') := by
        have := sameCode_any cd cd _ _ w4 (HO4.out.cv HG.out.1 (by have := HL.out; unfold maxLen; omega)) (HR4.out.oc.cv HG.out.1 (by have := HL.out; unfold maxLen; omega))
        rwa [(sameC_iff cd cd).2 rfl] at this
      go_wp2_with fail
      refine Calls.mono HSm.out ?_
      rintro e w5 ⟨rfl, hb5⟩
      have HR5 : Hid (RS w w5 w2.heap.size (w2.heap.size + 1) bs (259 * j) (.slice r1 n1 d1) (.slice r2 n2 d2) (.slice r3 n3 d3) us cd c N V) := HR4.out.below hb5
      have HO5 : Hid (OC w5 wr.heap.size (.slice a1 m1 e1) (.slice a2 m2 e2) (.slice a3 m3 e3) vs cd) := HO4.out.below hb5
      have HB5 : Hid (w5.heap[w3.heap.size]? = some (CO (.slice a1 m1 e1) (.slice a2 m2 e2) (.slice a3 m3 e3))) := (KpB.of hb5).code HB4.out
      have HZ5 : Hid (wr.heap.size ≤ w5.heap.size) := Nat.le_trans HZ4.out hb5.size
      clear hb5 HR4 HO4 HB4 HZ4 HSm t0 t1 t2 lt4 u0 u1 u2 lu4
      obtain ⟨t0, t1, t2, lt5⟩ := cells_co HB5.out
      have HSl := HG.out.2
      have HC : Hid (Calls Tryz.prog 17 #[.pointer (some ⟨w2.heap.size + 1, 0, none⟩), C3 a1 m1 e1 a2 m2 e2 a3 m3 e3] w5 fun e w' => (∃ r, e = .returned r) ∧ ∃ c' N' V', BC w5 w' (w2.heap.size + 1) wr.heap.size w.heap.size (.slice a1 m1 e1) (.slice a2 m2 e2) (.slice a3 m3 e3) vs cd c' N' V' (259 * j + 3 + cd.procs.length) True True True cd.procs.length) :=
        bookCode_any (w2.heap.size + 1) wr.heap.size w.heap.size (259 * j) c N V _ _ _ vs cd w5 HR5.out.bk HFr.out HWr.out HZ5.out HO5.out HR5.out.n (by omega) ⟨HSl.1, HSl.2.1, by have := HSl.2.2.1; omega, HSl.2.2.2⟩
      have HPl : Hid (cd.procs.length ≤ 256) := HSl.2.2.1
      have z1 : (er == er) = true := by simp
      have z2 : (li == li) = true := by simp
      have z3 : (er != er) = false := by simp
      have z4 : (li != li) = false := by simp
      clear HSl
      go_wp2_with fail
      refine Calls.mono HC.out ?_
      rintro e w6 ⟨⟨rr, rfl⟩, c', N', V', hbc⟩
      have HR6 : Hid (RS w w6 w2.heap.size (w2.heap.size + 1) bs (259 * (j + 1)) (.slice r1 n1 d1) (.slice r2 n2 d2) (.slice r3 n3 d3) us cd c' N' V') := HR5.out.next hbc HWr.out HZ5.out (by have := HPl.out; omega)
      clear hbc HC HR5 HO5 HB5 HZ5 t0 t1 t2 lt5 z1 z2 z3 z4
      go_wp2
      go_roundw
      case rel => exact ⟨j + 1, c', N', V', by go_num, by omega, HR6⟩
      case measure => simp [intOf]; omega
    · have i2 : ¬ (j : Int) < 2 := by omega
      have HOw : Hid (Calls Tryz.prog 18 #[.pointer (some ⟨w2.heap.size + 1, 0, none⟩)] wr fun e w' => e = .returned (.bool true) ∧ FrQ (fun k => k < w.heap.size) wr w') := bookOwn_any (fun k => k < w.heap.size) (w2.heap.size + 1) c N V wr (fun k => by have := HR.out.n k; omega) (fun k hk => Nat.lt_of_lt_of_le hk HR.out.b.size) HR.out.bk (fun k hk j hj q hq hlt => by have := HR.out.fr q (.inr ⟨k, hk, .inr ⟨j, hj, hq⟩⟩); omega)
      go_wp2_with fail
      refine Calls.mono HOw.out ?_
      rintro e w9 ⟨rfl, hf9⟩
      have HF : Hid (Below w.heap.size w w9) := HR.out.b.trans ⟨hf9.1.os, hf9.1.tape, hf9.1.output, hf9.1.size, fun g hg => hf9.2 g hg (Nat.lt_of_lt_of_le hg HR.out.b.size)⟩
      clear hf9 HOw HR
      go_wp2
      go_ret
      exact ⟨rfl, HF.out⟩
end Go.Proofs.YtpkohocjgnodnaaGreatDoor
