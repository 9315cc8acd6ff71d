/- The walk of ReadDoes. -/
import Derived.Test.YtlpdfifjdlfpdaaGreatDoorHDoesHeld
import Derived.Test.YtlpdfifjdlfpdaaGreatDoorHDocRead
import Derived.Test.YtlpdfifjdlfpdaaGreatDoorGH
import Derived.Test.YtlpdfifjdlfpdaaGreatDoorHReadings
import Derived.Test.YtlpdfifjdlfpdaaGreatDoorHSameD
import Derived.Test.YtlpdfifjdlfpdaaGreatDoorGN
namespace Go.Proofs.YtlpdfifjdlfpdaaGreatDoor
open Go.RowKit

theorem readOf_size (l : List UInt8) : (readOf l).1.size ≤ 10000 := by
  by_cases h : (readOf l).2.1 = 0
  · exact (chk_zero.1 (read_chk h)).2.2
  · rw [readOf_err h]; exact Nat.zero_le _
/-- The rows of the book, with those of one more list of data. -/
theorem rows_more {w3 w5 : World} {base0 base1 : Nat} {rows : List Value} {u : Value} {f : Fo} {cs vs : List Value} {bs : List Nat} (ho : Owns w3 base0 rows) (hn : (rows.flatMap own1).Nodup) (hb : base0 ≤ base1) (hold : ∀ g ∈ rows.flatMap own1, g < base1)
    (hu : w3.ownsRow base1 58 5 u f.len cs) (hl : LV w3 base1 f cs vs) (he : vs.flatMap own1 = bs) (hr : Row w3 base1 f cs bs) (hnd : (own1 u ++ bs).Nodup) (hsz : f.size ≤ 1000000) (hk : DK w3 w5) :
    Owns w5 base0 (rows ++ u :: vs) ∧ ((rows ++ u :: vs).flatMap own1).Nodup := by
  have hlen : f.len ≤ 1000000 := by
    have : ∀ g : Fo, g.len ≤ g.size := fun g => by induction g with | nil => exact Nat.le_refl _ | cons _ _ _ _ _ r _ ih => simp only [Fo.len, Fo.size]; omega
    exact Nat.le_trans (this f) hsz
  constructor
  · intro x hx
    rcases List.mem_append.1 hx with hx | hx
    · exact (ho.dk hk) x hx
    · rcases List.mem_cons.1 hx with rfl | hx
      · exact ⟨_, _, own_dk (own_mono hu hb) hk, hlen⟩
      · obtain ⟨n, X, h1, h2⟩ := hl.owns hsz x hx
        exact ⟨n, X, own_dk (own_mono h1 hb) hk, h2⟩
  · rw [List.flatMap_append, List.flatMap_cons, he, List.nodup_append]
    refine ⟨hn, hnd, fun x hx y hy e => ?_⟩
    subst e
    have h1 := hold x hx
    rcases List.mem_append.1 hy with h | h
    · have := (hu.lt x (mem_own1.1 h)).1; omega
    · have := (hr.lt x h).1; omega

set_option maxRecDepth 100000 in
set_option maxHeartbeats 8000000 in
theorem readDoes_walk (s : ByteArray) (w : World) (hs : s.size ≤ 9223372036854775807) (hE : EV w) (hT : TB w) :
    Calls Tryz.prog 3 #[.string s] w fun e w' => e = .returned (.bool true) ∧ Below w.heap.size w w' := by
  have HE : Hid (EV w) := hE
  have HT : Hid (TB w) := hT
  clear hE hT
  go_enter Tryz.func3, Tryz.ntmps3
  go_wp2_with fail
  refine (works_any w HE.out HT.out).mono ?_
  rintro e w1 ⟨rfl, hb1⟩
  have H1 : Hid (Below w.heap.size w w1) := hb1
  clear hb1
  by_cases hlong : 200000 < s.size
  · have hlong' : (200000 : Int) < (s.size : Int) := by omega
    go_wp2
    go_ret
    exact ⟨rfl, H1.out⟩
  have hlong' : ¬ (200000 : Int) < (s.size : Int) := by omega
  go_wp2_with fail
  refine (docRead_any s w1 (by omega)).mono ?_
  rintro e w2 ⟨hb2, v0, rfl, hT0⟩
  have hfs := readOf_size s.data.toList
  obtain ⟨F, hF⟩ : ∃ F, (readOf s.data.toList).1 = F := ⟨_, rfl⟩
  obtain ⟨e0, he0⟩ : ∃ e0, (readOf s.data.toList).2.1 = e0 := ⟨_, rfl⟩
  obtain ⟨p0, hp0⟩ : ∃ p0, (readOf s.data.toList).2.2 = p0 := ⟨_, rfl⟩
  rw [hF] at hT0 hfs
  rw [he0, hp0]
  have HF : Hid ((readOf s.data.toList).1 = F) := hF
  have He0 : Hid ((readOf s.data.toList).2.1 = e0) := he0
  have Hp0 : Hid ((readOf s.data.toList).2.2 = p0) := hp0
  obtain ⟨rw0, cw0, rfl⟩ := hT0.slice
  have H2 : Hid (Below w.heap.size w w2) := H1.out.trans (hb2.mono H1.out.size)
  have HT0 : Hid (Tree w2 w1.heap.size (.slice rw0 F.len cw0) F) := hT0
  have s2 := H2.out.size
  clear hb2 hT0 hF he0 hp0 H1
  go_wp2
  go_loopw [8, 9, 10, 11, 12] (fun i _ _ _ _ wr => ∃ (j : Nat) (v : Value) (rows : List Value), i = .int .i64 j ∧ j ≤ 2 ∧ Hid (Bd wr w2.heap.size v) ∧ Hid (wr.ownsRow (w2.heap.size + 1) 23 1 v (j * (F.size + 1)) rows) ∧ Hid (Owns wr (w2.heap.size + 1) rows) ∧ Hid ((rows.flatMap own1).Nodup) ∧ Hid (Tree wr w1.heap.size (.slice rw0 F.len cw0) F) ∧ Hid (Below w.heap.size w wr)) (fun i _ _ _ _ _ => 2 - (intOf i).toNat)
  case atStart =>
    refine ⟨0, .slice none 0 0, [], rfl, Nat.zero_le _, ⟨World.alloc_heap_new _ _⟩, by rw [Nat.zero_mul]; exact World.ownsRow_nil _ _ _ _, (show Owns _ _ [] from fun u hu => by cases hu), (show ([].flatMap own1).Nodup from List.nodup_nil), HT0.out.kept (fun g _ hg => Below.heap_alloc _ _ _ hg), H2.out.trans ((Below.refl _ w2).alloc s2 _)⟩
  case round =>
    obtain ⟨j, v, rows, rfl, hj, HBd, HRw, HOw, HNd, HTw, HB⟩ := hrel
    have hbl := HBd.out.lt
    by_cases hlt : j < 2
    · have i1 : (j : Int) < 2 := by omega
      go_wp2_with fail
      refine (read_any s (by omega) wr (HE.out.below HB.out HE.out.lt)).mono ?_
      rw [HF.out, He0.out, Hp0.out]
      rintro e w3 ⟨hb3, v3, rfl, hT3⟩
      obtain ⟨ra3, cp3, rfl⟩ := hT3.slice
      have HB3 : Hid (Below wr.heap.size wr w3) := hb3
      have HT3 : Hid (Tree w3 wr.heap.size (.slice ra3 F.len cp3) F) := hT3
      have HTw3 : Hid (Tree w3 w1.heap.size (.slice rw0 F.len cw0) F) := HTw.out.kept (fun g _ hg => hb3.block g hg)
      clear hb3 hT3
      obtain ⟨_, _, hv1, hR1, hm1⟩ := HT3.out.rs
      cases hv1
      obtain ⟨_, _, hv2, hR2, hm2⟩ := HTw3.out.rs
      cases hv2
      have HR1 : Hid _ := hR1
      have HR2 : Hid _ := hR2
      clear hR1 hR2
      go_wp2_with fail
      refine (sameData_any F F ra3 cp3 rw0 cw0 w3 hm1 hm2 HR1.out HR2.out).mono ?_
      rw [(Fo.same_iff F F).2 rfl]
      rintro e w4 ⟨rfl, hb4⟩
      have HB4 : Hid (Below wr.heap.size wr w4) := HB3.out.trans (hb4.mono HB3.out.size)
      have HT4 : Hid (Tree w4 wr.heap.size (.slice ra3 F.len cp3) F) := HT3.out.kept (fun g _ hg => hb4.block g hg)
      have HTw4 : Hid (Tree w4 w1.heap.size (.slice rw0 F.len cw0) F) := HTw3.out.kept (fun g _ hg => hb4.block g hg)
      have s4 := HB4.out.size
      clear hb4 HT3 HTw3 HR1 HR2 HB3
      obtain ⟨cs, bs, ho, hr, hnd⟩ := HT4.out.ex
      obtain ⟨vs, hlv, hfm⟩ := hr.lv
      have hvl := hlv.size
      have Ho : Hid (w4.ownsRow wr.heap.size 58 5 (.slice ra3 F.len cp3) F.len cs) := ho
      have Hr : Hid (Row w4 wr.heap.size F cs bs) := hr
      have Hnd : Hid ((own1 (.slice ra3 F.len cp3) ++ bs).Nodup) := hnd
      have Hlv : Hid (LV w4 wr.heap.size F cs vs) := hlv
      have Hfm : Hid (vs.flatMap own1 = bs) := hfm
      have hje : j * (F.size + 1) ≤ 2 * (F.size + 1) := Nat.mul_le_mul_right _ hj
      have Hje : Hid (j * (F.size + 1) ≤ 2 * (F.size + 1)) := hje
      have Hvl : Hid (vs.length = F.size) := hvl
      clear ho hr hnd hlv hfm hje hvl
      have hee : (e0 == e0) = true := beq_self_eq_true e0
      have hpp : (p0 == p0) = true := beq_self_eq_true p0
      go_wp2_with fail
      refine (put_all w2.heap.size (w2.heap.size + 1) F.size F ra3 cp3 cs vs (j * (F.size + 1)) v rows wr.heap.size w4 (Nat.le_refl _) (by omega) Ho.out Hlv.out (HBd.out.below HB4.out hbl) (own_below HRw.out HB4.out) (by have := Hje.out; have := Hvl.out; omega) (Nat.lt_succ_self _) (by omega)).mono ?_
      rintro e w5 ⟨⟨r5, rfl⟩, v5, hb5, hr5, hd5, hw5⟩
      have hmore := rows_more (fun u hu => by obtain ⟨n, X, h1, h2⟩ := HOw.out u hu; exact ⟨n, X, own_below h1 HB4.out, h2⟩) HNd.out hbl (HOw.out.lt) Ho.out Hlv.out Hfm.out Hr.out Hnd.out (by omega) hd5
      have HBd5 : Hid (Bd w5 w2.heap.size v5) := hb5
      have HRw5 : Hid (w5.ownsRow (w2.heap.size + 1) 23 1 v5 ((j + 1) * (F.size + 1)) (rows ++ .slice ra3 F.len cp3 :: vs)) := by
        show World.ownsRow _ _ _ _ _ _ _
        rw [show (j + 1) * (F.size + 1) = j * (F.size + 1) + 1 + vs.length by rw [Hvl.out, Nat.succ_mul]; omega]
        exact hr5
      have HOw5 : Hid (Owns w5 (w2.heap.size + 1) (rows ++ .slice ra3 F.len cp3 :: vs)) := hmore.1
      have HNd5 : Hid (((rows ++ .slice ra3 F.len cp3 :: vs).flatMap own1).Nodup) := hmore.2
      have HTw5 : Hid (Tree w5 w1.heap.size (.slice rw0 F.len cw0) F) := HTw4.out.dk hd5
      have HB5 : Hid (Below w.heap.size w w5) := (HB.out.trans (HB4.out.mono HB.out.size)).trans (hw5.mono s2)
      clear hb5 hr5 hd5 hw5 hmore
      go_wp2
      go_roundw
      case rel => exact ⟨j + 1, v5, _, by go_num, by omega, HBd5, HRw5, HOw5, HNd5, HTw5, HB5⟩
      case measure => simp [intOf]; omega
    · have i1 : ¬ (j : Int) < 2 := by omega
      have hj2 : j = 2 := by omega
      subst hj2
      obtain ⟨N, hN⟩ : ∃ N, 2 * (F.size + 1) = N := ⟨_, rfl⟩
      have hNp : N ≠ 0 := by omega
      have hrow : wr.ownsRow (w2.heap.size + 1) 23 1 v N rows := by rw [← hN]; exact HRw.out
      obtain ⟨B, capB, hv, hBb⟩ : ∃ B capB, v = .slice (some ⟨B, 0, none⟩) N capB ∧ w2.heap.size + 1 ≤ B := by
        rcases hrow.2 with ⟨_, h0⟩ | ⟨g, cap, cur, hv, hg, _⟩
        · exact absurd h0 hNp
        · exact ⟨g, cap, hv, hg⟩
      subst hv
      obtain ⟨V, n, X, hn, hH⟩ := held_of hrow HOw.out HNd.out
      have Hn : Hid (∀ j, j < N → n j ≤ 1000000) := hn
      have HH : Hid (Held (w2.heap.size + 1) N B V n wr X) := hH
      have hNm : N ≤ 1000000 := by omega
      clear hn hH hrow hN
      go_wp2_with fail
      refine (bookOwn_any (w2.heap.size + 1) w2.heap.size N B capB V n X wr hNm hBb (Nat.lt_succ_self _) hbl Hn.out HH.out HBd.out).mono ?_
      rintro e w6 ⟨rfl, hb6⟩
      have HB6 : Hid (Below w.heap.size w w6) := HB.out.trans (hb6.below.mono (by omega))
      clear hb6
      go_wp2
      go_ret
      exact ⟨rfl, HB6.out⟩
end Go.Proofs.YtlpdfifjdlfpdaaGreatDoor
