/- The document's Ask. -/
import Derived.Test.YtaenoenchbfeiaaHARef
namespace Go.Proofs.Ytaenoenchbfeiaa
open Go.RowKit

theorem fnd_take {x : Int} {l : List Int} {j : Nat} {y : Int} (h : fnd x (l.take j) = none) (hy : l[j]? = some y) (hne : y ≠ x) : fnd x (l.take (j + 1)) = none := by
  refine fnd_none.2 (fun hm => ?_)
  rw [List.take_add_one, hy] at hm
  rcases List.mem_append.1 hm with hm | hm
  · exact fnd_none.1 h hm
  · simp at hm
    exact hne hm.symm
theorem fnd_here {x : Int} {l : List Int} {j : Nat} (h : fnd x (l.take j) = none) (hy : l[j]? = some x) : fnd x l = some j := by
  refine fnd_at hy (fun i hi hx => fnd_none.1 h ?_)
  refine List.mem_of_getElem? (i := i) ?_
  rw [List.getElem?_take, if_pos hi]
  exact hx
set_option maxRecDepth 100000 in
set_option maxHeartbeats 8000000 in
theorem refAsk_any (r gr : Nat) (vw : Value) (A : Al) (t b : Int) (w : World) (h : RL w r gr vw A) (hl : A.who.length ≤ 4096) (hrow : A.row.length ≤ 1000) :
    Calls Try.prog 22 #[.pointer (some ⟨r, 0, none⟩), .int .i64 t, .int .i64 b] w fun e w' => e = askE (askM A t b).1 ∧ RR r gr vw (askM A t b).2 w w' := by
  have HR : Hid (RL w r gr vw A) := h
  by_cases hb : t < 1 ∨ 8 < t
  · have HE : Hid (askM A t b = ((0, false, 120), A)) := by show _ = _; unfold askM; rw [if_pos hb]
    rw [HE.out]
    unfold askE
    dsimp only
    clear h HE
    rcases hb with h1 | h1
    · go_enter Try.func22, Try.ntmps22
      go_wp2
      all_goals
        go_ret3
        exact ⟨rfl, HR.out.same⟩
    · have h2 : ¬ t < 1 := by omega
      have h3 : t > 8 := h1
      go_enter Try.func22, Try.ntmps22
      go_wp2
      all_goals
        go_ret3
        exact ⟨rfl, HR.out.same⟩
  · have h1 : ¬ t < 1 := by omega
    have h8 : ¬ t > 8 := by omega
    have HBd : Hid (¬ (t < 1 ∨ 8 < t)) := hb
    obtain ⟨ra, ca, hvw⟩ := h.wt.sl
    subst hvw
    have HW : Hid (WX w ra A.row) := h.wt.wx
    have c0 := h.c0
    have c1 := h.c1
    have lr := h.lt r (.inl (.inl rfl))
    have lg := h.lt gr (.inl (.inr rfl))
    clear h hb
    go_enter Try.func22, Try.ntmps22
    go_wp2
    go_loopw [9] (fun i wr => ∃ j : Nat, i = .int .i64 j ∧ j ≤ A.row.length ∧ Hid ((A.row.take j).any (fun p => p.1 == t) = false) ∧ wr = w) (fun i _ => A.row.length - (intOf i).toNat)
    case atStart => exact ⟨0, rfl, Nat.zero_le _, rfl, rfl⟩
    case round =>
      obtain ⟨j, rfl, hj, HN, rfl⟩ := hrel
      by_cases hjl : j < A.row.length
      · have k1 : (j : Int) < (A.row.length : Int) := by omega
        obtain ⟨x, hx⟩ : ∃ x, A.row[j]? = some x := ⟨_, List.getElem?_eq_getElem hjl⟩
        obtain ⟨bb, o, q1, q2⟩ := HW.out.at
        have q1' := q1 (by omega)
        subst q1'
        obtain ⟨q3, q4, q5⟩ := q2 j x hx
        have HXx : Hid (A.row[j]? = some x) := hx
        clear q1 q2 hx
        cases hwr : (x.1 == t)
        · have HW2 : Hid ((fun p : Int × Int => p.1 == t) x = false) := hwr
          go_wp2
          go_roundw
          case rel => exact ⟨j + 1, by go_num, by omega, (any_take HN.out HXx.out).trans HW2.out, trivial⟩
          case measure => simp [intOf]; omega
        · have HE : Hid (askM A t b = ((0, false, 120), A)) := by
            show _ = _
            unfold askM
            rw [if_neg HBd.out, if_pos (show waitsB A t = true from any_at HXx.out hwr)]
          go_wp2
          go_ret3
          rw [HE.out]
          exact ⟨rfl, HR.out.same⟩
      · have k1 : ¬ (j : Int) < (A.row.length : Int) := by omega
        have HWt : Hid (waitsB A t = false) := by have := HN.out; rwa [List.take_of_length_le (by omega)] at this
        clear HN hjl hj
        go_wp2
        go_loopw [10] (fun i wq => ∃ k : Nat, i = .int .i64 k ∧ k ≤ A.who.length ∧ Hid (fnd t (A.who.take k) = none) ∧ wq = wr) (fun i _ => A.who.length - (intOf i).toNat)
        case atStart => exact ⟨0, rfl, Nat.zero_le _, rfl, rfl⟩
        case round =>
          obtain ⟨k, rfl, hk, HN, rfl⟩ := hrel
          by_cases hkl : k < A.who.length
          · have k2 : (k : Int) < (A.who.length : Int) := by omega
            obtain ⟨x, hx⟩ : ∃ x, A.who[k]? = some x := ⟨_, List.getElem?_eq_getElem hkl⟩
            have cx := HR.out.who hx
            have HXx : Hid (A.who[k]? = some x) := hx
            clear hx
            by_cases hxt : x = t
            · subst hxt
              have z : (x == x) = true := by simp
              have HE : Hid (askM A x b = (((k : Int), true, 0), ⟨A.who.set k (-1), A.row⟩)) := by
                show _ = _
                unfold askM
                rw [if_neg HBd.out, if_neg (by rw [HWt.out]; exact Bool.false_ne_true)]
                unfold askT
                rw [fnd_here HN.out HXx.out]
              have fz := HR.out.wh.fz k
              have HF : Hid _ := HR.out.put hkl (-1)
              go_wp2
              go_ret3
              rw [HE.out]
              exact ⟨rfl, HF.out⟩
            · have z : (x == t) = false := by simpa using hxt
              have HX2 : Hid (fnd t (A.who.take (k + 1)) = none) := fnd_take HN.out HXx.out hxt
              go_wp2
              go_roundw
              case rel => exact ⟨k + 1, by go_num, by omega, HX2, trivial⟩
              case measure => simp [intOf]; omega
          · have k2 : ¬ (k : Int) < (A.who.length : Int) := by omega
            have HNt : Hid (fnd t A.who = none) := by have := HN.out; rwa [List.take_of_length_le (by omega)] at this
            clear HN hkl hk
            go_wp2
            go_loopw [11] (fun i wq => ∃ k : Nat, i = .int .i64 k ∧ k ≤ A.who.length ∧ Hid (fnd 0 (A.who.take k) = none) ∧ wq = wr) (fun i _ => A.who.length - (intOf i).toNat)
            case atStart => exact ⟨0, rfl, Nat.zero_le _, rfl, rfl⟩
            case round =>
              obtain ⟨k, rfl, hk, HN, rfl⟩ := hrel
              by_cases hkl : k < A.who.length
              · have k2 : (k : Int) < (A.who.length : Int) := by omega
                obtain ⟨x, hx⟩ : ∃ x, A.who[k]? = some x := ⟨_, List.getElem?_eq_getElem hkl⟩
                have cx := HR.out.who hx
                have HXx : Hid (A.who[k]? = some x) := hx
                clear hx
                by_cases hxt : x = 0
                · subst hxt
                  have HE : Hid (askM A t b = (((k : Int), true, 0), ⟨A.who.set k (-1), A.row⟩)) := by
                    show _ = _
                    unfold askM
                    rw [if_neg HBd.out, if_neg (by rw [HWt.out]; exact Bool.false_ne_true)]
                    unfold askT
                    rw [HNt.out, fnd_here HN.out HXx.out]
                  have fz := HR.out.wh.fz k
                  have HF : Hid _ := HR.out.put hkl (-1)
                  go_wp2
                  go_ret3
                  rw [HE.out]
                  exact ⟨rfl, HF.out⟩
                · have z : (x == 0) = false := by simpa using hxt
                  have HX2 : Hid (fnd 0 (A.who.take (k + 1)) = none) := fnd_take HN.out HXx.out hxt
                  go_wp2
                  go_roundw
                  case rel => exact ⟨k + 1, by go_num, by omega, HX2, trivial⟩
                  case measure => simp [intOf]; omega
              · have k2 : ¬ (k : Int) < (A.who.length : Int) := by omega
                have HE : Hid (askM A t b = ((0, false, 0), ⟨A.who, A.row ++ [(t, b)]⟩)) := by
                  show _ = _
                  unfold askM
                  rw [if_neg HBd.out, if_neg (by rw [HWt.out]; exact Bool.false_ne_true)]
                  unfold askT
                  have := HN.out
                  rw [List.take_of_length_le (by omega)] at this
                  rw [HNt.out, this]
                have b2 : Below 0 wr (wr.alloc (.cells #[.int .i64 t, .int .i64 b] 103)) := (Below.refl 0 wr).alloc (Nat.zero_le _) _
                have kk2 : ∀ g, g < wr.heap.size → (wr.alloc (.cells #[.int .i64 t, .int .i64 b] 103)).heap[g]? = wr.heap[g]? := fun g hg => Below.heap_alloc _ _ _ hg
                have s2 : (wr.alloc (.cells #[.int .i64 t, .int .i64 b] 103)).heap.size = wr.heap.size + 1 := World.size_alloc ..
                obtain ⟨v3, w3, hr, hw3, hk3, hb3, hat⟩ := (HR.out.wt.kept (fun g hg => kk2 g (HR.out.lt g (.inr hg)))).snoc (by omega) (t, b) wr.heap.size (heap_alloc_new wr _)
                obtain ⟨r3, q3, hv3⟩ := hw3.sl
                subst hv3
                generalize hL : (A.row ++ [(t, b)]).length = L3 at hr hw3 hat
                have hk3' : ∀ g, g < wr.heap.size → (Value.slice ra A.row.length ca).ownBlock ≠ some g → w3.heap[g]? = wr.heap[g]? := fun g hg hn => (hk3 g (by omega) hn).trans (kk2 g hg)
                have ho3 : w3.heap[r]? = wr.heap[r]? := hk3' r lr (fun e => (HR.out.ne.2 r e).1 rfl)
                have hob := ho3.trans HR.out.obj
                have d1 := heap_cell (j := 1) hob rfl
                have f1 : w3.frozen? ⟨r, 1, none⟩ = false := by simp [World.frozen?, hob]
                have lr3 := heap_lt hob
                have HF : Hid (RR r gr (.slice ra A.row.length ca) ⟨A.who, A.row ++ [(t, b)]⟩ wr (w3.setCell ⟨r, 1, none⟩ (.slice r3 L3 q3))) := RL.wait HR.out hk3' (b2.trans hb3) hw3 (fun g hg => by
                  rcases hat with h' | h'
                  · exact .inl (by rw [← h']; exact hg)
                  · rw [h'] at hg
                    have := Option.some.inj hg
                    right
                    omega)
                clear hw3 hk3 hk3' hb3 hat ho3 hob b2 kk2 hL HN hkl
                go_wp2_with (at_builtin; refine stop_of ?_)
                unfold Hid
                refine wpList_append_known _ rfl _ _ 60 60 rfl _ _ rfl rfl (hr _) ?_
                clear hr
                go_wp2
                go_ret3
                rw [HE.out]
                exact ⟨rfl, HF.out⟩
end Go.Proofs.Ytaenoenchbfeiaa
