/- The chapter's example: plain mathematics.; The chapter's example in memory.; works: what the chapter's example fixes. -/
import Derived.Test.YtnblieohdngmiabGreatDoorGI
import Derived.Test.YtnblieohdngmiabGreatDoorGJ
import Derived.Test.YtnblieohdngmiabGreatDoorGM
/- The chapter's example: plain mathematics. -/
namespace Go.Proofs.YtnblieohdngmiabGreatDoor

def exC : Cd := ⟨[mk 5 5, mk 1 0], [⟨0, [⟨1, 0⟩, ⟨5, 0⟩, ⟨12, 0⟩]⟩, ⟨1, [⟨2, 0⟩, ⟨12, 0⟩]⟩], [[120]]⟩
def exC2 : Cd := ⟨[mk 5 5, mk 1 0], [⟨0, [⟨1, 0⟩, ⟨5, 0⟩, ⟨12, 0⟩]⟩, ⟨1, [⟨2, 0⟩]⟩], [[120]]⟩
def exT : List UInt8 := [99, 111, 110, 115, 116, 32, 105, 110, 116, 32, 53, 10, 99, 111, 110, 115, 116, 32, 110, 105, 108, 10, 103, 108, 111, 98, 97, 108, 32, 120, 10, 112, 114, 111, 99, 32, 48, 10, 32, 99, 111, 110, 115, 116, 32, 48, 10, 32, 115, 101, 116, 103, 108, 111, 98, 97, 108, 32, 48, 10, 32, 114, 101, 116, 117, 114, 110, 10, 112, 114, 111, 99, 32, 49, 10, 32, 118, 97, 114, 32, 48, 10, 32, 114, 101, 116, 117, 114, 110, 10]
theorem exC_ok : chkC exC = (0, 0, 0) := by kernel_rfl
theorem exC2_bad : chkC exC2 = (80, 1, 0) := by kernel_rfl
theorem exC_rng : ∀ x ∈ exC.consts, Rng x := fun x hx => by
  simp only [exC, List.mem_cons, List.not_mem_nil, or_false] at hx
  rcases hx with rfl | rfl <;> exact mk_rng _ _
theorem itoa_small (n : Nat) (h : n < 10) : Lib.itoa (n : Int) = [UInt8.ofNat (48 + n)] := by
  unfold Lib.itoa
  rw [if_neg (by omega), show ((n : Int)).toNat = n from rfl, Lib.decDigits, dif_pos h]
theorem ofs : ofT (mk 5 5) = 5 ∧ ofN (mk 5 5) = 5 ∧ ofT (mk 1 0) = 1 := ⟨by kernel_rfl, by kernel_rfl, by kernel_rfl⟩
theorem c1T : constT (mk 5 5) = [105, 110, 116, 32, 53] := by
  unfold constT; rw [ofs.1, ofs.2.1, show (5 : Int) = ((5 : Nat) : Int) from rfl, itoa_small 5 (by decide)]; rfl
theorem c2T : constT (mk 1 0) = [110, 105, 108] := by unfold constT; rw [ofs.2.2]; rfl
theorem iT0 (op : Int) (h : opNumB op = true) : instrT ⟨op, 0⟩ = opNames.getD op.toNat [] ++ [32, 48] := by
  unfold instrT; simp only; rw [if_pos h, show (0 : Int) = ((0 : Nat) : Int) from rfl, itoa_small 0 (by decide)]; rfl
theorem exT_is : writtenT exC = exT := by
  unfold writtenT exC
  simp only [constsT, globsT, procsT, codeT]
  rw [c1T, c2T, iT0 1 rfl, iT0 5 rfl, iT0 2 rfl, show Lib.itoa 0 = [48] from itoa_small 0 (by decide), show Lib.itoa 1 = [49] from itoa_small 1 (by decide)]
  rfl
theorem ex_parse : parsedV exT noCd 1 = (exC, 0) := by
  rw [← exT_is]; exact parse_text (by rw [exC_ok]) exC_rng
theorem pstep {l r : List UInt8} {c c' : Cd} {n : Int} (h : (10 : UInt8) ∉ l) (ht : takeV c l = some c') : parsedV (l ++ 10 :: r) c n = parsedV r c' (n + 1) := by rw [parsedV_line h, ht]
theorem num0 : countV [48] = some 0 := by have := countV_itoa (n := 0) (by omega); rwa [show Lib.itoa 0 = [48] from itoa_small 0 (by decide)] at this
theorem num1 : countV [49] = some 1 := by have := countV_itoa (n := 1) (by omega); rwa [show Lib.itoa 1 = [49] from itoa_small 1 (by decide)] at this
theorem ex_open : (parsedV (exT.take 89) noCd 1).2 = 10 := by
  have k1 : constV [105, 110, 116, 32, 53] = some (mk 5 5) := by have := constV_T (x := mk 5 5) (by kernel_rfl) (mk_rng _ _); rwa [c1T] at this
  have k2 : constV [110, 105, 108] = some (mk 1 0) := by have := constV_T (x := mk 1 0) (by kernel_rfl) (mk_rng _ _); rwa [c2T] at this
  have j1 : instrV [99, 111, 110, 115, 116, 32, 48] = some ⟨1, 0⟩ := by have := instrV_T (x := ⟨1, 0⟩) (by decide) (by decide) (by decide); rwa [iT0 1 rfl] at this
  have j2 : instrV [115, 101, 116, 103, 108, 111, 98, 97, 108, 32, 48] = some ⟨5, 0⟩ := by have := instrV_T (x := ⟨5, 0⟩) (by decide) (by decide) (by decide); rwa [iT0 5 rfl] at this
  have j3 : instrV [114, 101, 116, 117, 114, 110] = some ⟨12, 0⟩ := by have := instrV_T (x := ⟨12, 0⟩) (by decide) (by decide) (by decide); exact this
  have j4 : instrV [118, 97, 114, 32, 48] = some ⟨2, 0⟩ := by have := instrV_T (x := ⟨2, 0⟩) (by decide) (by decide) (by decide); rwa [iT0 2 rfl] at this
  have e : exT.take 89 = (constA ++ [105, 110, 116, 32, 53]) ++ 10 :: ((constA ++ [110, 105, 108]) ++ 10 :: ((globA ++ [120]) ++ 10 :: ((procA ++ [48]) ++ 10 :: (([32] ++ [99, 111, 110, 115, 116, 32, 48]) ++ 10 :: (([32] ++ [115, 101, 116, 103, 108, 111, 98, 97, 108, 32, 48]) ++ 10 :: (([32] ++ [114, 101, 116, 117, 114, 110]) ++ 10 :: ((procA ++ [49]) ++ 10 :: (([32] ++ [118, 97, 114, 32, 48]) ++ 10 :: [32, 114, 101, 116, 117, 114, 110])))))))) := rfl
  rw [e]
  rw [pstep (by decide) (by rw [takeV_const]; unfold takeC; rw [k1]; rfl)]
  rw [pstep (by decide) (by rw [takeV_const]; unfold takeC; rw [k2]; rfl)]
  rw [pstep (by decide) (by rw [takeV_glob]; rfl)]
  rw [pstep (by decide) (by rw [takeV_proc]; unfold takeP; rw [num0])]
  rw [pstep (by decide) (by rw [takeV_instr]; unfold takeI; rw [j1]; rfl)]
  rw [pstep (by decide) (by rw [takeV_instr]; unfold takeI; rw [j2]; rfl)]
  rw [pstep (by decide) (by rw [takeV_instr]; unfold takeI; rw [j3]; rfl)]
  rw [pstep (by decide) (by rw [takeV_proc]; unfold takeP; rw [num1])]
  rw [pstep (by decide) (by rw [takeV_instr]; unfold takeI; rw [j4]; rfl)]
  rw [parsedV_open (by decide) (by decide)]
  rfl
end Go.Proofs.YtnblieohdngmiabGreatDoor

/- The chapter's example in memory. -/
namespace Go.Proofs.YtnblieohdngmiabGreatDoor
open Go.RowKit

def exK (k : Nat) : Cd := ⟨[mk 5 5, mk 1 0], [⟨0, [⟨1, 0⟩, ⟨5, 0⟩, ⟨12, 0⟩]⟩, ⟨1, [⟨2, 0⟩, ⟨12, 0⟩].take k⟩], [[120]]⟩
def exV (b1 b5 b2 : Nat) : Value := .agg #[.slice (some ⟨b1, 0, none⟩) 2 2, .slice (some ⟨b5, 0, none⟩) 2 2, .slice (some ⟨b2, 0, none⟩) 1 1]
structure ExM (w : World) (b1 b2 b3 b4 b5 k : Nat) : Prop where
  h1 : w.heap[b1]? = some (.cells #[.int .u64 (mk 5 5), .int .u64 (mk 1 0)] 31 (0, 0))
  h2 : w.heap[b2]? = some (.cells #[S [120]] 9 (0, 0))
  h3 : w.heap[b3]? = some (.cells #[.int .u8 1, .int .i64 0, .int .u8 5, .int .i64 0, .int .u8 12, .int .i64 0] 46 (0, 0))
  h4 : w.heap[b4]? = some (.cells #[.int .u8 2, .int .i64 0, .int .u8 12, .int .i64 0] 46 (0, 0))
  h5 : w.heap[b5]? = some (.cells #[.int .i64 0, .slice (some ⟨b3, 0, none⟩) 3 3, .int .i64 1, .slice (some ⟨b4, 0, none⟩) k 2] 29 (0, 0))
theorem heap_lt {w : World} {b : Nat} {o : Obj} (h : w.heap[b]? = some o) : b < w.heap.size := (Array.getElem?_eq_some_iff.1 h).1
theorem heap_cell {w : World} {b j : Nat} {cs : Array Value} {t : TypeId} {v : Value} (h : w.heap[b]? = some (.cells cs t (0, 0))) (hv : cs[j]? = some v) : w.cell? ⟨b, j, none⟩ = some v := by
  simp only [World.cell?, h]; exact hv
theorem ExM.below {w w' : World} {b1 b2 b3 b4 b5 k : Nat} (h : ExM w b1 b2 b3 b4 b5 k) (hb : Below w.heap.size w w') : ExM w' b1 b2 b3 b4 b5 k :=
  ⟨(hb.block _ (heap_lt h.h1)).trans h.h1, (hb.block _ (heap_lt h.h2)).trans h.h2, (hb.block _ (heap_lt h.h3)).trans h.h3, (hb.block _ (heap_lt h.h4)).trans h.h4, (hb.block _ (heap_lt h.h5)).trans h.h5⟩
theorem ExM.cv {w : World} {b1 b2 b3 b4 b5 k : Nat} (h : ExM w b1 b2 b3 b4 b5 k) (hk : k = 1 ∨ k = 2) : CV w (exV b1 b5 b2) (exK k) := by
  refine ⟨⟨_, 2, _, 2, _, 1, rfl, ⟨b1, 0, .inr rfl, fun j x hx => ?_⟩, ⟨b5, 0, .inr rfl, fun j x hx => ?_⟩, ⟨b2, 0, .inr rfl, fun j x hx => ?_⟩, Nat.le_refl _⟩, ⟨by show 2 ≤ maxLen; decide, by show 2 ≤ maxLen; decide, by show 1 ≤ maxLen; decide⟩⟩
  · refine ⟨heap_lt h.h1, ?_⟩
    match j, hx with
    | 0, hx => cases hx; exact ⟨heap_cell h.h1 rfl, mk_rng _ _⟩
    | 1, hx => cases hx; exact ⟨heap_cell h.h1 rfl, mk_rng _ _⟩
    | j + 2, hx => simp [exK] at hx
  · refine ⟨heap_lt h.h5, ?_⟩
    match j, hx with
    | 0, hx =>
      cases hx
      refine ⟨heap_cell h.h5 rfl, ⟨_, 3, heap_cell h.h5 rfl, b3, 0, .inr rfl, fun i y hy => ?_⟩, by decide⟩
      refine ⟨heap_lt h.h3, ?_⟩
      match i, hy with
      | 0, hy => cases hy; exact ⟨heap_cell h.h3 rfl, heap_cell h.h3 rfl, by decide, by decide⟩
      | 1, hy => cases hy; exact ⟨heap_cell h.h3 rfl, heap_cell h.h3 rfl, by decide, by decide⟩
      | 2, hy => cases hy; exact ⟨heap_cell h.h3 rfl, heap_cell h.h3 rfl, by decide, by decide⟩
      | i + 3, hy => simp at hy
    | 1, hx =>
      cases hx
      have hlen : ([⟨2, 0⟩, ⟨12, 0⟩] : List Ins).take k = [⟨2, 0⟩, ⟨12, 0⟩].take k := rfl
      rcases hk with rfl | rfl
      · refine ⟨heap_cell h.h5 rfl, ⟨_, 2, heap_cell h.h5 rfl, b4, 0, .inr rfl, fun i y hy => ?_⟩, by decide⟩
        refine ⟨heap_lt h.h4, ?_⟩
        match i, hy with
        | 0, hy => cases hy; exact ⟨heap_cell h.h4 rfl, heap_cell h.h4 rfl, by decide, by decide⟩
        | i + 1, hy => simp at hy
      · refine ⟨heap_cell h.h5 rfl, ⟨_, 2, heap_cell h.h5 rfl, b4, 0, .inr rfl, fun i y hy => ?_⟩, by decide⟩
        refine ⟨heap_lt h.h4, ?_⟩
        match i, hy with
        | 0, hy => cases hy; exact ⟨heap_cell h.h4 rfl, heap_cell h.h4 rfl, by decide, by decide⟩
        | 1, hy => cases hy; exact ⟨heap_cell h.h4 rfl, heap_cell h.h4 rfl, by decide, by decide⟩
        | i + 2, hy => simp at hy
    | j + 2, hx => simp [exK] at hx
  · refine ⟨heap_lt h.h2, ?_⟩
    match j, hx with
    | 0, hx => cases hx; exact ⟨heap_cell h.h2 rfl, by decide⟩
    | j + 1, hx => simp [exK] at hx
theorem six (w : World) (o0 o1 o2 o3 o4 o5 : Obj) : ((((((w.alloc o0).alloc o1).alloc o2).alloc o3).alloc o4).alloc o5).heap[w.heap.size]? = some o0 ∧ ((((((w.alloc o0).alloc o1).alloc o2).alloc o3).alloc o4).alloc o5).heap[w.heap.size + 1]? = some o1 ∧ ((((((w.alloc o0).alloc o1).alloc o2).alloc o3).alloc o4).alloc o5).heap[w.heap.size + 1 + 1]? = some o2 ∧ ((((((w.alloc o0).alloc o1).alloc o2).alloc o3).alloc o4).alloc o5).heap[w.heap.size + 1 + 1 + 1]? = some o3 ∧ ((((((w.alloc o0).alloc o1).alloc o2).alloc o3).alloc o4).alloc o5).heap[w.heap.size + 1 + 1 + 1 + 1]? = some o4 ∧ ((((((w.alloc o0).alloc o1).alloc o2).alloc o3).alloc o4).alloc o5).heap[w.heap.size + 1 + 1 + 1 + 1 + 1]? = some o5 ∧ Below w.heap.size w ((((((w.alloc o0).alloc o1).alloc o2).alloc o3).alloc o4).alloc o5) := by
  have e1 : (w.alloc o0).heap.size = w.heap.size + 1 := World.size_alloc ..
  have e2 : ((w.alloc o0).alloc o1).heap.size = w.heap.size + 2 := by rw [World.size_alloc, e1]
  have e3 : (((w.alloc o0).alloc o1).alloc o2).heap.size = w.heap.size + 3 := by rw [World.size_alloc, e2]
  have e4 : ((((w.alloc o0).alloc o1).alloc o2).alloc o3).heap.size = w.heap.size + 4 := by rw [World.size_alloc, e3]
  have e5 : (((((w.alloc o0).alloc o1).alloc o2).alloc o3).alloc o4).heap.size = w.heap.size + 5 := by rw [World.size_alloc, e4]
  refine ⟨?_, ?_, ?_, ?_, ?_, ?_, ?_⟩
  · rw [Below.heap_alloc _ _ _ (by omega), Below.heap_alloc _ _ _ (by omega), Below.heap_alloc _ _ _ (by omega), Below.heap_alloc _ _ _ (by omega), Below.heap_alloc _ _ _ (by omega)]; exact heap_alloc_new _ _
  · rw [Below.heap_alloc _ _ _ (by omega), Below.heap_alloc _ _ _ (by omega), Below.heap_alloc _ _ _ (by omega), Below.heap_alloc _ _ _ (by omega), ← e1]; exact heap_alloc_new _ _
  · rw [Below.heap_alloc _ _ _ (by omega), Below.heap_alloc _ _ _ (by omega), Below.heap_alloc _ _ _ (by omega), show w.heap.size + 1 + 1 = w.heap.size + 2 from rfl, ← e2]; exact heap_alloc_new _ _
  · rw [Below.heap_alloc _ _ _ (by omega), Below.heap_alloc _ _ _ (by omega), show w.heap.size + 1 + 1 + 1 = w.heap.size + 3 from rfl, ← e3]; exact heap_alloc_new _ _
  · rw [Below.heap_alloc _ _ _ (by omega), show w.heap.size + 1 + 1 + 1 + 1 = w.heap.size + 4 from rfl, ← e4]; exact heap_alloc_new _ _
  · rw [show w.heap.size + 1 + 1 + 1 + 1 + 1 = w.heap.size + 5 from rfl, ← e5]; exact heap_alloc_new _ _
  · exact ((((((Below.refl _ w).alloc (Nat.le_refl _) _).alloc (by omega) _).alloc (by omega) _).alloc (by omega) _).alloc (by omega) _).alloc (by omega) _
def ExR (w : World) (e : Ending) (w' : World) : Prop := ∃ b1 b2 b3 b4 b5, e = .returned (exV b1 b5 b2) ∧ ExM w' b1 b2 b3 b4 b5 2 ∧ w.heap.size ≤ b5
set_option maxRecDepth 100000 in
set_option maxHeartbeats 8000000 in
theorem example_any (w : World) (hE : Env w) :
    Calls Tryz.prog 11 #[] w fun e w' => ExR w e w' ∧ Below w.heap.size w w' := by
  have hal : Below w.heap.size w (w.alloc ZC) := (Below.refl _ w).alloc (Nat.le_refl _) _
  have hT := (hE.below hal).T
  have H1 : Hid (Calls Tryz.prog 20 #[.int .i64 5] (w.alloc ZC) fun e w' => e = .returned (.tuple #[.int .u64 (mk 5 5), .int .i64 0]) ∧ w' = w.alloc ZC) := int_any 5 _ hT
  have H2 : Hid (Calls Tryz.prog 21 #[.int .u8 1, .int .i64 0] (w.alloc ZC) fun e w' => e = .returned (.tuple #[.int .u64 (mk 1 0), .int .i64 0]) ∧ w' = w.alloc ZC) := make_any 1 0 _ (by decide) (by decide) hT
  have HA : Hid (Below w.heap.size w (w.alloc ZC)) := hal
  clear hE hal hT
  obtain ⟨m5, hm5⟩ : ∃ m, m = mk 5 5 := ⟨_, rfl⟩
  obtain ⟨m1, hm1⟩ : ∃ m, m = mk 1 0 := ⟨_, rfl⟩
  rw [← hm5] at H1
  rw [← hm1] at H2
  have HM : Hid (m5 = mk 5 5 ∧ m1 = mk 1 0) := ⟨hm5, hm1⟩
  clear hm5 hm1
  go_enter Tryz.func11, Tryz.ntmps11
  go_wp2_with fail
  refine Calls.mono H1.out ?_
  rintro e w1 ⟨rfl, hw1⟩
  rw [hw1]
  clear hw1
  go_wp2_with fail
  refine Calls.mono H2.out ?_
  rintro e w2 ⟨rfl, hw2⟩
  rw [hw2]
  clear hw2
  go_wp2
  obtain ⟨k0, k1, k2, k3, k4, k5, kb⟩ := six w (CO (.slice (some ⟨w.heap.size + 1, 0, none⟩) 2 2) (.slice (some ⟨w.heap.size + 1 + 1 + 1 + 1 + 1, 0, none⟩) 2 2) (.slice (some ⟨w.heap.size + 1 + 1, 0, none⟩) 1 1)) (.cells #[.int .u64 m5, .int .u64 m1] 31) (.cells #[.string ⟨#[120]⟩] 9) (.cells #[.int .u8 1, .int .i64 0, .int .u8 5, .int .i64 0, .int .u8 12, .int .i64 0] 46) (.cells #[.int .u8 2, .int .i64 0, .int .u8 12, .int .i64 0] 46) (.cells #[.int .i64 0, .slice (some ⟨w.heap.size + 1 + 1 + 1, 0, none⟩) 3 3, .int .i64 1, .slice (some ⟨w.heap.size + 1 + 1 + 1 + 1, 0, none⟩) 2 2] 29)
  generalize (((((w.alloc (CO (.slice (some ⟨w.heap.size + 1, 0, none⟩) 2 2) (.slice (some ⟨w.heap.size + 1 + 1 + 1 + 1 + 1, 0, none⟩) 2 2) (.slice (some ⟨w.heap.size + 1 + 1, 0, none⟩) 1 1))).alloc (.cells #[.int .u64 m5, .int .u64 m1] 31)).alloc (.cells #[.string ⟨#[120]⟩] 9)).alloc (.cells #[.int .u8 1, .int .i64 0, .int .u8 5, .int .i64 0, .int .u8 12, .int .i64 0] 46)).alloc (.cells #[.int .u8 2, .int .i64 0, .int .u8 12, .int .i64 0] 46)).alloc (.cells #[.int .i64 0, .slice (some ⟨w.heap.size + 1 + 1 + 1, 0, none⟩) 3 3, .int .i64 1, .slice (some ⟨w.heap.size + 1 + 1 + 1 + 1, 0, none⟩) 2 2] 29) = wE at *
  have x0 : wE.cell? ⟨w.heap.size, 0, none⟩ = some (.slice (some ⟨w.heap.size + 1, 0, none⟩) 2 2) := heap_cell k0 rfl
  have x1 : wE.cell? ⟨w.heap.size, 1, none⟩ = some (.slice (some ⟨w.heap.size + 1 + 1 + 1 + 1 + 1, 0, none⟩) 2 2) := heap_cell k0 rfl
  have x2 : wE.cell? ⟨w.heap.size, 2, none⟩ = some (.slice (some ⟨w.heap.size + 1 + 1, 0, none⟩) 1 1) := heap_cell k0 rfl
  rw [HM.out.1, HM.out.2] at k1
  refine bodyPost_ret (v := exV (w.heap.size + 1) (w.heap.size + 1 + 1 + 1 + 1 + 1) (w.heap.size + 1 + 1)) (by simp [exV, results, Tryz.results11, go_sem, x0, x1, x2]) rfl ⟨⟨_, _, _, _, _, rfl, ⟨k1, k2, k3, k4, k5⟩, by omega⟩, kb⟩
end Go.Proofs.YtnblieohdngmiabGreatDoor

/- works: what the chapter's example fixes. -/
namespace Go.Proofs.YtnblieohdngmiabGreatDoor
open Go.RowKit

theorem ex_text : textV (exK 2) = .tuple #[S exT, .int .i64 0] := by
  unfold textV
  rw [if_pos (by show (chkC exC).1 = 0; rw [exC_ok]), show writtenT (exK 2) = exT from exT_is]
theorem ex_same : sameC (exK 2) exC = true := (sameC_iff _ _).2 rfl
/-- The example, and the block of the variable that holds it. -/
structure Wo (w W : World) (B b1 b2 b3 b4 b5 : Nat) : Prop where
  bel : Below w.heap.size w W
  ex : ExM W b1 b2 b3 b4 b5 2
  blk : W.heap[B]? = some (CO (.slice (some ⟨b1, 0, none⟩) 2 2) (.slice (some ⟨b5, 0, none⟩) 2 2) (.slice (some ⟨b2, 0, none⟩) 1 1))
  hB : w.heap.size ≤ B
  hb5 : w.heap.size ≤ b5
theorem Wo.next {w W W' : World} {B b1 b2 b3 b4 b5 : Nat} (h : Wo w W B b1 b2 b3 b4 b5) (hb : Below W.heap.size W W') : Wo w W' B b1 b2 b3 b4 b5 :=
  ⟨h.bel.trans (hb.mono h.bel.size), h.ex.below hb, (hb.block _ (heap_lt h.blk)).trans h.blk, h.hB, h.hb5⟩
theorem Wo.cells {w W : World} {B b1 b2 b3 b4 b5 : Nat} (h : Wo w W B b1 b2 b3 b4 b5) : W.cell? ⟨B, 0, none⟩ = some (.slice (some ⟨b1, 0, none⟩) 2 2) ∧ W.cell? ⟨B, 1, none⟩ = some (.slice (some ⟨b5, 0, none⟩) 2 2) ∧ W.cell? ⟨B, 2, none⟩ = some (.slice (some ⟨b2, 0, none⟩) 1 1) :=
  ⟨heap_cell h.blk rfl, heap_cell h.blk rfl, heap_cell h.blk rfl⟩
theorem Wo.start {w w1 : World} {b1 b2 b3 b4 b5 : Nat} (hm : ExM w1 b1 b2 b3 b4 b5 2) (hb : Below w.heap.size w w1) (h5 : w.heap.size ≤ b5) : Wo w (w1.alloc (CO (.slice (some ⟨b1, 0, none⟩) 2 2) (.slice (some ⟨b5, 0, none⟩) 2 2) (.slice (some ⟨b2, 0, none⟩) 1 1))) w1.heap.size b1 b2 b3 b4 b5 :=
  have hal := (Below.refl _ w1).alloc (Nat.le_refl _) (CO (.slice (some ⟨b1, 0, none⟩) 2 2) (.slice (some ⟨b5, 0, none⟩) 2 2) (.slice (some ⟨b2, 0, none⟩) 1 1))
  ⟨hb.trans (hal.mono hb.size), hm.below hal, heap_alloc_new _ _, hb.size, h5⟩
/-- Behind the store. -/
theorem Wo.cut {w W W' : World} {B b1 b2 b3 b4 b5 : Nat} (h : Wo w W B b1 b2 b3 b4 b5) (hn : B ≠ b5) (hw : W' = W.setCell ⟨b5, 3, none⟩ (.slice (some ⟨b4, 0, none⟩) 1 2)) : Below w.heap.size w W' ∧ ExM W' b1 b2 b3 b4 b5 1 ∧ W'.heap[B]? = some (CO (.slice (some ⟨b1, 0, none⟩) 2 2) (.slice (some ⟨b5, 0, none⟩) 2 2) (.slice (some ⟨b2, 0, none⟩) 1 1)) := by
  subst hw
  have h5 := set_atC (j := 3) h.ex.h5 (.slice (some ⟨b4, 0, none⟩) 1 2)
  have ne : ∀ {g : Nat} {cs : Array Value} {t : TypeId}, W.heap[g]? = some (.cells cs t (0, 0)) → t ≠ 29 → g ≠ b5 := fun hg ht e => by
    subst e; rw [h.ex.h5] at hg; cases hg; exact ht rfl
  refine ⟨h.bel.setCell (p := ⟨b5, 3, none⟩) h.hb5 _, ⟨?_, ?_, ?_, ?_, ?_⟩, ?_⟩
  · exact (Below.heap_setCell _ _ _ _ (ne h.ex.h1 (by decide))).trans h.ex.h1
  · exact (Below.heap_setCell _ _ _ _ (ne h.ex.h2 (by decide))).trans h.ex.h2
  · exact (Below.heap_setCell _ _ _ _ (ne h.ex.h3 (by decide))).trans h.ex.h3
  · exact (Below.heap_setCell _ _ _ _ (ne h.ex.h4 (by decide))).trans h.ex.h4
  · exact h5
  · exact (Below.heap_setCell _ _ _ _ hn).trans h.blk
set_option maxRecDepth 100000 in
set_option maxHeartbeats 16000000 in
theorem works_any (w : World) (hE : Env w) :
    Calls Tryz.prog 5 #[] w fun e w' => e = .returned (.bool true) ∧ Below w.heap.size w w' := by
  have HE : Hid (Env w) := hE
  have HX : Hid (Calls Tryz.prog 11 #[] w fun e w' => ExR w e w' ∧ Below w.heap.size w w') := example_any w hE
  have HCk : Hid (∀ (w5 : World) (b1 b2 b3 b4 b5 : Nat), Below w.heap.size w w5 → ExM w5 b1 b2 b3 b4 b5 2 → Calls Tryz.prog 7 #[exV b1 b5 b2] w5 fun e w' => e = .returned (.tuple #[.int .i64 0, .int .i64 0, .int .i64 0]) ∧ Below w5.heap.size w5 w') := fun w5 b1 b2 b3 b4 b5 h5 hm => by
    have hen := HE.out.below h5
    have := check_any (exK 2) _ w5 (hm.cv (.inr rfl)) (fun t ht => by have := List.mem_singleton.1 (show t ∈ [[120]] from ht); subst this; decide) hen.T hen.E hen.P
    rw [show chkC (exK 2) = (0, 0, 0) from exC_ok] at this
    exact this
  have HCb : Hid (∀ (w5 : World) (b1 b2 b3 b4 b5 : Nat), Below w.heap.size w w5 → ExM w5 b1 b2 b3 b4 b5 1 → Calls Tryz.prog 7 #[exV b1 b5 b2] w5 fun e w' => e = .returned (.tuple #[.int .i64 80, .int .i64 1, .int .i64 0]) ∧ Below w5.heap.size w5 w') := fun w5 b1 b2 b3 b4 b5 h5 hm => by
    have hen := HE.out.below h5
    have := check_any (exK 1) _ w5 (hm.cv (.inl rfl)) (fun t ht => by have := List.mem_singleton.1 (show t ∈ [[120]] from ht); subst this; decide) hen.T hen.E hen.P
    rw [show chkC (exK 1) = (80, 1, 0) from exC2_bad] at this
    exact this
  have HTx : Hid (∀ (w5 : World) (b1 b2 b3 b4 b5 : Nat), Below w.heap.size w w5 → ExM w5 b1 b2 b3 b4 b5 2 → Calls Tryz.prog 12 #[exV b1 b5 b2] w5 fun e w' => e = .returned (.tuple #[S exT, .int .i64 0]) ∧ Below w5.heap.size w5 w') := fun w5 b1 b2 b3 b4 b5 h5 hm => by
    have hen := HE.out.below h5
    have := text_any (exK 2) _ w5 (hm.cv (.inr rfl)) (fun t ht => by have := List.mem_singleton.1 (show t ∈ [[120]] from ht); subst this; decide) hen.T hen.E hen.P hen.N hen.O hen.B (by rw [show writtenT (exK 2) = exT from exT_is]; decide)
    rw [ex_text] at this
    exact this
  have HPa : Hid (∀ w5 : World, Below w.heap.size w w5 → Calls Tryz.prog 13 #[S exT] w5 fun e w' => (∃ r1 n1 d1 r2 n2 d2 r3 n3 d3, e = .returned (.tuple #[.agg #[.slice r1 n1 d1, .slice r2 n2 d2, .slice r3 n3 d3], .int .i64 0, .int .i64 0]) ∧ CV w' (.agg #[.slice r1 n1 d1, .slice r2 n2 d2, .slice r3 n3 d3]) exC) ∧ Below w5.heap.size w5 w') := fun w5 h5 => by
    refine (parse_any exT w5 (by decide) (HE.out.below h5)).mono ?_
    rintro e w' ⟨hr, hb⟩
    refine ⟨?_, hb⟩
    unfold ParseR at hr
    rw [ex_parse] at hr
    rcases hr with ⟨h, _⟩ | ⟨_, h, _⟩ | ⟨_, _, v1, v2, v3, vs, he, ho, hg⟩
    · exact absurd rfl h
    · exact absurd (by rw [exC_ok]) h
    · obtain ⟨r1, d1, e1⟩ := own_slice' ho.o1
      obtain ⟨r2, d2, e2⟩ := own_slice' ho.o2
      obtain ⟨r3, d3, e3⟩ := own_slice' ho.o3
      have hcv := ho.cv hg (by decide)
      rw [e1, e2, e3] at he hcv
      exact ⟨_, _, _, _, _, _, _, _, _, he, hcv⟩
  have HPb : Hid (∀ w5 : World, Below w.heap.size w w5 → Calls Tryz.prog 13 #[S (exT.take 89)] w5 fun e w' => e = .returned (.tuple #[nilC, .int .i64 81, .int .i64 10]) ∧ Below w5.heap.size w5 w') := fun w5 h5 => by
    refine (parse_any (exT.take 89) w5 (by decide) (HE.out.below h5)).mono ?_
    rintro e w' ⟨hr, hb⟩
    refine ⟨?_, hb⟩
    unfold ParseR at hr
    rw [ex_open] at hr
    rcases hr with ⟨_, he⟩ | ⟨h, _⟩ | ⟨h, _⟩
    · exact he
    · exact absurd h (by decide)
    · exact absurd h (by decide)
  have HSm : Hid (∀ (w5 : World) (b1 b2 b3 b4 b5 : Nat) (vb : Value), ExM w5 b1 b2 b3 b4 b5 2 → CV w5 vb exC → Calls Tryz.prog 14 #[exV b1 b5 b2, vb] w5 fun e w' => e = .returned (.bool true) ∧ Below w5.heap.size w5 w') := fun w5 b1 b2 b3 b4 b5 vb hm hv => by
    have := same_any (exK 2) exC _ vb w5 (hm.cv (.inr rfl)) hv
    rw [ex_same] at this
    exact this
  have hT90 : exT.length = 90 := rfl
  clear hE
  go_enter Tryz.func5, Tryz.ntmps5
  have hcT : (([99, 111, 110, 115, 116, 32, 105, 110, 116, 32, 53, 10, 99, 111, 110, 115, 116, 32, 110, 105, 108, 10, 103, 108, 111, 98, 97, 108, 32, 120, 10, 112, 114, 111, 99, 32, 48, 10, 32, 99, 111, 110, 115, 116, 32] : List UInt8).append [48, 10, 32, 115, 101, 116, 103, 108, 111, 98, 97, 108, 32, 48, 10, 32, 114, 101, 116, 117, 114, 110, 10, 112, 114, 111, 99, 32, 49, 10, 32, 118, 97, 114, 32, 48, 10, 32, 114, 101, 116, 117, 114, 110, 10]) = exT := rfl
  rw [hcT]
  clear hcT
  generalize exT = T at *
  go_wp2_with fail
  refine Calls.mono HX.out ?_
  rintro e w1 ⟨⟨b1, b2, b3, b4, b5, rfl, hm, hb5⟩, hb1⟩
  have HW1 : Hid (Wo w (w1.alloc (CO (.slice (some ⟨b1, 0, none⟩) 2 2) (.slice (some ⟨b5, 0, none⟩) 2 2) (.slice (some ⟨b2, 0, none⟩) 1 1))) w1.heap.size b1 b2 b3 b4 b5) := Wo.start hm hb1 hb5
  have hne : w1.heap.size ≠ b5 := by have := heap_lt hm.h5; omega
  have HNe : Hid (w1.heap.size ≠ b5) := hne
  have HK : Hid (Calls Tryz.prog 7 #[exV b1 b5 b2] (w1.alloc (CO (.slice (some ⟨b1, 0, none⟩) 2 2) (.slice (some ⟨b5, 0, none⟩) 2 2) (.slice (some ⟨b2, 0, none⟩) 1 1))) fun e w' => e = .returned (.tuple #[.int .i64 0, .int .i64 0, .int .i64 0]) ∧ Below (w1.alloc (CO (.slice (some ⟨b1, 0, none⟩) 2 2) (.slice (some ⟨b5, 0, none⟩) 2 2) (.slice (some ⟨b2, 0, none⟩) 1 1))).heap.size (w1.alloc (CO (.slice (some ⟨b1, 0, none⟩) 2 2) (.slice (some ⟨b5, 0, none⟩) 2 2) (.slice (some ⟨b2, 0, none⟩) 1 1))) w') := HCk.out _ _ _ _ _ _ HW1.out.bel HW1.out.ex
  clear hm hb1 hb5 HX
  unfold exV
  go_wp2_with fail
  refine Calls.mono HK.out ?_
  rintro e w2 ⟨rfl, hb2⟩
  have HW2 : Hid (Wo w w2 w1.heap.size b1 b2 b3 b4 b5) := HW1.out.next hb2
  obtain ⟨p0, p1, p2⟩ := HW2.out.cells
  have HK2 : Hid (Calls Tryz.prog 12 #[exV b1 b5 b2] w2 fun e w' => e = .returned (.tuple #[S T, .int .i64 0]) ∧ Below w2.heap.size w2 w') := HTx.out _ _ _ _ _ _ HW2.out.bel HW2.out.ex
  clear HK hb2 HW1
  go_wp2_with fail
  refine Calls.mono HK2.out ?_
  rintro e w3 ⟨rfl, hb3⟩
  have HW3 : Hid (Wo w w3 w1.heap.size b1 b2 b3 b4 b5) := HW2.out.next hb3
  have HK3 : Hid (Calls Tryz.prog 13 #[S T] w3 fun e w' => (∃ r1 n1 d1 r2 n2 d2 r3 n3 d3, e = .returned (.tuple #[.agg #[.slice r1 n1 d1, .slice r2 n2 d2, .slice r3 n3 d3], .int .i64 0, .int .i64 0]) ∧ CV w' (.agg #[.slice r1 n1 d1, .slice r2 n2 d2, .slice r3 n3 d3]) exC) ∧ Below w3.heap.size w3 w') := HPa.out w3 HW3.out.bel
  clear HK2 hb3 HW2 p0 p1 p2
  go_wp2_with fail
  refine Calls.mono HK3.out ?_
  rintro e w4 ⟨⟨r1, n1, d1, r2, n2, d2, r3, n3, d3, rfl, hcv⟩, hb4⟩
  have hal4 : Below w4.heap.size w4 (w4.alloc (CO (.slice r1 n1 d1) (.slice r2 n2 d2) (.slice r3 n3 d3))) := (Below.refl _ w4).alloc (Nat.le_refl _) _
  have HW4 : Hid (Wo w (w4.alloc (CO (.slice r1 n1 d1) (.slice r2 n2 d2) (.slice r3 n3 d3))) w1.heap.size b1 b2 b3 b4 b5) := (HW3.out.next hb4).next hal4
  obtain ⟨p0, p1, p2⟩ := (HW3.out.next hb4).cells
  have hl4 : w1.heap.size < w4.heap.size := heap_lt (HW3.out.next hb4).blk
  have HK4 : Hid (Calls Tryz.prog 14 #[exV b1 b5 b2, .agg #[.slice r1 n1 d1, .slice r2 n2 d2, .slice r3 n3 d3]] (w4.alloc (CO (.slice r1 n1 d1) (.slice r2 n2 d2) (.slice r3 n3 d3))) fun e w' => e = .returned (.bool true) ∧ Below (w4.alloc (CO (.slice r1 n1 d1) (.slice r2 n2 d2) (.slice r3 n3 d3))).heap.size (w4.alloc (CO (.slice r1 n1 d1) (.slice r2 n2 d2) (.slice r3 n3 d3))) w') := HSm.out _ _ _ _ _ _ _ HW4.out.ex (hcv.below hal4)
  clear HK3 hb4 HW3 hcv hal4
  go_wp2_with fail
  refine Calls.mono HK4.out ?_
  rintro e w5 ⟨rfl, hb5⟩
  have HW5 : Hid (Wo w w5 w1.heap.size b1 b2 b3 b4 b5) := HW4.out.next hb5
  have HK5 : Hid (Calls Tryz.prog 13 #[S (T.take 89)] w5 fun e w' => e = .returned (.tuple #[nilC, .int .i64 81, .int .i64 10]) ∧ Below w5.heap.size w5 w') := HPb.out w5 HW5.out.bel
  have E1 : S (T.take 89) = Value.string ((ByteArray.mk T.toArray).extract 0 89) := (S_extract0 T 89 (by omega)).symm
  rw [E1] at HK5
  have hsz : (ByteArray.mk T.toArray).size = 90 := hT90
  clear HK4 hb5 HW4 p0 p1 p2 hl4 E1
  go_wp2_with fail
  refine Calls.mono HK5.out ?_
  rintro e w6 ⟨rfl, hb6⟩
  unfold nilC
  have hal6 : Below w6.heap.size w6 (w6.alloc ZC) := (Below.refl _ w6).alloc (Nat.le_refl _) _
  have HW6 : Hid (Wo w w6 w1.heap.size b1 b2 b3 b4 b5) := HW5.out.next hb6
  have hw6 := HW5.out.next hb6
  obtain ⟨p0, p1, p2⟩ := hw6.cells
  have hl6 : w1.heap.size < w6.heap.size := heap_lt hw6.blk
  have hl7 : b5 < w6.heap.size := heap_lt hw6.ex.h5
  have g3 : w6.cell? ⟨b5, 3, none⟩ = some (.slice (some ⟨b4, 0, none⟩) 2 2) := heap_cell hw6.ex.h5 rfl
  have g3f : w6.frozen? ⟨b5, 3, none⟩ = false := by simp [World.frozen?, hw6.ex.h5]
  clear HK5 hb6 HW5 hal6 hw6 HPa HPb HTx HSm HCk
  go_wp2_with fail
  go_region
  go_wp2_with fail
  obtain ⟨q1, q2, _⟩ := HW6.out.cut HNe.out rfl
  have hal7 : Below (w6.setCell ⟨b5, 3, none⟩ (.slice (some ⟨b4, 0, none⟩) 1 2)).heap.size (w6.setCell ⟨b5, 3, none⟩ (.slice (some ⟨b4, 0, none⟩) 1 2)) ((w6.setCell ⟨b5, 3, none⟩ (.slice (some ⟨b4, 0, none⟩) 1 2)).alloc ZC).drew := ((Below.refl _ (w6.setCell ⟨b5, 3, none⟩ (.slice (some ⟨b4, 0, none⟩) 1 2))).alloc (Nat.le_refl _) ZC).drew
  have HB7 : Hid (Below w.heap.size w ((w6.setCell ⟨b5, 3, none⟩ (.slice (some ⟨b4, 0, none⟩) 1 2)).alloc ZC).drew) := q1.trans (hal7.mono q1.size)
  refine Calls.mono (HCb.out _ _ _ _ _ _ HB7.out (q2.below hal7)) ?_
  rintro e w8 ⟨rfl, hb8⟩
  have HB8 : Hid (Below w.heap.size w w8) := HB7.out.trans (hb8.mono HB7.out.size)
  clear hb8 hal7 q1 q2 HB7 HW6 HCb
  go_wp2
  go_ret
  exact ⟨rfl, HB8.out⟩
end Go.Proofs.YtnblieohdngmiabGreatDoor
