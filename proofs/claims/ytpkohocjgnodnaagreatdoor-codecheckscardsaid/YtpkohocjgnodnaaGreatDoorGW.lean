/- The document's digits, and which instructions have a number.; The document's constant.; The document's Names.; Appending of texts to bytes. -/
import Derived.Test.YtpkohocjgnodnaaGreatDoorGO
import Derived.Test.YtpkohocjgnodnaaGreatDoorHZCheck
import Derived.Lib.ItoaLen
import Derived.Lib.ItoaMem
import Derived.Lib.AppendStr
import Derived.Lib.BufferRead
/- The document's digits, and which instructions have a number. -/
namespace Go.Proofs.YtpkohocjgnodnaaGreatDoor
open Go.RowKit

theorem conv_digit (n : Nat) (w : World) : (convert 73 9 (.slice (some ⟨w.heap.size, 0, none⟩) 1 1)).run Tryz.prog (w.alloc (.cells #[.int .u8 (48 + (n : Int) % 10)] 5)) = .ok (S [UInt8.ofNat (48 + n % 10)]) (w.alloc (.cells #[.int .u8 (48 + (n : Int) % 10)] 5)) := by
  refine run_convert_bytes_back (P := Tryz.prog) (w.alloc (.cells #[.int .u8 (48 + (n : Int) % 10)] 5)) 73 9 5 ⟨w.heap.size, 0, none⟩ 1 [UInt8.ofNat (48 + n % 10)] Tryz.underlying73 Tryz.underlying5 Tryz.underlying9 (fun j hj => ?_)
  have : j = 0 := by simpa using hj
  subst this
  show (w.alloc _).cell? ⟨w.heap.size, 0, none⟩ = _
  rw [World.cell?_alloc_mark]
  have e : (UInt8.ofNat (48 + n % 10)).toNat = 48 + n % 10 := by
    rw [UInt8.toNat_ofNat']; omega
  simp
  omega

set_option maxRecDepth 100000 in
set_option maxHeartbeats 4000000 in
theorem digits_nat : ∀ (N n : Nat), n ≤ N → n ≤ 9223372036854775807 → ∀ w : World,
    Calls Tryz.prog 27 #[.int .i64 (n : Int)] w fun e w' => e = .returned (S (Lib.decDigits n)) ∧ Below w.heap.size w w' := by
  intro N
  induction N using Nat.strongRecOn with
  | _ N ih =>
  intro n hN hn w
  have HI : Hid (∀ m, m < N → ∀ n, n ≤ m → n ≤ 9223372036854775807 → ∀ w : World, Calls Tryz.prog 27 #[.int .i64 (n : Int)] w fun e w' => e = .returned (S (Lib.decDigits n)) ∧ Below w.heap.size w w') := ih
  clear ih
  have i0 : ¬ ((n : Int) < 0) := by omega
  have kc := conv_digit n
  obtain ⟨c, hc⟩ : ∃ c, UInt8.ofNat (48 + n % 10) = c := ⟨_, rfl⟩
  have Hc : Hid _ := hc
  rw [hc] at kc
  clear hc
  have Hal : Hid (Below w.heap.size w (w.alloc (.cells #[.int .u8 (48 + (n : Int) % 10)] 5))) := (Below.refl _ w).alloc (Nat.le_refl _) _
  by_cases h : n < 10
  · have i1 : (n : Int) < 10 := by omega
    have HV : Hid (Lib.decDigits n = [c]) := by show _ = _; rw [← Hc.out, Lib.decDigits_one h, Nat.mod_eq_of_lt h]
    go_enter Tryz.func27, Tryz.ntmps27
    go_wp2
    go_ret
    exact ⟨by rw [HV.out]; rfl, Hal.out⟩
  · have i1 : ¬ (n : Int) < 10 := by omega
    have HV : Hid (Lib.decDigits n = Lib.decDigits (n / 10) ++ [c]) := by
      show _ = _; rw [← Hc.out]; conv => lhs; rw [Lib.decDigits, dif_neg h]
    have hlen : (Lib.decDigits (n / 10)).length ≤ 21 := by
      have := Lib.itoa_length_le ((n / 10 : Nat) : Int) (by omega) (by omega)
      rwa [Lib.itoa_nonneg] at this
    go_enter Tryz.func27, Tryz.ntmps27
    go_wp2_with fail
    refine (HI.out (n / 10) (by omega) (n / 10) (Nat.le_refl _) (by omega) _).mono ?_
    rintro e w2 ⟨rfl, hb2⟩
    have HB2 : Hid (Below w.heap.size w w2) := Hal.out.trans (hb2.mono Hal.out.size)
    clear hb2
    go_wp2
    go_ret
    exact ⟨by rw [HV.out]; rfl, HB2.out⟩

set_option maxRecDepth 100000 in
set_option maxHeartbeats 4000000 in
theorem digits_any (n : Int) (h0 : -9223372036854775807 ≤ n) (h1 : n ≤ 9223372036854775807) (w : World) :
    Calls Tryz.prog 27 #[.int .i64 n] w fun e w' => e = .returned (S (Lib.itoa n)) ∧ Below w.heap.size w w' := by
  by_cases h : n < 0
  · obtain ⟨m, hm⟩ : ∃ m : Nat, n = -(m : Int) := ⟨n.natAbs, by omega⟩
    subst hm
    have HV : Hid (Lib.itoa (-(m : Int)) = 45 :: Lib.decDigits m) := by show _ = _; exact Lib.itoa_neg m (by omega)
    have hlen : (Lib.decDigits m).length ≤ 21 := by
      have := Lib.itoa_length_le (m : Int) (by omega) (by omega)
      rwa [Lib.itoa_nonneg] at this
    have hm0 : m ≤ 9223372036854775807 := by omega
    go_enter Tryz.func27, Tryz.ntmps27
    go_wp2_with fail
    refine (digits_nat m m (Nat.le_refl _) hm0 _).mono ?_
    rintro e w2 ⟨rfl, hb2⟩
    have HB2 : Hid (Below w.heap.size w w2) := hb2
    clear hb2
    go_wp2
    go_ret
    exact ⟨by rw [HV.out]; rfl, HB2.out⟩
  · obtain ⟨m, hm⟩ : ∃ m : Nat, n = (m : Int) := ⟨n.toNat, by omega⟩
    subst hm
    rw [Lib.itoa_nonneg]
    exact digits_nat m m (Nat.le_refl _) (by omega) w

set_option maxRecDepth 100000 in
set_option maxHeartbeats 4000000 in
theorem dHas_any (op : Int) (w : World) :
    Calls Tryz.prog 28 #[.int .u8 op] w fun e w' => e = .returned (.bool (opNumB op)) ∧ w' = w := by
  by_cases hin : op = 7 ∨ op = 12 ∨ op = 14 ∨ op = 15 ∨ op = 16 ∨ op = 17 ∨ op = 18
  · rcases hin with h | h | h | h | h | h | h
    all_goals
      subst h
      go_enter Tryz.func28, Tryz.ntmps28
      go_wp2
      go_ret
      exact ⟨rfl, rfl⟩
  · have h1 : (op == 7) = false := by simp; omega
    have h2 : (op == 12) = false := by simp; omega
    have h3 : (op == 14) = false := by simp; omega
    have h4 : (op == 15) = false := by simp; omega
    have h5 : (op == 16) = false := by simp; omega
    have h6 : (op == 17) = false := by simp; omega
    have h7 : (op == 18) = false := by simp; omega
    have HV : Hid (opNumB op = true) := by show _ = _; unfold opNumB; rw [h1, h2, h3, h4, h5, h6, h7]; rfl
    clear hin
    go_enter Tryz.func28, Tryz.ntmps28
    go_wp2
    go_ret
    exact ⟨by rw [HV.out]; rfl, rfl⟩
end Go.Proofs.YtpkohocjgnodnaaGreatDoor

/- The document's constant. -/
namespace Go.Proofs.YtpkohocjgnodnaaGreatDoor
open Go.RowKit

theorem const_tag {x : Int} (h : isConstB x = true) : 1 ≤ ofT x ∧ ofT x ≤ 7 := by
  have h1 := (const_fits h).1
  refine ⟨?_, h1.2⟩
  unfold isConstB wd at h
  unfold ofT
  simp only [Bool.and_eq_true] at h
  have h2 := h.1.1
  have h3 : wd x = true := by unfold wd; rw [h.1.1, h.1.2]; rfl
  rw [if_pos h3]
  unfold isTagB at h2
  simp at h2
  omega
set_option maxRecDepth 100000 in
set_option maxHeartbeats 4000000 in
theorem dConst_any (x : Int) (w : World) (hx : Rng x) (ht : 1 ≤ ofT x ∧ ofT x ≤ 7) (hn : -9223372036854775807 ≤ ofN x ∧ ofN x ≤ 9223372036854775807) :
    Calls Tryz.prog 25 #[.int .u64 x] w fun e w' => e = .returned (S ([99, 111, 110, 115, 116, 32] ++ (constT x ++ [10]))) ∧ Below w.heap.size w w' := by
  have HO : Hid (Calls Tryz.prog 22 #[.int .u64 x] w fun e w' => e = .returned (.tuple #[.int .u8 (ofT x), .int .i64 (ofN x), .bool (wd x)]) ∧ w' = w) := refOf_any x w hx
  have HD : Hid (∀ w5 : World, Calls Tryz.prog 27 #[.int .i64 (ofN x)] w5 fun e w' => e = .returned (S (Lib.itoa (ofN x))) ∧ Below w5.heap.size w5 w') := fun w5 => digits_any _ hn.1 hn.2 w5
  have hil : (Lib.itoa (ofN x)).length ≤ 100 := Nat.le_trans (Lib.itoa_length_le _ (by omega) (by omega)) (by decide)
  have HV : Hid (constT x = if tagNumB (ofT x) then tagNames.getD (ofT x).toNat [] ++ ([32] ++ Lib.itoa (ofN x)) else tagNames.getD (ofT x).toNat []) := rfl
  generalize Lib.itoa (ofN x) = dg at HD hil HV
  generalize ofN x = n at HO HD HV
  generalize ofT x = t at HO HV ht
  generalize constT x = T at HV ⊢
  generalize hR : [99, 111, 110, 115, 116, 32] ++ (T ++ [10]) = R
  have HR : Hid ([99, 111, 110, 115, 116, 32] ++ (T ++ [10]) = R) := hR
  clear hR
  clear hn hx
  have hc : t = 1 ∨ t = 2 ∨ t = 3 ∨ t = 4 ∨ t = 5 ∨ t = 6 ∨ t = 7 := by omega
  clear ht
  rcases hc with rfl | rfl | rfl | rfl | rfl | rfl | rfl
  · clear HD
    have HV2 : Hid (R = [99, 111, 110, 115, 116, 32] ++ ([110, 105, 108] ++ [(10 : UInt8)])) := by show _ = _; rw [← HR.out, HV.out]; rfl
    clear HV HR
    go_enter Tryz.func25, Tryz.ntmps25
    go_wp2_with fail
    refine Calls.mono HO.out ?_
    rintro e w1 ⟨rfl, rfl⟩
    go_wp2
    go_ret
    exact ⟨by rw [HV2.out]; rfl, Below.refl _ _⟩
  · clear HD
    have HV2 : Hid (R = [99, 111, 110, 115, 116, 32] ++ ([102, 97, 108, 115, 101] ++ [(10 : UInt8)])) := by show _ = _; rw [← HR.out, HV.out]; rfl
    clear HV HR
    go_enter Tryz.func25, Tryz.ntmps25
    go_wp2_with fail
    refine Calls.mono HO.out ?_
    rintro e w1 ⟨rfl, rfl⟩
    go_wp2
    go_ret
    exact ⟨by rw [HV2.out]; rfl, Below.refl _ _⟩
  · clear HD
    have HV2 : Hid (R = [99, 111, 110, 115, 116, 32] ++ ([116, 114, 117, 101] ++ [(10 : UInt8)])) := by show _ = _; rw [← HR.out, HV.out]; rfl
    clear HV HR
    go_enter Tryz.func25, Tryz.ntmps25
    go_wp2_with fail
    refine Calls.mono HO.out ?_
    rintro e w1 ⟨rfl, rfl⟩
    go_wp2
    go_ret
    exact ⟨by rw [HV2.out]; rfl, Below.refl _ _⟩
  · clear HD
    have HV2 : Hid (R = [99, 111, 110, 115, 116, 32] ++ ([110, 111, 110, 101] ++ [(10 : UInt8)])) := by show _ = _; rw [← HR.out, HV.out]; rfl
    clear HV HR
    go_enter Tryz.func25, Tryz.ntmps25
    go_wp2_with fail
    refine Calls.mono HO.out ?_
    rintro e w1 ⟨rfl, rfl⟩
    go_wp2
    go_ret
    exact ⟨by rw [HV2.out]; rfl, Below.refl _ _⟩
  · have HV2 : Hid (R = ([99, 111, 110, 115, 116, 32, 105, 110, 116, 32] ++ dg) ++ [(10 : UInt8)]) := by show _ = _; rw [← HR.out, HV.out]; rfl
    clear HV HR
    go_enter Tryz.func25, Tryz.ntmps25
    go_wp2_with fail
    refine Calls.mono HO.out ?_
    rintro e w1 ⟨rfl, rfl⟩
    go_wp2_with fail
    refine (HD.out _).mono ?_
    rintro e w2 ⟨rfl, hb2⟩
    have HB2 : Hid (Below w1.heap.size w1 w2) := hb2
    clear hb2
    go_wp2
    go_ret
    exact ⟨by rw [HV2.out]; rfl, HB2.out⟩
  · have HV2 : Hid (R = ([99, 111, 110, 115, 116, 32, 115, 121, 109, 98, 111, 108, 32] ++ dg) ++ [(10 : UInt8)]) := by show _ = _; rw [← HR.out, HV.out]; rfl
    clear HV HR
    go_enter Tryz.func25, Tryz.ntmps25
    go_wp2_with fail
    refine Calls.mono HO.out ?_
    rintro e w1 ⟨rfl, rfl⟩
    go_wp2_with fail
    refine (HD.out _).mono ?_
    rintro e w2 ⟨rfl, hb2⟩
    have HB2 : Hid (Below w1.heap.size w1 w2) := hb2
    clear hb2
    go_wp2
    go_ret
    exact ⟨by rw [HV2.out]; rfl, HB2.out⟩
  · have HV2 : Hid (R = ([99, 111, 110, 115, 116, 32, 112, 114, 105, 109, 32] ++ dg) ++ [(10 : UInt8)]) := by show _ = _; rw [← HR.out, HV.out]; rfl
    clear HV HR
    go_enter Tryz.func25, Tryz.ntmps25
    go_wp2_with fail
    refine Calls.mono HO.out ?_
    rintro e w1 ⟨rfl, rfl⟩
    go_wp2_with fail
    refine (HD.out _).mono ?_
    rintro e w2 ⟨rfl, hb2⟩
    have HB2 : Hid (Below w1.heap.size w1 w2) := hb2
    clear hb2
    go_wp2
    go_ret
    exact ⟨by rw [HV2.out]; rfl, HB2.out⟩

end Go.Proofs.YtpkohocjgnodnaaGreatDoor

/- The document's Names. -/
namespace Go.Proofs.YtpkohocjgnodnaaGreatDoor
open Go.RowKit

/-- The names of instructions in a row. -/
def NS (w : World) (b : Nat) : Prop := ∃ cs : Array Value, w.heap[b]? = some (.cells cs 9 (0, 0)) ∧ ∀ j : Nat, j < 19 → cs[j]? = some (S (opNames.getD j []))

set_option maxRecDepth 100000 in
set_option maxHeartbeats 4000000 in
theorem dNames_any (w : World) :
    Calls Tryz.prog 26 #[] w fun e w' => (∃ b, e = .returned (.slice (some ⟨b, 0, none⟩) 19 19) ∧ NS w' b) ∧ Below w.heap.size w w' := by
  go_enter Tryz.func26, Tryz.ntmps26
  go_wp2
  go_ret
  refine ⟨⟨w.heap.size, rfl, _, heap_alloc_new _ _, fun j hj => ?_⟩, (Below.refl _ w).alloc (Nat.le_refl _) _⟩
  have : j = 0 ∨ j = 1 ∨ j = 2 ∨ j = 3 ∨ j = 4 ∨ j = 5 ∨ j = 6 ∨ j = 7 ∨ j = 8 ∨ j = 9 ∨ j = 10 ∨ j = 11 ∨ j = 12 ∨ j = 13 ∨ j = 14 ∨ j = 15 ∨ j = 16 ∨ j = 17 ∨ j = 18 := by omega
  rcases this with rfl | rfl | rfl | rfl | rfl | rfl | rfl | rfl | rfl | rfl | rfl | rfl | rfl | rfl | rfl | rfl | rfl | rfl | rfl
  all_goals rfl
end Go.Proofs.YtpkohocjgnodnaaGreatDoor

/- Appending of texts to bytes. -/
namespace Go.Proofs.YtpkohocjgnodnaaGreatDoor
open Go.RowKit

/-- Bytes of one's own. -/
def BO (B : Nat) (m : List UInt8) (v : Value) (w : World) : Prop := w.ownsRow B 5 1 v m.length (Lib.byteCells m)
theorem info8 : (Tryz.prog.info? 5).map (fun i => (i.zero, i.size, i.bytes)) = some (some (.int .u8 0), 1, 1) := by kernel_rfl
theorem BO.blk {B : Nat} {m : List UInt8} {v : Value} {w : World} (h : BO B m v w) {g : Nat} (hg : v.ownBlock = some g) : B ≤ g ∧ g < w.heap.size := by
  rcases h.2 with ⟨rfl, _⟩ | ⟨g', cap, cur, rfl, hb, hh, _⟩
  · simp [Value.ownBlock] at hg
  · simp only [Value.ownBlock, Option.some.injEq] at hg
    subst hg
    exact ⟨hb, (Array.getElem?_eq_some_iff.1 hh).1⟩
theorem BO.below {B : Nat} {m : List UInt8} {v : Value} {w w' : World} (h : BO B m v w) (hb : Below w.heap.size w w') : BO B m v w' := own_same h (fun g hg => hb.block g (h.blk hg).2)
theorem NS.below {b : Nat} {w w' : World} (h : NS w b) (hb : Below w.heap.size w w') : NS w' b := by
  obtain ⟨cs, h1, h2⟩ := h
  exact ⟨cs, (hb.block b (heap_lt h1)).trans h1, h2⟩
theorem NS.grown {B b : Nat} {m : List UInt8} {v : Value} {w w' : World} (h : NS w b) (hv : BO B m v w) (hg : w.grownBy w' v.ownBlock) : NS w' b := by
  obtain ⟨cs, h1, h2⟩ := h
  refine ⟨cs, (hg.block b (heap_lt h1) (fun e => ?_)).trans h1, h2⟩
  obtain ⟨cs', h3⟩ := own_blk hv e.symm
  rw [h1] at h3
  injection h3 with h4
  injection h4 with _ h5
  exact absurd h5 (by decide)
theorem NS.at {b : Nat} {w : World} (h : NS w b) {j : Nat} (hj : j < 19) : w.cell? ⟨b, j, none⟩ = some (S (opNames.getD j [])) ∧ b < w.heap.size := by
  obtain ⟨cs, h1, h2⟩ := h
  exact ⟨heap_cell h1 (h2 j hj), heap_lt h1⟩
/-- append of a text. -/
theorem wpList_append_text {w : World} {ops : Array Oper} {rest : List Oper} {o : Oper} {a : Act} {Q : Exit → Act → World → Prop} (hgd : o.guard = none) (sl x : Operand)
    (ho : o.op = .call { callee := .builtin .append, args := #[sl, x], argTypes := #[73, 9] }) (B : Nat) (m t : List UInt8) (v : Value) (s : ByteArray) (hs : a.eval sl = v) (hx : a.eval x = .string s) (hst : s = ⟨t.toArray⟩)
    (hv : BO B m v w) (hl : m.length + t.length ≤ 140737488355328) (hB : B ≤ w.heap.size)
    (h : ∀ v' w', BO B (m ++ t) v' w' → Below B w w' → w.grownBy w' v.ownBlock → wpList Tryz.prog ops Q rest (a.put o.dst v') w') : wpList Tryz.prog ops Q (o :: rest) a w := by
  subst hst
  cases hi : Tryz.prog.info? 5 with
  | none => exact absurd info8 (by rw [hi]; simp)
  | some i =>
  have h8 := info8
  rw [hi] at h8
  simp only [Option.map_some, Option.some.injEq, Prod.mk.injEq] at h8
  have hsz : (⟨t.toArray⟩ : ByteArray).size = t.length := by show t.toArray.size = _; simp
  have hcs : Lib.strCells ⟨t.toArray⟩ = Lib.byteCells t := rfl
  refine Lib.wpList_append_own_string w hgd sl x _ _ ho B 5 i Tryz.underlying73 Tryz.underlying9 hi h8.1 h8.2.1 h8.2.2 v m.length (Lib.byteCells m) hs hv _ hx (by rw [hsz]; unfold maxLen; omega) (by rw [hsz]; omega) hB ?_
  intro v' w' h1 h2 _
  refine h v' w' ?_ ((Below.refl B w).grown h2 hB (fun g hg => (hv.blk hg).1)) h2
  rw [hsz, hcs] at h1
  unfold BO
  rw [List.length_append]
  unfold Lib.byteCells at h1 ⊢
  rw [List.map_append]
  exact h1
/-- The text of bytes of one's own. -/
theorem conv_own {B : Nat} {m : List UInt8} {v : Value} {w : World} (h : BO B m v w) : (convert 73 9 v).run Tryz.prog w = .ok (S m) w := by
  rcases h.2 with ⟨rfl, h0⟩ | ⟨g, cap, cur, rfl, hb, hh, hnc, hcm, hcs, htk⟩
  · have hm : m = [] := List.eq_nil_of_length_eq_zero h0
    subst hm
    exact Lib.run_convert_nil_bytes w _ _ 5 0 Tryz.underlying73 Tryz.underlying5 Tryz.underlying9
  · exact run_convert_bytes_back (P := Tryz.prog) w 73 9 5 ⟨g, 0, none⟩ cap m Tryz.underlying73 Tryz.underlying5 Tryz.underlying9 (Lib.bytes_of_row hh (by simpa using htk))
theorem const_num {x : Int} (h : isConstB x = true) : -9223372036854775807 ≤ ofN x ∧ ofN x ≤ 9223372036854775807 := by
  unfold isConstB at h
  rw [Bool.and_eq_true, bne_iff_ne] at h
  obtain ⟨h1, h2⟩ := h
  unfold ofT at h2
  unfold ofN
  rw [if_pos h1] at h2 ⊢
  unfold wd at h1
  rw [Bool.and_eq_true, isTag_iff, may_iff] at h1
  obtain ⟨⟨a, b⟩, d, e⟩ := h1
  have hlo : -9223372036854775807 ≤ lo (tg x) := by unfold lo; (repeat' split) <;> omega
  have hhi : hi (tg x) ≤ 9223372036854775807 := by unfold hi; (repeat' split) <;> omega
  exact ⟨by omega, by omega⟩
end Go.Proofs.YtpkohocjgnodnaaGreatDoor
