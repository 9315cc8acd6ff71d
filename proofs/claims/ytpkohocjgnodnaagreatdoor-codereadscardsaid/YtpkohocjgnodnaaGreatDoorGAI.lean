/- Texts of constants and of instructions.; The text of a constant.; constText, instrText.; instrText.; What stands of code that may be; the text of code. -/
import Derived.Test.YtpkohocjgnodnaaGreatDoorGAH
import Derived.Deep.RegionHeld3
import Derived.Laws.Concat
import Derived.Lib.ItoaLen
/- Texts of constants and of instructions. -/
namespace Go.Proofs.YtpkohocjgnodnaaGreatDoor
open Go.RowKit

def tagNumB (t : Int) : Bool := decide (5 ≤ t)
def opNumB (op : Int) : Bool := !(op == 7 || op == 12 || op == 14 || op == 15 || op == 16 || op == 17 || op == 18)

theorem tagHasNumber_any (t : Int) (w : World) :
    Calls Tryz.prog 115 #[.int .u8 t] w fun e w' => e = .returned (.bool (tagNumB t)) ∧ w' = w := by
  go_enter Tryz.func115, Tryz.ntmps115
  go_wp2
  all_goals go_ret
  all_goals exact ⟨ret_bool (by unfold tagNumB; rw [Bool.eq_iff_iff]), rfl⟩

set_option maxRecDepth 100000 in
set_option maxHeartbeats 4000000 in
theorem hasNumber_any (op : Int) (w : World) :
    Calls Tryz.prog 118 #[.int .u8 op] w fun e w' => e = .returned (.bool (opNumB op)) ∧ w' = w := by
  by_cases hin : op = 7 ∨ op = 12 ∨ op = 14 ∨ op = 15 ∨ op = 16 ∨ op = 17 ∨ op = 18
  · rcases hin with h | h | h | h | h | h | h
    all_goals
      subst h
      go_enter Tryz.func118, Tryz.ntmps118
      go_wp2
      go_ret
      exact ⟨rfl, rfl⟩
  · have h1 : (op == 7) = false := by simp; omega
    have h2 : (op == 12) = false := by simp; omega
    have h3 : (op == 14) = false := by simp; omega
    have h4 : (op == 15) = false := by simp; omega
    have h5 : (op == 16) = false := by simp; omega
    have h6 : (op == 17) = false := by simp; omega
    have h7 : (op == 18) = false := by simp; omega
    have HV : Hid (opNumB op = true) := by show _ = _; unfold opNumB; rw [h1, h2, h3, h4, h5, h6, h7]; rfl
    clear hin
    go_enter Tryz.func118, Tryz.ntmps118
    go_wp2
    go_ret
    exact ⟨by rw [HV.out]; rfl, rfl⟩
end Go.Proofs.YtpkohocjgnodnaaGreatDoor

/- The text of a constant. -/
namespace Go.Proofs.YtpkohocjgnodnaaGreatDoor
open Go.RowKit

/-- The table of powers of ten. -/
def TB (w : World) : Prop := Lib.TabIs Tryz.prog w "internal/strconv.uint64pow10" .u64 Lib.pow10Tab
theorem TB.below {w w' : World} (h : TB w) (hb : Below w.heap.size w w') : TB w' := by
  unfold TB Lib.TabIs World.var? at *
  cases hg : Tryz.prog.globalNamed "internal/strconv.uint64pow10" with
  | none => rw [hg] at h; cases h
  | some g =>
    rw [hg] at h
    simp only [Option.bind_some] at h ⊢
    cases ho : w.heap[g]? with
    | none => rw [ho] at h; cases h
    | some o => rw [hb.block g (Array.getElem?_eq_some_iff.1 ho).1, ho]; rw [ho] at h; exact h


theorem below_grow (w : World) (k : Nat) (os : Array Obj) : Below w.heap.size w (Go.Sort.grow (w.drewN k) os) :=
  ⟨rfl, rfl, rfl, by show _ ≤ (w.heap ++ os).size; rw [Array.size_append]; omega, fun g hg => by show (w.heap ++ os)[g]? = _; rw [Array.getElem?_append_left hg]⟩
def tagNames : List (List UInt8) := [[], [110, 105, 108], [102, 97, 108, 115, 101], [116, 114, 117, 101], [110, 111, 110, 101], [105, 110, 116], [115, 121, 109, 98, 111, 108], [112, 114, 105, 109]]
def opNames : List (List UInt8) := [[], [99, 111, 110, 115, 116], [118, 97, 114], [115, 101, 116, 118, 97, 114], [103, 108, 111, 98, 97, 108], [115, 101, 116, 103, 108, 111, 98, 97, 108], [99, 108, 111, 115, 117, 114, 101], [112, 111, 112], [106, 117, 109, 112], [98, 114, 97, 110, 99, 104], [99, 97, 108, 108], [116, 97, 105, 108], [114, 101, 116, 117, 114, 110], [112, 114, 105, 109], [115, 112, 97, 119, 110], [106, 111, 105, 110], [108, 111, 99, 107], [117, 110, 108, 111, 99, 107], [121, 105, 101, 108, 100]]
/-- The tables of names. -/
def TN (w : World) : Prop := ∀ j : Nat, j < 8 → w.cell? ⟨0, j, none⟩ = some (S (tagNames.getD j []))
def ON (w : World) : Prop := ∀ j : Nat, j < 19 → w.cell? ⟨1, j, none⟩ = some (S (opNames.getD j []))
theorem TN.lt {w : World} (h : TN w) : 0 < w.heap.size := by
  have := h 0 (by decide)
  rcases Nat.lt_or_ge 0 w.heap.size with h' | h'
  · exact h'
  · simp [World.cell?, Array.getElem?_eq_none h'] at this
theorem ON.lt {w : World} (h : ON w) : 1 < w.heap.size := by
  have := h 0 (by decide)
  rcases Nat.lt_or_ge 1 w.heap.size with h' | h'
  · exact h'
  · simp [World.cell?, Array.getElem?_eq_none h'] at this
theorem TN.below {w w' : World} (h : TN w) (hb : Below w.heap.size w w') : TN w' := fun j hj => (hb.cell (p := ⟨0, j, none⟩) h.lt).trans (h j hj)
theorem ON.below {w w' : World} (h : ON w) (hb : Below w.heap.size w w') : ON w' := fun j hj => (hb.cell (p := ⟨1, j, none⟩) h.lt).trans (h j hj)
def constT (x : Int) : List UInt8 := if tagNumB (ofT x) then tagNames.getD (ofT x).toNat [] ++ ([32] ++ Lib.itoa (ofN x)) else tagNames.getD (ofT x).toNat []
def instrT (x : Ins) : List UInt8 := if opNumB x.op then opNames.getD x.op.toNat [] ++ ([32] ++ Lib.itoa x.a) else opNames.getD x.op.toNat []
end Go.Proofs.YtpkohocjgnodnaaGreatDoor

/- constText, instrText. -/
namespace Go.Proofs.YtpkohocjgnodnaaGreatDoor
open Go.RowKit

theorem keepT {W W' : World} {g k : Nat} {v : Value} (hb : Below W.heap.size W W') (h : W.cell? ⟨g, k, none⟩ = some v ∧ g < W.heap.size) : W'.cell? ⟨g, k, none⟩ = some v ∧ g < W'.heap.size :=
  ⟨(hb.cell (p := ⟨g, k, none⟩) h.2).trans h.1, Nat.lt_of_lt_of_le h.2 hb.size⟩
theorem fmt_any (n : Int) (h0 : -9223372036854775808 ≤ n) (h1 : n ≤ 9223372036854775807) (w : World) (hT : TB w) :
    Calls Tryz.prog 116 #[.int .i64 n, .int .i64 10] w fun e w' => e = .returned (S (Lib.itoa n)) ∧ Below w.heap.size w w' := by
  refine (Tryz.strconv_FormatInt_10 n h0 h1 w hT).mono ?_
  rintro e w1 ⟨rfl, kk, os, rfl⟩
  exact ⟨rfl, below_grow w kk os⟩
theorem itoa_any (n : Int) (h0 : -9223372036854775808 ≤ n) (h1 : n ≤ 9223372036854775807) (w : World) (hT : TB w) :
    Calls Tryz.prog 86 #[.int .i64 n] w fun e w' => e = .returned (S (Lib.itoa n)) ∧ Below w.heap.size w w' := by
  refine (Tryz.strconv_Itoa n h0 h1 w hT).mono ?_
  rintro e w1 ⟨rfl, kk, os, rfl⟩
  exact ⟨rfl, below_grow w kk os⟩

theorem add_run (x y : List UInt8) (hx : x.length ≤ 8388608) (hy : y.length ≤ 8388608) (w : World) : (Op.stringOp .add ⟨x.toArray⟩ ⟨y.toArray⟩).run Tryz.prog w = .ok (S (x ++ y)) w :=
  run_string_add_lists w x y (by omega) (by omega)
theorem names_len : ∀ j : Nat, j < 8 → (tagNames.getD j []).length ≤ 100 := by decide
set_option maxRecDepth 100000 in
set_option maxHeartbeats 4000000 in
theorem constText_any (x : Int) (w : World) (hx : Rng x) (hT : Tab w) (hN : TN w) (hB : TB w) (ht : 0 ≤ ofT x ∧ ofT x ≤ 7) (hn : -9223372036854775808 ≤ ofN x ∧ ofN x ≤ 9223372036854775807) :
    Calls Tryz.prog 85 #[.int .u64 x] w fun e w' => e = .returned (S (constT x)) ∧ Below w.heap.size w w' := by
  obtain ⟨k, hk⟩ : ∃ k : Nat, ofT x = (k : Int) := ⟨(ofT x).toNat, by omega⟩
  have hk8 : k < 8 := by omega
  have hkI : (k : Int) < 8 := by omega
  have c1 : w.cell? ⟨0, k, none⟩ = some (S (tagNames.getD k [])) := hN k hk8
  have c2 : 0 < w.heap.size := hN.lt
  have HB : Hid (TB w) := hB
  have HO : Hid (Calls Tryz.prog 106 #[.int .u64 x] w fun e w' => e = .returned (.tuple #[.int .u8 k, .int .i64 (ofN x), .bool (wd x)]) ∧ w' = w) := by
    have := of_any x w hx hT
    rw [hk] at this
    exact this
  have HV : Hid (constT x = if tagNumB k then tagNames.getD k [] ++ ([32] ++ Lib.itoa (ofN x)) else tagNames.getD k []) := by show _ = _; unfold constT; rw [hk]; rfl
  have HF : Hid (∀ w5 : World, Below w.heap.size w w5 → Calls Tryz.prog 116 #[.int .i64 (ofN x), .int .i64 10] w5 fun e w' => e = .returned (S (Lib.itoa (ofN x))) ∧ Below w5.heap.size w5 w') := fun w5 h5 => fmt_any _ hn.1 hn.2 w5 (HB.out.below h5)
  have hil : (Lib.itoa (ofN x)).length ≤ 100 := Nat.le_trans (Lib.itoa_length_le _ (by omega) (by omega)) (by decide)
  have hnl := names_len k hk8
  generalize tagNames.getD k [] = nm at c1 HV hnl
  have r1 := add_run nm [32] (by omega) (by decide)
  have r2 := add_run (nm ++ [32]) (Lib.itoa (ofN x)) (by rw [List.length_append]; simp; omega) (by omega)
  clear hil hnl
  clear hx hT hN hB ht hn
  go_enter Tryz.func85, Tryz.ntmps85
  go_wp2_with fail
  refine Calls.mono HO.out ?_
  rintro e w' ⟨rfl, rfl⟩
  go_wp2_with fail
  refine (tagHasNumber_any k _).mono ?_
  rintro e w'' ⟨rfl, rfl⟩
  cases htn : tagNumB k
  · have HV2 : Hid (constT x = nm) := by show _ = _; rw [HV.out, htn]; rfl
    clear htn
    go_wp2
    go_ret
    exact ⟨by rw [HV2.out]; rfl, Below.refl _ _⟩
  · have HV2 : Hid (constT x = nm ++ ([32] ++ Lib.itoa (ofN x))) := by show _ = _; rw [HV.out, htn]; rfl
    clear htn
    have hmx : Tryz.prog.follows .mixedOrders = true := by kernel_rfl
    go_wp2_with fail
    go_region_held3 (fun wx => wx.cell? ⟨0, k, none⟩ = some (S nm) ∧ 0 < wx.heap.size) (first | go_keep | exact keepT hb3 (by go_keep))
      (first | (go_at_call 116; refine (HF.out _ (Below.refl _ _).drew).mono ?_; rintro e w3 ⟨rfl, hb3⟩))
    go_wp2
    go_ret
    exact ⟨by rw [HV2.out]; rfl, (Below.refl _ w'').drew.trans hb3⟩
end Go.Proofs.YtpkohocjgnodnaaGreatDoor

/- instrText. -/
namespace Go.Proofs.YtpkohocjgnodnaaGreatDoor
open Go.RowKit

theorem keepI {W W' : World} {g k b : Nat} {v u0 u1 : Value} (hb : Below W.heap.size W W') (h : (W.cell? ⟨g, k, none⟩ = some v ∧ g < W.heap.size) ∧ (W.cell? ⟨b, 0, none⟩ = some u0 ∧ W.cell? ⟨b, 1, none⟩ = some u1) ∧ b < W.heap.size) :
    (W'.cell? ⟨g, k, none⟩ = some v ∧ g < W'.heap.size) ∧ (W'.cell? ⟨b, 0, none⟩ = some u0 ∧ W'.cell? ⟨b, 1, none⟩ = some u1) ∧ b < W'.heap.size :=
  ⟨keepT hb h.1, ⟨(hb.cell (p := ⟨b, 0, none⟩) h.2.2).trans h.2.1.1, (hb.cell (p := ⟨b, 1, none⟩) h.2.2).trans h.2.1.2⟩, Nat.lt_of_lt_of_le h.2.2 hb.size⟩
theorem opNames_len : ∀ j : Nat, j < 19 → (opNames.getD j []).length ≤ 100 := by decide

set_option maxRecDepth 100000 in
set_option maxHeartbeats 4000000 in
theorem instrText_any (x : Ins) (w : World) (hN : ON w) (hB : TB w) (ht : 0 ≤ x.op ∧ x.op ≤ 18) (hn : -9223372036854775808 ≤ x.a ∧ x.a ≤ 9223372036854775807) :
    Calls Tryz.prog 87 #[.agg #[.int .u8 x.op, .int .i64 x.a]] w fun e w' => e = .returned (S (instrT x)) ∧ Below w.heap.size w w' := by
  obtain ⟨op, n⟩ := x
  simp only at ht hn ⊢
  obtain ⟨k, rfl⟩ : ∃ k : Nat, op = (k : Int) := ⟨op.toNat, by omega⟩
  have hk8 : k < 19 := by omega
  have hkI : (k : Int) < 19 := by omega
  have hal : Below w.heap.size w (w.alloc (.cells #[.int .u8 k, .int .i64 n] 79)) := (Below.refl _ w).alloc (Nat.le_refl _) _
  have HA : Hid (Below w.heap.size w (w.alloc (.cells #[.int .u8 k, .int .i64 n] 79))) := hal
  have c1 : (w.alloc (.cells #[.int .u8 k, .int .i64 n] 79)).cell? ⟨1, k, none⟩ = some (S (opNames.getD k [])) := hN.below hal k hk8
  have c2 : 1 < (w.alloc (.cells #[.int .u8 k, .int .i64 n] 79)).heap.size := (hN.below hal).lt
  have q := heap_alloc_new w (.cells #[.int .u8 k, .int .i64 n] 79)
  have d0 : (w.alloc (.cells #[.int .u8 k, .int .i64 n] 79)).cell? ⟨w.heap.size, 0, none⟩ = some (.int .u8 k) := by simp only [World.cell?, q]; rfl
  have d1 : (w.alloc (.cells #[.int .u8 k, .int .i64 n] 79)).cell? ⟨w.heap.size, 1, none⟩ = some (.int .i64 n) := by simp only [World.cell?, q]; rfl
  have d2 : w.heap.size < (w.alloc (.cells #[.int .u8 k, .int .i64 n] 79)).heap.size := by simp
  have HB : Hid (TB w) := hB
  have HV : Hid (instrT ⟨k, n⟩ = if opNumB k then opNames.getD k [] ++ ([32] ++ Lib.itoa n) else opNames.getD k []) := by show _ = _; unfold instrT; rfl
  have HF : Hid (∀ w5 : World, Below w.heap.size w w5 → Calls Tryz.prog 86 #[.int .i64 n] w5 fun e w' => e = .returned (S (Lib.itoa n)) ∧ Below w5.heap.size w5 w') := fun w5 h5 => itoa_any _ hn.1 hn.2 w5 (HB.out.below h5)
  have hil : (Lib.itoa n).length ≤ 100 := Nat.le_trans (Lib.itoa_length_le _ (by omega) (by omega)) (by decide)
  have hnl := opNames_len k hk8
  generalize opNames.getD k [] = nm at c1 HV hnl
  have r1 := add_run nm [32] (by omega) (by decide)
  have r2 := add_run (nm ++ [32]) (Lib.itoa n) (by rw [List.length_append]; simp; omega) (by omega)
  clear hil hnl hN hB ht hn hal q
  go_enter Tryz.func87, Tryz.ntmps87
  go_wp2_with fail
  refine (hasNumber_any k _).mono ?_
  rintro e w'' ⟨rfl, rfl⟩
  generalize w.alloc (.cells #[.int .u8 k, .int .i64 n] 79) = W at *
  cases htn : opNumB k
  · have HV2 : Hid (instrT ⟨k, n⟩ = nm) := by show _ = _; rw [HV.out, htn]; rfl
    clear htn
    go_wp2
    go_ret
    exact ⟨by rw [HV2.out]; rfl, HA.out⟩
  · have HV2 : Hid (instrT ⟨k, n⟩ = nm ++ ([32] ++ Lib.itoa n)) := by show _ = _; rw [HV.out, htn]; rfl
    clear htn
    have hmx : Tryz.prog.follows .mixedOrders = true := by kernel_rfl
    go_wp2_with fail
    go_region_held3 (fun wx => (wx.cell? ⟨1, k, none⟩ = some (S nm) ∧ 1 < wx.heap.size) ∧ (wx.cell? ⟨w.heap.size, 0, none⟩ = some (.int .u8 k) ∧ wx.cell? ⟨w.heap.size, 1, none⟩ = some (.int .i64 n)) ∧ w.heap.size < wx.heap.size) (first | go_keep | exact keepI hb3 (by go_keep))
      (first | (go_at_call 86; refine (HF.out _ (HA.out.trans ((Below.refl _ W).drew.mono HA.out.size))).mono ?_; rintro e w3 ⟨rfl, hb3⟩))
    go_wp2
    go_ret
    exact ⟨by rw [HV2.out]; rfl, HA.out.trans (((Below.refl _ W).drew.trans hb3).mono HA.out.size)⟩
end Go.Proofs.YtpkohocjgnodnaaGreatDoor

/- What stands of code that may be; the text of code. -/
namespace Go.Proofs.YtpkohocjgnodnaaGreatDoor

theorem chkPs_ok {nc ng np : Nat} : ∀ (l : List Prc) (j : Nat), (chkPs nc ng np l j).1 = 0 → ∀ p ∈ l, (chkP nc ng np p).1 = 0
  | [], _, _ => fun p hp => by cases hp
  | q :: r, j, h => by
    unfold chkPs at h
    split at h
    · rename_i hq
      intro p hp
      rcases List.mem_cons.1 hp with h1 | h1
      · subst h1; exact hq
      · exact chkPs_ok r (j + 1) h p h1
    · rename_i hq
      exact absurd h hq
theorem chkC_ok {c : Cd} (h : (chkC c).1 = 0) : listsE c = 0 ∧ ∀ p ∈ c.procs, (chkP c.consts.length c.globals.length c.procs.length p).1 = 0 := by
  unfold chkC at h
  split at h
  · rename_i hl
    exact ⟨hl, chkPs_ok c.procs 0 h⟩
  · rename_i hl
    exact absurd h hl
theorem listsE_ok {c : Cd} (h : listsE c = 0) : c.procs.length ≤ 256 ∧ c.consts.length ≤ 1024 ∧ c.globals.length ≤ 64 ∧ c.procs.length ≠ 0 ∧ (∀ x ∈ c.consts, isConstB x = true) ∧ globOk [] c.globals = true := by
  unfold listsE at h
  split at h
  · cases h
  · rename_i h1
    split at h
    · cases h
    · rename_i h2
      split at h
      · rename_i h3
        split at h
        · rename_i h4
          exact ⟨by omega, by omega, by omega, h2, fun x hx => List.all_eq_true.1 h3 x hx, h4⟩
        · cases h
      · cases h
theorem chkP_ok {nc ng np : Nat} {p : Prc} (h : (chkP nc ng np p).1 = 0) : p.code.length ≤ 4096 ∧ p.code.length ≠ 0 ∧ (0 ≤ p.params ∧ p.params ≤ 256) ∧ (∀ x ∈ p.code, isOpB x.op = true ∧ fitsB nc ng np p.code.length x = true) := by
  unfold chkP at h
  split at h
  · cases h
  · rename_i h1
    split at h
    · cases h
    · rename_i h2
      split at h
      · cases h
      · rename_i h3
        exact ⟨by omega, fun e => h2 (.inr (.inr e)), ⟨by omega, by omega⟩, badI_none p.code 0 h3⟩

def constsT : List Int → List UInt8
  | [] => []
  | x :: r => ([99, 111, 110, 115, 116, 32] ++ (constT x ++ [10])) ++ constsT r
def globsT : List (List UInt8) → List UInt8
  | [] => []
  | t :: r => ([103, 108, 111, 98, 97, 108, 32] ++ (t ++ [10])) ++ globsT r
def codeT : List Ins → List UInt8
  | [] => []
  | x :: r => ([32] ++ (instrT x ++ [10])) ++ codeT r
def procsT : List Prc → List UInt8
  | [] => []
  | p :: r => (([112, 114, 111, 99, 32] ++ (Lib.itoa p.params ++ [10])) ++ codeT p.code) ++ procsT r
/-- The text of code. -/
def writtenT (c : Cd) : List UInt8 := constsT c.consts ++ (globsT c.globals ++ procsT c.procs)
end Go.Proofs.YtpkohocjgnodnaaGreatDoor
