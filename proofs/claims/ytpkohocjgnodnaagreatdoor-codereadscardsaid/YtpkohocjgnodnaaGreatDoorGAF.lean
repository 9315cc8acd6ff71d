/- Depths: what the going through all ways leans on.; Depths: the least place that is wrong.; One procedure is checked.; Code is checked. -/
import Derived.Test.YtpkohocjgnodnaaGreatDoorGAC
import Derived.Test.YtpkohocjgnodnaaGreatDoorGAD
import Derived.Test.YtpkohocjgnodnaaGreatDoorGAE
import Derived.OwnWalk
/- Depths: what the going through all ways leans on. -/
namespace Go.Proofs.YtpkohocjgnodnaaGreatDoor
open Go.RowKit

def cntV : List Value → Int
  | _ :: _ :: .int _ c :: r => c + cntV r
  | _ => 0
theorem cntV_ar : ∀ (l : List Ar), cntV (arCells l) = cnt l
  | [] => rfl
  | a :: l => by show a.c + cntV (arCells l) = a.c + cnt l; rw [cntV_ar l]
def msrW (wb mb n : Nat) (w : World) : Nat := match w.heap[mb]?, w.cell? ⟨wb, 1, none⟩ with
  | some (.cells cs _ _), some (.slice _ len _) => (2 * (2 * (n : Int) - cntV cs.toList) + len).toNat
  | _, _ => 0
theorem Wk.slice {w : World} {wb mb base n : Nat} {lv : Value} {m : Sm} (h : Wk w wb mb base n lv m) : ∃ ra cap, lv = .slice ra m.left.length cap := by
  rcases h.hl.2 with ⟨h1, h0⟩ | ⟨g, cap, cur, hv, _⟩
  · exact ⟨none, 0, by rw [h1, h0]⟩
  · exact ⟨_, _, hv⟩
theorem msrW_of {w : World} {wb mb base n : Nat} {lv : Value} {m : Sm} (h : Wk w wb mb base n lv m) : msrW wb mb n w = (far n m).toNat := by
  obtain ⟨ra, cap, rfl⟩ := h.slice
  have c1 : w.cell? ⟨wb, 1, none⟩ = some (.slice ra m.left.length cap) := by simp [World.cell?, h.hw]
  unfold msrW
  rw [h.hm, c1]
  simp only [cntV_ar, far]
theorem far_pass {n : Nat} {m : Sm} (h : Okm n m) (p : Nat) (d : Int) (x : Ins) (hd : -300 * cnt m.met ≤ d ∧ d ≤ 300 * cnt m.met) (hj : x.op = 8 ∨ x.op = 9 → 0 ≤ x.a ∧ x.a < n) (he : endsB x.op = false → p + 1 < n)
    (hpr : x.op = 13 → 1 ≤ x.a ∧ x.a ≤ 22) (hcl : x.op = 10 ∨ x.op = 11 → 0 ≤ x.a ∧ x.a ≤ 256) : far n (passM m p d x) ≤ far n m := by
  have htb := takes_bd x hpr hcl
  have hpb := puts_bd x
  have key : ∀ m1, (m1 = if x.op = 8 ∨ x.op = 9 then comeM m x.a.toNat (d - takesN x + putsN x) else m) → Okm n m1 ∧ far n m1 ≤ far n m := by
    intro m1 hm1
    split at hm1
    · rename_i h89
      obtain ⟨h0, h1⟩ := hj h89
      subst hm1
      exact ⟨h.come (by omega) (by omega), far_come h _ (by omega)⟩
    · subst hm1; exact ⟨h, Int.le_refl _⟩
  obtain ⟨k1, k2⟩ := key _ rfl
  unfold passM
  split
  · exact k2
  · rename_i hen
    exact Int.le_trans (far_come k1 _ (he (by simpa using hen))) k2
theorem runM_nil (code : List Ins) (k : Nat) (m : Sm) (h : m.left = []) : runM code k m = m := by
  cases k with
  | zero => rfl
  | succ k => unfold runM; rw [h]; rfl
theorem runM_snoc (code : List Ins) (k : Nat) (met : List Ar) (l : List (Nat × Int)) (p : Nat) (d : Int) (x : Ins) (h : code[p]? = some x) : runM code (k + 1) ⟨met, l ++ [(p, d)]⟩ = runM code k (passM ⟨met, l⟩ p d x) := by
  rw [runM]
  simp only [List.getLast?_concat, List.dropLast_concat, h]
theorem own_shorter {w : World} {base e g k cap : Nat} {xs ys : List Value} (h : w.ownsRow base e 2 (.slice (some ⟨g, 0, none⟩) (k + 1) cap) (k + 1) (xs ++ ys)) (hx : xs.length = k * 2) : w.ownsRow base e 2 (.slice (some ⟨g, 0, none⟩) k cap) k xs := by
  refine ⟨hx, ?_⟩
  rcases h.2 with ⟨h', _⟩ | ⟨g', cap', cur, hv, hg, hh, h1, h2, h3, h4⟩
  · cases h'
  · cases hv
    refine .inr ⟨g, cap, cur, rfl, hg, hh, by omega, h2, h3, ?_⟩
    have := congrArg (List.take (k * 2)) h4
    rw [List.take_take, Nat.min_eq_left (by omega)] at this
    rw [this, ← hx, List.take_left]
theorem last_split {α : Type} : ∀ (l : List α), l ≠ [] → ∃ i x, l = i ++ [x] := fun l h => ⟨l.dropLast, l.getLast h, (List.dropLast_concat_getLast h).symm⟩
end Go.Proofs.YtpkohocjgnodnaaGreatDoor

/- Depths: the least place that is wrong. -/
namespace Go.Proofs.YtpkohocjgnodnaaGreatDoor
open Go.RowKit

theorem ar_zero : ∀ n, arCells (List.replicate n ⟨0, 0, 0⟩) = List.replicate (n * 3) (.int .i64 0)
  | 0 => rfl
  | n + 1 => by
    rw [List.replicate_succ, arCells, ar_zero n, show (n + 1) * 3 = n * 3 + 1 + 1 + 1 by omega, List.replicate_succ, List.replicate_succ, List.replicate_succ]
    rfl
theorem made0 (n : Nat) : (madeCells #[.int .i64 0, .int .i64 0, .int .i64 0] (n * 3)).toList = arCells (List.replicate n ⟨0, 0, 0⟩) := by
  rw [ar_zero, List.eq_replicate_iff]
  refine ⟨by rw [Array.length_toList, size_madeCells], fun b hb => ?_⟩
  unfold madeCells at hb
  rw [Array.toList_map, List.mem_map] at hb
  obtain ⟨i, _, rfl⟩ := hb
  have h3 : i % 3 = 0 ∨ i % 3 = 1 ∨ i % 3 = 2 := by omega
  show (#[Value.int .i64 0, .int .i64 0, .int .i64 0] : Array Value)[i % 3]! = _
  rcases h3 with h | h | h <;> rw [h] <;> rfl
theorem cnt_zero : ∀ n, cnt (List.replicate n ⟨0, 0, 0⟩) = 0
  | 0 => rfl
  | n + 1 => by rw [List.replicate_succ, cnt, cnt_zero n]; rfl
theorem okm_zero (n : Nat) : Okm n ⟨List.replicate n ⟨0, 0, 0⟩, []⟩ := ⟨by simp, fun a ha => by obtain ⟨_, rfl⟩ := List.mem_replicate.1 ha; simp, fun q hq => by cases hq⟩
theorem infoArs : (Tryz.prog.info? 197).map (fun i => (i.zero, i.size, i.bytes)) = some (some (.agg #[.int .i64 0, .int .i64 0, .int .i64 0]), 3, 24) := by kernel_rfl
/-- An instruction as Check has found it, in its place. -/
structure Fit (n p : Nat) (x : Ins) : Prop where
  j : x.op = 8 ∨ x.op = 9 → 0 ≤ x.a ∧ x.a < n
  e : endsB x.op = false → p + 1 < n
  pr : x.op = 13 → 1 ≤ x.a ∧ x.a ≤ 22
  cl : x.op = 10 ∨ x.op = 11 → 0 ≤ x.a ∧ x.a ≤ 256
def startM (n : Nat) : Sm := comeM ⟨List.replicate n ⟨0, 0, 0⟩, []⟩ 0 0
/-- The arrivals when all ways are gone. -/
def endM (code : List Ins) : Sm := runM code (4 * code.length + 2) (startM code.length)
/-- What is told of it. -/
def lwV : Option Nat → Value
  | some j => .tuple #[.int .i64 (j : Nat), .bool true]
  | none => .tuple #[.int .i64 0, .bool false]
theorem NR.at {w : World} {ra : Option Addr} {l : List Ins} (h : NR w ra l) : ∃ b o, (l.length ≠ 0 → ra = some ⟨b, o, none⟩) ∧ ∀ j x, l[j]? = some x → b < w.heap.size ∧ w.cell? ⟨b, o + j * 2, none⟩ = some (.int .u8 x.op) ∧ w.cell? ⟨b, o + j * 2 + 1, none⟩ = some (.int .i64 x.a) := by
  obtain ⟨b, o, h1, h2⟩ := h
  exact ⟨b, o, fun h0 => h1.resolve_left h0, fun j x hx => ⟨(h2 j x hx).1, (h2 j x hx).2.1, (h2 j x hx).2.2.1⟩⟩

theorem cl_come {n : Nat} {m : Sm} (h : Okm n m) {p : Nat} (d : Int) (hp : p < n) : ((comeM m p d).left.length : Int) - cnt (comeM m p d).met = (m.left.length : Int) - cnt m.met := by
  have hlt : p < m.met.length := by rw [h.len]; exact hp
  unfold comeM
  rw [List.getElem?_eq_getElem hlt]
  dsimp only
  split
  · rename_i hn
    have hc := cnt_set m.met p _ (putAr m.met[p] d) (List.getElem?_eq_getElem hlt)
    have hpc := putAr_c hn
    rw [hc, hpc]
    simp; omega
  · rfl
theorem cl_pass {n : Nat} {m : Sm} (h : Okm n m) (p : Nat) (d : Int) (x : Ins) (hd : -300 * cnt m.met ≤ d ∧ d ≤ 300 * cnt m.met) (hx : Fit n p x) : ((passM m p d x).left.length : Int) - cnt (passM m p d x).met = (m.left.length : Int) - cnt m.met := by
  have htb := takes_bd x hx.pr hx.cl
  have hpb := puts_bd x
  have key : ∀ m1, (m1 = if x.op = 8 ∨ x.op = 9 then comeM m x.a.toNat (d - takesN x + putsN x) else m) → Okm n m1 ∧ (m1.left.length : Int) - cnt m1.met = (m.left.length : Int) - cnt m.met := by
    intro m1 hm1
    split at hm1
    · rename_i h89
      obtain ⟨h0, h1⟩ := hx.j h89
      subst hm1
      exact ⟨h.come (by omega) (by omega), cl_come h _ (by omega)⟩
    · subst hm1; exact ⟨h, rfl⟩
  obtain ⟨k1, k2⟩ := key _ rfl
  unfold passM
  split
  · exact k2
  · rename_i hen
    exact (cl_come k1 _ (hx.e (by simpa using hen))).trans k2
theorem lf_get (l : List (Nat × Int)) (q : Nat × Int) : (lfCells (l ++ [q]))[l.length * 2]? = some (.int .i64 q.1) ∧ (lfCells (l ++ [q]))[l.length * 2 + 1]? = some (.int .i64 q.2) := by
  rw [lfCells_snoc]
  have := lfCells_len l
  constructor
  · rw [List.getElem?_append_right (by omega), this, Nat.sub_self]; rfl
  · rw [List.getElem?_append_right (by omega), this, show l.length * 2 + 1 - l.length * 2 = 1 by omega]; rfl
theorem keepR {W W' : World} {g b o : Nat} {v0 v1 v2 v3 : Value} (hb : Below W.heap.size W W')
    (h : ((W.cell? ⟨g, 0, none⟩ = some v0 ∧ W.cell? ⟨g, 1, none⟩ = some v1) ∧ g < W.heap.size) ∧ (W.cell? ⟨b, o, none⟩ = some v2 ∧ W.cell? ⟨b, o + 1, none⟩ = some v3) ∧ b < W.heap.size) :
    ((W'.cell? ⟨g, 0, none⟩ = some v0 ∧ W'.cell? ⟨g, 1, none⟩ = some v1) ∧ g < W'.heap.size) ∧ (W'.cell? ⟨b, o, none⟩ = some v2 ∧ W'.cell? ⟨b, o + 1, none⟩ = some v3) ∧ b < W'.heap.size := by
  obtain ⟨⟨⟨a0, a1⟩, hl⟩, ⟨a2, a3⟩, hl'⟩ := h
  exact ⟨⟨⟨(hb.cell (p := ⟨g, 0, none⟩) hl).trans a0, (hb.cell (p := ⟨g, 1, none⟩) hl).trans a1⟩, Nat.lt_of_lt_of_le hl hb.size⟩, ⟨(hb.cell (p := ⟨b, o, none⟩) hl').trans a2, (hb.cell (p := ⟨b, o + 1, none⟩) hl').trans a3⟩, Nat.lt_of_lt_of_le hl' hb.size⟩

theorem keepF {W W' : World} {wb mb g b o : Nat} {lv lv' v0 v1 v2 v3 : Value} (hf : Fr wb mb lv lv' W W') (n1 : g ≠ wb) (n2 : g ≠ mb) (n3 : lv.ownBlock ≠ some g) (n4 : b < mb)
    (h : ((W.cell? ⟨g, 0, none⟩ = some v0 ∧ W.cell? ⟨g, 1, none⟩ = some v1) ∧ g < W.heap.size) ∧ (W.cell? ⟨b, o, none⟩ = some v2 ∧ W.cell? ⟨b, o + 1, none⟩ = some v3) ∧ b < W.heap.size) :
    ((W'.cell? ⟨g, 0, none⟩ = some v0 ∧ W'.cell? ⟨g, 1, none⟩ = some v1) ∧ g < W'.heap.size) ∧ (W'.cell? ⟨b, o, none⟩ = some v2 ∧ W'.cell? ⟨b, o + 1, none⟩ = some v3) ∧ b < W'.heap.size := by
  obtain ⟨⟨⟨a0, a1⟩, hl⟩, ⟨a2, a3⟩, hl'⟩ := h
  have e : ∀ j, W'.cell? ⟨g, j, none⟩ = W.cell? ⟨g, j, none⟩ := fun j => World.cell?_of_block (hf.block g hl n1 n2 n3)
  have e' : ∀ j, W'.cell? ⟨b, j, none⟩ = W.cell? ⟨b, j, none⟩ := fun j => hf.below.cell (p := ⟨b, j, none⟩) n4
  exact ⟨⟨⟨(e _).trans a0, (e _).trans a1⟩, Nat.lt_of_lt_of_le hl hf.below.size⟩, ⟨(e' _).trans a2, (e' _).trans a3⟩, Nat.lt_of_lt_of_le hl' hf.below.size⟩
theorem keepS {W W' : World} {wb mb ib o : Nat} {v v0 v1 v2 u0 u1 : Value} (hb : Below W.heap.size W W')
    (h : ((W.cell? ⟨wb, 0, none⟩ = some v ∧ W.cell? ⟨mb, o, none⟩ = some v0 ∧ W.cell? ⟨mb, o + 1, none⟩ = some v1 ∧ W.cell? ⟨mb, o + 1 + 1, none⟩ = some v2) ∧ wb < W.heap.size ∧ mb < W.heap.size) ∧ (W.cell? ⟨ib, 0, none⟩ = some u0 ∧ W.cell? ⟨ib, 1, none⟩ = some u1) ∧ ib < W.heap.size) :
    ((W'.cell? ⟨wb, 0, none⟩ = some v ∧ W'.cell? ⟨mb, o, none⟩ = some v0 ∧ W'.cell? ⟨mb, o + 1, none⟩ = some v1 ∧ W'.cell? ⟨mb, o + 1 + 1, none⟩ = some v2) ∧ wb < W'.heap.size ∧ mb < W'.heap.size) ∧ (W'.cell? ⟨ib, 0, none⟩ = some u0 ∧ W'.cell? ⟨ib, 1, none⟩ = some u1) ∧ ib < W'.heap.size := by
  obtain ⟨⟨⟨a, a0, a1, a2⟩, hl, hl1⟩, ⟨c0, c1⟩, hl2⟩ := h
  exact ⟨⟨⟨(hb.cell (p := ⟨wb, 0, none⟩) hl).trans a, (hb.cell (p := ⟨mb, o, none⟩) hl1).trans a0, (hb.cell (p := ⟨mb, o + 1, none⟩) hl1).trans a1, (hb.cell (p := ⟨mb, o + 1 + 1, none⟩) hl1).trans a2⟩, Nat.lt_of_lt_of_le hl hb.size, Nat.lt_of_lt_of_le hl1 hb.size⟩, ⟨(hb.cell (p := ⟨ib, 0, none⟩) hl2).trans c0, (hb.cell (p := ⟨ib, 1, none⟩) hl2).trans c1⟩, Nat.lt_of_lt_of_le hl2 hb.size⟩

set_option maxRecDepth 100000 in
set_option maxHeartbeats 8000000 in
theorem leastWrong_any (code : List Ins) (ra : Option Addr) (cp : Nat) (w : World) (hR : NR w ra code) (hn : code.length ≤ 4096) (hn0 : 0 < code.length) (hf : ∀ p x, code[p]? = some x → Fit code.length p x) (hP : PT w) :
    Calls Tryz.prog 83 #[.slice ra code.length cp] w fun e w' => e = .returned (lwV (wrongAt (endM code).met code 0)) ∧ Below w.heap.size w w' := by
  obtain ⟨i0, hi0, hz0, hz1, hz2⟩ := info_parts infoArs
  obtain ⟨b, o, q1, q2⟩ := NR.at hR
  have hra := q1 (by omega)
  subst hra
  have Q2 : Hid (∀ j x, code[j]? = some x → b < w.heap.size ∧ w.cell? ⟨b, o + j * 2, none⟩ = some (.int .u8 x.op) ∧ w.cell? ⟨b, o + j * 2 + 1, none⟩ = some (.int .i64 x.a)) := q2
  have HF : Hid (∀ p x, code[p]? = some x → Fit code.length p x) := hf
  have HP : Hid (PT w) := hP
  have hPl := hP.lt
  obtain ⟨n, hnn⟩ : ∃ n, code.length = n := ⟨_, rfl⟩
  have Hn : Hid (code.length = n) := hnn
  rw [hnn] at hn hn0 HF ⊢
  clear hR q1 q2 hf hP hnn
  go_enter Tryz.func83, Tryz.ntmps83
  go_wp2_with (at_make; refine wpList_make_full _ rfl _ _ 187 rfl w.heap.size 197 i0 (.agg #[.int .i64 0, .int .i64 0, .int .i64 0]) 3 Tryz.underlying187 hi0 hz0 hz1 .i64 .i64 _ _ n rfl rfl rfl rfl (by rw [hz2]; omega) (by unfold maxLen; omega) (Nat.le_refl _) ?_; intro w0 hown0 hgrow0)
  have hmbl : w.heap.size < w0.heap.size := (hown0.lt w.heap.size rfl).2
  have hm0 : w0.heap[w.heap.size]? = some (.cells (arCells (List.replicate n ⟨0, 0, 0⟩)).toArray 197 (0, 0)) := by
    rcases hown0.2 with ⟨h', _⟩ | ⟨g, cap, cur, hv, hg, hh, h1, h2, h3, h4⟩
    · cases h'
    · cases hv
      rw [hh]
      have e : cur.toList = arCells (List.replicate n ⟨0, 0, 0⟩) := by
        have h5 : (madeCells (Value.agg #[.int .i64 0, .int .i64 0, .int .i64 0]).cells (n * 3)).toList = arCells (List.replicate n ⟨0, 0, 0⟩) := made0 n
        rw [← h5, ← h4, List.take_of_length_le (by rw [Array.length_toList, h3]; exact Nat.le_refl _)]
      rw [← e]
  have hb0 : Below w.heap.size w w0 := (Below.refl _ w).grown hgrow0 (Nat.le_refl _) (fun k hk => by cases hk)
  have hal : Below w0.heap.size w0 (w0.alloc (.cells #[.slice (some ⟨w.heap.size, 0, none⟩) n n, .slice none 0 0] 190)) := (Below.refl _ w0).alloc (Nat.le_refl _) _
  have hW1 : Wk (w0.alloc (.cells #[.slice (some ⟨w.heap.size, 0, none⟩) n n, .slice none 0 0] 190)) w0.heap.size w.heap.size (w0.heap.size + 1) n (.slice none 0 0) ⟨List.replicate n ⟨0, 0, 0⟩, []⟩ :=
    ⟨heap_alloc_new _ _, (Below.heap_alloc _ _ _ hmbl).trans hm0, World.ownsRow_nil _ _ _ _, okm_zero n, hmbl, Nat.lt_succ_self _, by simp⟩
  have HW1 : Hid _ := hW1
  have HB1 : Hid (Below w.heap.size w (w0.alloc (.cells #[.slice (some ⟨w.heap.size, 0, none⟩) n n, .slice none 0 0] 190))) := hb0.trans (hal.mono hb0.size)
  clear hown0 hgrow0 hm0 hb0 hal hW1
  refine (come_any w0.heap.size w.heap.size (w0.heap.size + 1) n (.slice none 0 0) ⟨List.replicate n ⟨0, 0, 0⟩, []⟩ 0 0 _ HW1.out hn0 (by omega) (by simp) (by rw [cnt_zero]; omega)).mono ?_
  rintro e w2 ⟨⟨r2, rfl⟩, lv2, hw2, hb2, hf2, ho2⟩
  have HW2 : Hid (Wk w2 w0.heap.size w.heap.size (w0.heap.size + 1) n lv2 (startM n)) := hw2
  have HB2 : Hid (Below w.heap.size w w2) := HB1.out.trans hb2
  have hfar : Hid (far n (startM n) ≤ ((4 * n + 2 : Nat) : Int)) := by
    show _ ≤ _
    refine Int.le_trans (far_come (okm_zero n) 0 hn0) ?_
    unfold far
    rw [cnt_zero]; simp; omega
  have hcl0 : Hid (((startM n).left.length : Int) ≤ cnt (startM n).met) := by
    show _ ≤ _
    have := cl_come (okm_zero n) (p := 0) 0 hn0
    rw [cnt_zero] at this
    unfold startM
    simp at this
    omega
  have HRun : Hid (runM code (4 * n + 2) (startM n) = endM code) := by show _ = _; unfold endM; rw [Hn.out]
  clear hw2 hb2 hf2 ho2 HW1 HB1
  go_wp2
  go_loopw [5, 6] (fun _ _ wr => ∃ (lv : Value) (m : Sm) (k : Nat), Hid (Wk wr w0.heap.size w.heap.size (w0.heap.size + 1) n lv m) ∧ Hid (far n m ≤ (k : Int)) ∧ Hid (runM code k m = endM code) ∧ Hid ((m.left.length : Int) ≤ cnt m.met) ∧ Hid (Below w.heap.size w wr)) (fun _ _ wr => msrW w0.heap.size w.heap.size n wr)
  case atStart => exact ⟨lv2, startM n, 4 * n + 2, HW2, hfar, HRun, hcl0, HB2⟩
  case round =>
    obtain ⟨lv, m, k, HW, Hfar, HRu, HCl, HB⟩ := hrel
    obtain ⟨rl, cl, rfl⟩ := HW.out.slice
    obtain ⟨l1, l2, l3⟩ := HW.out.lt
    have w1c : wr.cell? ⟨w0.heap.size, 1, none⟩ = some (.slice rl m.left.length cl) := by simp [World.cell?, HW.out.hw]
    have fw : wr.frozen? ⟨w0.heap.size, 1, none⟩ = false := by simp [World.frozen?, HW.out.hw]
    have w0c : wr.cell? ⟨w0.heap.size, 0, none⟩ = some (.slice (some ⟨w.heap.size, 0, none⟩) n n) := by simp [World.cell?, HW.out.hw]
    have hcb := cnt_le m.met HW.out.ok.c
    rw [HW.out.ok.len] at hcb
    by_cases hl0 : m.left = []
    · have Hm : Hid (m = endM code) := by show _ = _; rw [← HRu.out, runM_nil code k m hl0]
      have hll : ¬ (0 : Int) < (m.left.length : Int) := by rw [hl0]; simp
      clear hl0
      go_wp2
      clear w1c fw w0c
      obtain ⟨wA, rfl⟩ : ∃ wA, wA = wr := ⟨wr, rfl⟩
      go_loopw [41, 7, 8] (fun i _ _ wr => ∃ (j : Nat), i = .int .i64 j ∧ j ≤ n ∧ Hid (wrongAt (endM code).met code 0 = wrongAt ((endM code).met.drop j) (code.drop j) j) ∧ Hid (Below wA.heap.size wA wr)) (fun i _ _ _ => n - (intOf i).toNat)
      case atStart => exact ⟨0, rfl, Nat.zero_le _, by show _ = _; simp, Below.refl _ _⟩
      case round =>
        obtain ⟨j, rfl, hj, HWr, HBq⟩ := hrel
        have HBw : Hid (Below w.heap.size w wr) := HB.out.trans (HBq.out.mono HB.out.size)
        have hmet : Hid ((endM code).met.length = n) := by show _ = _; rw [← Hm.out]; exact HW.out.ok.len
        by_cases hlt : j < n
        · have i1 : (j : Int) < (n : Int) := by omega
          have hWq := HW.out.kept HBq.out
          rw [Hm.out] at hWq
          have hx : code[j]? = some (code[j]'(by rw [Hn.out]; exact hlt)) := List.getElem?_eq_getElem _
          have hdx : code.drop j = (code[j]'(by rw [Hn.out]; exact hlt)) :: code.drop (j + 1) := List.drop_eq_getElem_cons _
          have ha : (endM code).met[j]? = some ((endM code).met[j]'(by rw [hmet.out]; exact hlt)) := List.getElem?_eq_getElem _
          have hda : (endM code).met.drop j = ((endM code).met[j]'(by rw [hmet.out]; exact hlt)) :: (endM code).met.drop (j + 1) := List.drop_eq_getElem_cons _
          generalize (code[j]'(by rw [Hn.out]; exact hlt)) = x at hx hdx
          generalize ((endM code).met[j]'(by rw [hmet.out]; exact hlt)) = a at ha hda
          obtain ⟨c0, c1, c2⟩ := Q2.out j x hx
          have hfx := HF.out j x hx
          have e1 : wr.cell? ⟨b, o + j * 2, none⟩ = some (.int .u8 x.op) := (HBw.out.cell (p := ⟨b, o + j * 2, none⟩) c0).trans c1
          have e2 : wr.cell? ⟨b, o + j * 2 + 1, none⟩ = some (.int .i64 x.a) := (HBw.out.cell (p := ⟨b, o + j * 2 + 1, none⟩) c0).trans c2
          have e0 : b < wr.heap.size := Nat.lt_of_lt_of_le c0 HBw.out.size
          have w0c : wr.cell? ⟨w0.heap.size, 0, none⟩ = some (.slice (some ⟨w.heap.size, 0, none⟩) n n) := by simp [World.cell?, hWq.hw]
          have m0 : wr.cell? ⟨w.heap.size, j * 3, none⟩ = some (.int .i64 a.d0) := by
            have := arCells_get _ j a ha 0 (by decide)
            simp [World.cell?, hWq.hm]; simpa [arC] using this
          have m1 : wr.cell? ⟨w.heap.size, j * 3 + 1, none⟩ = some (.int .i64 a.d1) := by
            have := arCells_get _ j a ha 1 (by decide)
            simp [World.cell?, hWq.hm]; simpa [arC] using this
          have m2 : wr.cell? ⟨w.heap.size, j * 3 + 1 + 1, none⟩ = some (.int .i64 a.c) := by
            have := arCells_get _ j a ha 2 (by decide)
            simp [World.cell?, hWq.hm]; simpa [arC] using this
          have lq1 : w0.heap.size < wr.heap.size := by have := hWq.lt; omega
          have lq2 : w.heap.size < wr.heap.size := by omega
          have lq1' : w0.heap.size < wr.heap.size + 1 := by omega
          have lq2' : w.heap.size < wr.heap.size + 1 := by omega
          have HN2 : Hid (wrongAt (endM code).met code 0 = if isWrongB a (takesN x) then some j else wrongAt ((endM code).met.drop (j + 1)) (code.drop (j + 1)) (j + 1)) := by show _ = _; rw [HWr.out, hdx, hda]; rfl
          have Htk : Hid (∀ w5 : World, PT w5 → Calls Tryz.prog 112 #[.agg #[.int .u8 x.op, .int .i64 x.a]] w5 fun e w' => e = .returned (.int .i64 (takesN x)) ∧ Below w5.heap.size w5 w') := fun w5 h5 => takes_any x.op x.a w5 hfx.pr hfx.cl h5
          have HPq : Hid (PT (wr.alloc (.cells #[.int .u8 x.op, .int .i64 x.a] 79))) := (HP.out.belowM HBw.out hPl).below ((Below.refl _ wr).alloc (Nat.le_refl _) _)
          have hmx : Tryz.prog.follows .mixedOrders = true := by kernel_rfl
          clear hx hdx ha hda hfx c0 c1 c2 hWq
          go_wp2_with fail
          go_region_held3 (fun wx => ((wx.cell? ⟨w0.heap.size, 0, none⟩ = some (.slice (some ⟨w.heap.size, 0, none⟩) n n) ∧ wx.cell? ⟨w.heap.size, j * 3, none⟩ = some (.int .i64 a.d0) ∧ wx.cell? ⟨w.heap.size, j * 3 + 1, none⟩ = some (.int .i64 a.d1) ∧ wx.cell? ⟨w.heap.size, j * 3 + 1 + 1, none⟩ = some (.int .i64 a.c)) ∧ w0.heap.size < wx.heap.size ∧ w.heap.size < wx.heap.size) ∧ (wx.cell? ⟨wr.heap.size, 0, none⟩ = some (.int .u8 x.op) ∧ wx.cell? ⟨wr.heap.size, 1, none⟩ = some (.int .i64 x.a)) ∧ wr.heap.size < wx.heap.size) (first | go_keep | exact keepS hb3 (by go_keep) | exact keepS hb4 (by go_keep))
              (first
                | (go_at_call 112; refine (Htk.out _ (HPq.out.below (Below.refl _ _).drew)).mono ?_; rintro e w3 ⟨rfl, hb3⟩)
                | (go_at_call 111; refine (isWrong_any a (takesN x) _).mono ?_; rintro e w4 ⟨rfl, hb4⟩))
          have hB4 : Below wA.heap.size wA w4 := HBq.out.trans (((((Below.refl _ wr).alloc (Nat.le_refl _) _).trans (((Below.refl _ _).drew.trans hb3).mono (by simp))).trans (hb4.mono (Nat.le_trans (by simp) ((Below.refl _ (wr.alloc (.cells #[.int .u8 x.op, .int .i64 x.a] 79))).drew.trans hb3).size))).mono HBq.out.size)
          have HB4 : Hid (Below wA.heap.size wA w4) := hB4
          clear hb3 hb4 hB4 m0 m1 m2 w0c e1 e2
          cases hwr : isWrongB a (takesN x)
          · have HN3 : Hid (wrongAt (endM code).met code 0 = wrongAt ((endM code).met.drop (j + 1)) (code.drop (j + 1)) (j + 1)) := by show _ = _; rw [HN2.out, hwr]; rfl
            clear hwr
            go_wp2
            go_roundw
            case rel => exact ⟨j + 1, by go_num, by omega, HN3, HB4⟩
            case measure => simp [intOf]; omega
          · have HN3 : Hid (wrongAt (endM code).met code 0 = some j) := by show _ = _; rw [HN2.out, hwr]; rfl
            clear hwr
            go_wp2
            go_ret2
            exact ⟨by rw [HN3.out]; rfl, HB.out.trans (HB4.out.mono HB.out.size)⟩
        · have i1 : ¬ (j : Int) < (n : Int) := by omega
          have HV : Hid (wrongAt (endM code).met code 0 = none) := by show _ = _; rw [HWr.out, List.drop_of_length_le (by rw [hmet.out]; omega)]; unfold wrongAt; rfl
          go_wp2
          go_ret2
          exact ⟨by rw [HV.out]; rfl, HBw.out⟩
    · obtain ⟨l, q, hlq⟩ := last_split m.left hl0
      obtain ⟨p, d⟩ := q
      obtain ⟨met, left⟩ := m
      simp only at hlq
      subst hlq
      have hlen1 : (l ++ [(p, d)]).length = l.length + 1 := by simp
      have hlb : l.length ≤ 10000 := by have h5 := HCl.out; rw [hlen1] at h5; have h6 := hcb; simp only at h5 h6; omega
      have hll : (0 : Int) < (l.length : Int) + 1 := by omega
      obtain ⟨hq1, hq2, hq3⟩ := HW.out.ok.left (p, d) (by simp)
      simp only at hq1 hq2 hq3
      obtain ⟨g, hrl⟩ : ∃ g, rl = some ⟨g, 0, none⟩ := by
        rcases HW.out.hl.2 with ⟨h', h0⟩ | ⟨g, cap, cur, hv, _⟩
        · simp at h0
        · cases hv; exact ⟨g, rfl⟩
      subst hrl
      have hgl := HW.out.hl.lt g rfl
      obtain ⟨lf1, lf2⟩ := lf_get l (p, d)
      have hrow : wr.ownsRow (w0.heap.size + 1) 193 2 (.slice (some ⟨g, 0, none⟩) (l.length + 1) cl) (l.length + 1) (lfCells l ++ [.int .i64 p, .int .i64 d]) := by
        have := HW.out.hl
        simp only [lfCells_snoc, hlen1] at this
        exact this
      have e1 : wr.cell? ⟨g, l.length * 2, none⟩ = some (.int .i64 p) := by
        have := hrow.cells (g := g) rfl (l.length * 2) _ (by rw [← lfCells_snoc l (p, d)]; exact lf1)
        have ea : (⟨g, 0, none⟩ : Addr).add (l.length * 2) = ⟨g, l.length * 2, none⟩ := by unfold Addr.add; split <;> simp_all
        rwa [ea] at this
      have e2 : wr.cell? ⟨g, l.length * 2 + 1, none⟩ = some (.int .i64 d) := by
        have := hrow.cells (g := g) rfl (l.length * 2 + 1) _ (by rw [← lfCells_snoc l (p, d)]; exact lf2)
        have ea : (⟨g, 0, none⟩ : Addr).add (l.length * 2 + 1) = ⟨g, l.length * 2 + 1, none⟩ := by unfold Addr.add; split <;> simp_all
        rwa [ea] at this
      obtain ⟨x, hx⟩ : ∃ x, code[p]? = some x := ⟨_, List.getElem?_eq_getElem (show p < code.length by rw [Hn.out]; exact hq1)⟩
      obtain ⟨c0, c1, c2⟩ := Q2.out p x hx
      have hfx := HF.out p x hx
      have f1 : wr.cell? ⟨b, o + p * 2, none⟩ = some (.int .u8 x.op) := (HB.out.cell (p := ⟨b, o + p * 2, none⟩) c0).trans c1
      have f2 : wr.cell? ⟨b, o + p * 2 + 1, none⟩ = some (.int .i64 x.a) := (HB.out.cell (p := ⟨b, o + p * 2 + 1, none⟩) c0).trans c2
      have f0 : b < wr.heap.size := Nat.lt_of_lt_of_le c0 HB.out.size
      have nb : ¬ b = w0.heap.size := by omega
      have nb' : ¬ w0.heap.size = b := by omega
      have ng : ¬ g = w0.heap.size := by omega
      have ng' : ¬ w0.heap.size = g := by omega
      have i1 : (p : Int) < (n : Int) := by omega
      have lw0 : w0.heap.size < wr.heap.size := by omega
      have lw0' : w0.heap.size < wr.heap.size + 1 := by omega
      have f0' : b < wr.heap.size + 1 := by omega
      have hcap : l.length ≤ cl := by
        rcases hrow.2 with ⟨h', _⟩ | ⟨g', cap', cur, hv, _, _, h1, _⟩
        · cases h'
        · cases hv; omega
      have hcap' : (l.length : Int) ≤ (cl : Int) := by omega
      have hll2 : (l.length : Int) < (l.length : Int) + 1 := by omega
      have HX : Hid (code[p]? = some x) := hx
      have HFx : Hid (Fit n p x) := hfx
      have HRow : Hid (wr.ownsRow (w0.heap.size + 1) 193 2 (.slice (some ⟨g, 0, none⟩) (l.length + 1) cl) (l.length + 1) (lfCells l ++ [.int .i64 p, .int .i64 d])) := hrow
      rw [hlen1] at w1c
      clear hx hfx hrow hgl lf1 lf2 c0 c1 c2 w0c hl0
      go_wp2_with fail
      have K3 : ∀ y, y < wr.heap.size → y ≠ w0.heap.size → ((wr.setCell ⟨w0.heap.size, 1, none⟩ (.slice (some ⟨g, 0, none⟩) l.length cl)).alloc (.cells #[.int .i64 p, .int .i64 d] 193)).heap[y]? = wr.heap[y]? := fun y hy hne => (Below.heap_alloc _ _ _ (by rw [World.size_setCell]; exact hy)).trans (Below.heap_setCell _ _ _ _ hne)
      have S3 : ((wr.setCell ⟨w0.heap.size, 1, none⟩ (.slice (some ⟨g, 0, none⟩) l.length cl)).alloc (.cells #[.int .i64 p, .int .i64 d] 193)).heap.size = wr.heap.size + 1 := by rw [World.size_alloc, World.size_setCell]
      have hok3 : Okm n ⟨met, l⟩ := ⟨HW.out.ok.len, HW.out.ok.c, fun q hq => HW.out.ok.left q (List.mem_append_left _ hq)⟩
      have HW3 : Hid (Wk ((wr.setCell ⟨w0.heap.size, 1, none⟩ (.slice (some ⟨g, 0, none⟩) l.length cl)).alloc (.cells #[.int .i64 p, .int .i64 d] 193)) w0.heap.size w.heap.size (w0.heap.size + 1) n (.slice (some ⟨g, 0, none⟩) l.length cl) ⟨met, l⟩) := by
        refine ⟨(Below.heap_alloc _ _ _ (by rw [World.size_setCell]; omega)).trans (set_atC HW.out.hw _), (K3 _ (by omega) (by omega)).trans HW.out.hm, ?_, hok3, l1, l2, by rw [S3]; omega⟩
        have hs := own_shorter HRow.out (lfCells_len l)
        refine ⟨hs.1, ?_⟩
        rcases hs.2 with h' | ⟨g2, cap2, cur2, hv2, hg2, hh2, r2⟩
        · exact .inl h'
        · exact .inr ⟨g2, cap2, cur2, hv2, hg2, (K3 g2 (Array.getElem?_eq_some_iff.1 hh2).1 (by omega)).trans hh2, r2⟩
      have HB3 : Hid (Below w.heap.size w ((wr.setCell ⟨w0.heap.size, 1, none⟩ (.slice (some ⟨g, 0, none⟩) l.length cl)).alloc (.cells #[.int .i64 p, .int .i64 d] 193))) := (HB.out.setCell (p := ⟨w0.heap.size, 1, none⟩) (by show w.heap.size ≤ w0.heap.size; omega) _).alloc (by rw [World.size_setCell]; have := HB.out.size; omega) _
      have y0 : ((wr.setCell ⟨w0.heap.size, 1, none⟩ (.slice (some ⟨g, 0, none⟩) l.length cl)).alloc (.cells #[.int .i64 p, .int .i64 d] 193)).heap[wr.heap.size]? = some (.cells #[.int .i64 p, .int .i64 d] 193 (0, 0)) := by
        have := heap_alloc_new (wr.setCell ⟨w0.heap.size, 1, none⟩ (.slice (some ⟨g, 0, none⟩) l.length cl)) (.cells #[.int .i64 p, .int .i64 d] 193)
        rwa [World.size_setCell] at this
      have hB3 : Hid (b < w.heap.size) := (Q2.out p x HX.out).1
      have g1 : ((wr.setCell ⟨w0.heap.size, 1, none⟩ (.slice (some ⟨g, 0, none⟩) l.length cl)).alloc (.cells #[.int .i64 p, .int .i64 d] 193)).cell? ⟨b, o + p * 2, none⟩ = some (.int .u8 x.op) := (World.cell?_of_block (K3 b f0 nb)).trans f1
      have g2 : ((wr.setCell ⟨w0.heap.size, 1, none⟩ (.slice (some ⟨g, 0, none⟩) l.length cl)).alloc (.cells #[.int .i64 p, .int .i64 d] 193)).cell? ⟨b, o + p * 2 + 1, none⟩ = some (.int .i64 x.a) := (World.cell?_of_block (K3 b f0 nb)).trans f2
      have Hgw : Hid (g < wr.heap.size) := (HRow.out.lt g rfl).2
      clear K3 hok3 f1 f2 e1 e2 w1c fw
      generalize (wr.setCell ⟨w0.heap.size, 1, none⟩ (.slice (some ⟨g, 0, none⟩) l.length cl)).alloc (.cells #[.int .i64 p, .int .i64 d] 193) = W3 at *
      have z0 : W3.cell? ⟨wr.heap.size, 0, none⟩ = some (.int .i64 p) := by simp only [World.cell?, y0]; rfl
      have z1 : W3.cell? ⟨wr.heap.size, 1, none⟩ = some (.int .i64 d) := by simp only [World.cell?, y0]; rfl
      have zl : wr.heap.size < W3.heap.size := by omega
      have zb : b < W3.heap.size := by omega
      clear y0
      have hmx : Tryz.prog.follows .mixedOrders = true := by kernel_rfl
      have hcb' : cnt met ≤ 2 * (n : Int) := hcb.2
      have HPs := pass_any w0.heap.size w.heap.size (w0.heap.size + 1) n (.slice (some ⟨g, 0, none⟩) l.length cl) ⟨met, l⟩ p d x W3.drew (HW3.out.kept (Below.refl _ _).drew) hn hlb ⟨hq2, hq3⟩ hq1 HFx.out.j HFx.out.e HFx.out.pr HFx.out.cl (HP.out.belowM (HB3.out.trans ((Below.refl _ W3).drew.mono (HB3.out.size))) hPl) hPl
      have HPs' : Hid _ := HPs
      clear HPs
      go_region_held3 (fun wx => ((wx.cell? ⟨wr.heap.size, 0, none⟩ = some (.int .i64 p) ∧ wx.cell? ⟨wr.heap.size, 1, none⟩ = some (.int .i64 d)) ∧ wr.heap.size < wx.heap.size) ∧ (wx.cell? ⟨b, o + p * 2, none⟩ = some (.int .u8 x.op) ∧ wx.cell? ⟨b, o + p * 2 + 1, none⟩ = some (.int .i64 x.a)) ∧ b < wx.heap.size) (first | go_keep | exact keepF hf4 (by omega) (by omega) (fun e => Nat.ne_of_lt Hgw.out (Option.some.inj e)) hB3.out (by go_keep))
          (first | (go_at_call 110; refine Calls.mono HPs'.out ?_; rintro e w4 ⟨⟨r4, rfl⟩, lv4, hw4, hf4⟩))
      have HW4 : Hid (Wk w4 w0.heap.size w.heap.size (w0.heap.size + 1) n lv4 (passM ⟨met, l⟩ p d x)) := hw4
      have HB4 : Hid (Below w.heap.size w w4) := (HB3.out.trans ((Below.refl _ W3).drew.mono HB3.out.size)).trans hf4.below
      have hfar0 : far n ⟨met, l ++ [(p, d)]⟩ = far n ⟨met, l⟩ + 1 := by unfold far; simp; omega
      have hfp := far_pass HW3.out.ok p d x ⟨hq2, hq3⟩ HFx.out.j HFx.out.e HFx.out.pr HFx.out.cl
      have hclp := cl_pass HW3.out.ok p d x ⟨hq2, hq3⟩ HFx.out
      have hfn : 0 ≤ far n ⟨met, l⟩ := by unfold far; simp only; omega
      have hfk := Hfar.out
      rw [hfar0] at hfk
      obtain ⟨k', rfl⟩ : ∃ k', k = k' + 1 := ⟨k - 1, by omega⟩
      have HRu4 : Hid (runM code k' (passM ⟨met, l⟩ p d x) = endM code) := by show _ = _; rw [← HRu.out, runM_snoc code k' met l p d x HX.out]
      have Hfar4 : Hid (far n (passM ⟨met, l⟩ p d x) ≤ (k' : Int)) := by show _ ≤ _; omega
      have HCl4 : Hid (((passM ⟨met, l⟩ p d x).left.length : Int) ≤ cnt (passM ⟨met, l⟩ p d x).met) := by
        show _ ≤ _
        have h5 := HCl.out
        rw [hlen1] at h5
        simp only at h5 hclp
        omega
      have Hms : Hid ((far n (passM ⟨met, l⟩ p d x)).toNat < (far n ⟨met, l ++ [(p, d)]⟩).toNat) := by show _ < _; rw [hfar0]; omega
      clear hw4 hf4 hfp hclp hfk hfar0
      go_wp2_with fail
      go_roundw
      case rel => exact ⟨lv4, passM ⟨met, l⟩ p d x, k', HW4, Hfar4, HRu4, HCl4, HB4⟩
      case measure => rw [msrW_of HW4.out, msrW_of HW.out]; exact Hms.out
end Go.Proofs.YtpkohocjgnodnaaGreatDoor

/- One procedure is checked. -/
namespace Go.Proofs.YtpkohocjgnodnaaGreatDoor
open Go.RowKit

/-- The first instruction that may not be. -/
def badI (nc ng np ni : Nat) : List Ins → Nat → Option Nat
  | [], _ => none
  | x :: r, j => if isOpB x.op && fitsB nc ng np ni x then badI nc ng np ni r (j + 1) else some j
theorem badI_none {nc ng np ni : Nat} : ∀ (l : List Ins) (j : Nat), badI nc ng np ni l j = none → ∀ x ∈ l, isOpB x.op = true ∧ fitsB nc ng np ni x = true
  | [], _, _ => fun x hx => by cases hx
  | y :: r, j, h => by
    unfold badI at h
    split at h
    · rename_i hy
      rw [Bool.and_eq_true] at hy
      intro x hx
      rcases List.mem_cons.1 hx with h1 | h1
      · subst h1; exact hy
      · exact badI_none r (j + 1) h x h1
    · cases h
/-- What a wrong depth's place makes of it. -/
def endP : Option Nat → Int × Nat
  | some j => (80, j)
  | none => (0, 0)
/-- The rest of what is asked of a procedure, where all instructions may be. -/
def chkEnd (code : List Ins) : Int × Nat :=
  match code[code.length - 1]? with
  | none => (80, 0)
  | some x => if endsB x.op then endP (wrongAt (endM code).met code 0) else (80, code.length - 1)
/-- The error of a procedure, and its place. -/
def chkP (nc ng np : Nat) (p : Prc) : Int × Nat :=
  if 4096 < p.code.length then (2, 0) else if p.params < 0 ∨ 256 < p.params ∨ p.code.length = 0 then (80, 0)
  else match badI nc ng np p.code.length p.code 0 with
  | some j => (80, j)
  | none => chkEnd p.code
def epV (r : Int × Nat) : Value := .tuple #[.int .i64 r.1, .int .i64 (r.2 : Nat)]

theorem fit_of {nc ng np : Nat} {code : List Ins} (hb : badI nc ng np code.length code 0 = none) {y : Ins} (hy : code[code.length - 1]? = some y) (he : endsB y.op = true) (p : Nat) (x : Ins) (hx : code[p]? = some x) : Fit code.length p x := by
  obtain ⟨h1, h2⟩ := badI_none code 0 hb x (List.mem_of_getElem? hx)
  unfold fitsB at h2
  rw [decide_eq_true_eq] at h2
  have hlt : p < code.length := (List.getElem?_eq_some_iff.1 hx).1
  refine ⟨?_, ?_, ?_, ?_⟩
  · intro h
    rcases h with h | h <;> (rw [h] at h2; simp [leastA, mostA] at h2; omega)
  · intro h
    rcases Nat.lt_or_ge (p + 1) code.length with h' | h'
    · exact h'
    · have : p = code.length - 1 := by omega
      subst this
      rw [hy] at hx
      cases hx
      rw [he] at h; cases h
  · intro h; rw [h] at h2; simp [leastA, mostA] at h2; omega
  · intro h
    rcases h with h | h <;> (rw [h] at h2; simp [leastA, mostA] at h2; omega)

set_option maxRecDepth 100000 in
set_option maxHeartbeats 8000000 in
theorem checkProc_any (nc np ng : Nat) (p : Prc) (r1 r2 r3 ra : Option Addr) (c1 c2 c3 cp : Nat) (w : World) (hl : nc ≤ maxLen ∧ np ≤ maxLen ∧ ng ≤ maxLen ∧ p.code.length ≤ maxLen) (hR : NR w ra p.code) (hP : PT w) :
    Calls Tryz.prog 33 #[.agg #[.slice r1 nc c1, .slice r2 np c2, .slice r3 ng c3], .agg #[.int .i64 p.params, .slice ra p.code.length cp]] w fun e w' => e = .returned (epV (chkP nc ng np p)) ∧ Below w.heap.size w w' := by
  obtain ⟨pm, code⟩ := p
  obtain ⟨n1, n2, n3, n4⟩ := hl
  have Hl : Hid (nc ≤ maxLen ∧ np ≤ maxLen ∧ ng ≤ maxLen ∧ code.length ≤ maxLen) := ⟨n1, n2, n3, n4⟩
  simp only at n4 hR ⊢
  unfold maxLen at n1 n2 n3 n4
  have hal : Below w.heap.size w ((w.alloc (.cells #[.slice r1 nc c1, .slice r2 np c2, .slice r3 ng c3] 26)).alloc (.cells #[.int .i64 pm, .slice ra code.length cp] 64)) := ((Below.refl _ w).alloc (Nat.le_refl _) _).alloc (by simp) _
  have HB : Hid _ := hal
  by_cases h1 : 4096 < code.length
  · have HV : Hid (chkP nc ng np ⟨pm, code⟩ = (2, 0)) := by show _ = _; unfold chkP; rw [if_pos h1]
    have a1 : (4096 : Int) < (code.length : Int) := by omega
    clear hal hR h1
    go_enter Tryz.func33, Tryz.ntmps33
    go_wp2
    go_ret2
    exact ⟨by rw [HV.out]; rfl, HB.out⟩
  have a1 : ¬ (4096 : Int) < (code.length : Int) := by omega
  by_cases h2 : pm < 0 ∨ 256 < pm ∨ code.length = 0
  · have HV : Hid (chkP nc ng np ⟨pm, code⟩ = (80, 0)) := by show _ = _; unfold chkP; rw [if_neg h1, if_pos h2]
    have hm' : pm < 0 ∨ (¬ pm < 0 ∧ 256 < pm) ∨ (¬ pm < 0 ∧ ¬ 256 < pm ∧ ((code.length : Int) == 0) = true) := by
      rcases h2 with h | h | h
      · exact .inl h
      · exact .inr (.inl ⟨by omega, h⟩)
      · by_cases q1 : pm < 0
        · exact .inl q1
        · by_cases q2 : 256 < pm
          · exact .inr (.inl ⟨q1, q2⟩)
          · exact .inr (.inr ⟨q1, q2, by simp [h]⟩)
    clear hal hR h2
    rcases hm' with b1 | ⟨b1, b2⟩ | ⟨b1, b2, b3⟩
    all_goals
      go_enter Tryz.func33, Tryz.ntmps33
      go_wp2
      go_ret2
      exact ⟨by rw [HV.out]; rfl, HB.out⟩
  have b1 : ¬ pm < 0 := fun h => h2 (.inl h)
  have b2 : ¬ 256 < pm := fun h => h2 (.inr (.inl h))
  have hn0 : 0 < code.length := by omega
  have b3 : ((code.length : Int) == 0) = false := by simp; intro h; rw [h] at hn0; simp at hn0
  have HV : Hid (chkP nc ng np ⟨pm, code⟩ = match badI nc ng np code.length code 0 with | some j => (80, j) | none => chkEnd code) := by show _ = _; unfold chkP; rw [if_neg h1, if_neg h2]
  obtain ⟨b, o, q1, q2⟩ := NR.at hR
  have hra := q1 (by omega)
  subst hra
  have Q2 : Hid (∀ j x, code[j]? = some x → b < w.heap.size ∧ w.cell? ⟨b, o + j * 2, none⟩ = some (.int .u8 x.op) ∧ w.cell? ⟨b, o + j * 2 + 1, none⟩ = some (.int .i64 x.a)) := q2
  have HR : Hid (NR w (some ⟨b, o, none⟩) code) := hR
  have HP : Hid (PT w) := hP
  have HQ0 : Hid (((w.alloc (.cells #[.slice r1 nc c1, .slice r2 np c2, .slice r3 ng c3] 26)).alloc (.cells #[.int .i64 pm, .slice (some ⟨b, o, none⟩) code.length cp] 64)).heap[w.heap.size]? = some (.cells #[.slice r1 nc c1, .slice r2 np c2, .slice r3 ng c3] 26 (0, 0))) := (Below.heap_alloc _ _ _ (by simp)).trans (heap_alloc_new _ _)
  have HQ1 : Hid (((w.alloc (.cells #[.slice r1 nc c1, .slice r2 np c2, .slice r3 ng c3] 26)).alloc (.cells #[.int .i64 pm, .slice (some ⟨b, o, none⟩) code.length cp] 64)).heap[w.heap.size + 1]? = some (.cells #[.int .i64 pm, .slice (some ⟨b, o, none⟩) code.length cp] 64 (0, 0))) := by
    have := heap_alloc_new (w.alloc (.cells #[.slice r1 nc c1, .slice r2 np c2, .slice r3 ng c3] 26)) (.cells #[.int .i64 pm, .slice (some ⟨b, o, none⟩) code.length cp] 64)
    rwa [World.size_alloc] at this
  have HS : Hid (((w.alloc (.cells #[.slice r1 nc c1, .slice r2 np c2, .slice r3 ng c3] 26)).alloc (.cells #[.int .i64 pm, .slice (some ⟨b, o, none⟩) code.length cp] 64)).heap.size = w.heap.size + 2) := by show _ = _; rw [World.size_alloc, World.size_alloc]
  clear hal hR h1 h2 q1 q2 hP
  go_enter Tryz.func33, Tryz.ntmps33
  go_wp2
  go_loopw [32, 6, 7] (fun i _ _ wr => ∃ j : Nat, i = .int .i64 j ∧ j ≤ code.length ∧ Hid (badI nc ng np code.length code 0 = badI nc ng np code.length (code.drop j) j) ∧ Hid (Below (w.heap.size + 2) ((w.alloc (.cells #[.slice r1 nc c1, .slice r2 np c2, .slice r3 ng c3] 26)).alloc (.cells #[.int .i64 pm, .slice (some ⟨b, o, none⟩) code.length cp] 64)) wr)) (fun i _ _ _ => code.length - (intOf i).toNat)
  case atStart => exact ⟨0, rfl, Nat.zero_le _, by show _ = _; simp, Below.refl _ _⟩
  case round =>
    obtain ⟨j, rfl, hj, HN, HW⟩ := hrel
    have HBr : Hid (Below w.heap.size w wr) := HB.out.trans (HW.out.mono (by omega))
    have hsz : w.heap.size + 2 ≤ wr.heap.size := by have := HW.out.size; rw [HS.out] at this; exact this
    have e0 : wr.heap[w.heap.size]? = some (.cells #[.slice r1 nc c1, .slice r2 np c2, .slice r3 ng c3] 26 (0, 0)) := (HW.out.block _ (by omega)).trans HQ0.out
    have e1 : wr.heap[w.heap.size + 1]? = some (.cells #[.int .i64 pm, .slice (some ⟨b, o, none⟩) code.length cp] 64 (0, 0)) := (HW.out.block _ (by omega)).trans HQ1.out
    have u0 : wr.cell? ⟨w.heap.size, 0, none⟩ = some (.slice r1 nc c1) := by simp [World.cell?, e0]
    have u1 : wr.cell? ⟨w.heap.size, 1, none⟩ = some (.slice r2 np c2) := by simp [World.cell?, e0]
    have u2 : wr.cell? ⟨w.heap.size, 2, none⟩ = some (.slice r3 ng c3) := by simp [World.cell?, e0]
    have v0 : wr.cell? ⟨w.heap.size + 1, 0, none⟩ = some (.int .i64 pm) := by simp [World.cell?, e1]
    have v1 : wr.cell? ⟨w.heap.size + 1, 1, none⟩ = some (.slice (some ⟨b, o, none⟩) code.length cp) := by simp [World.cell?, e1]
    have s0 : w.heap.size < wr.heap.size := by omega
    have s1 : w.heap.size + 1 < wr.heap.size := by omega
    clear e0 e1
    by_cases hlt : j < code.length
    · have i1 : (j : Int) < (code.length : Int) := by omega
      have hx : code[j]? = some code[j] := List.getElem?_eq_getElem hlt
      have hdr : code.drop j = code[j] :: code.drop (j + 1) := List.drop_eq_getElem_cons hlt
      generalize code[j] = x at hx hdr
      obtain ⟨k0, k1, k2⟩ := Q2.out j x hx
      have f1 : wr.cell? ⟨b, o + j * 2, none⟩ = some (.int .u8 x.op) := (HBr.out.cell (p := ⟨b, o + j * 2, none⟩) k0).trans k1
      have f2 : wr.cell? ⟨b, o + j * 2 + 1, none⟩ = some (.int .i64 x.a) := (HBr.out.cell (p := ⟨b, o + j * 2 + 1, none⟩) k0).trans k2
      have f0 : b < wr.heap.size := Nat.lt_of_lt_of_le k0 HBr.out.size
      have HN2 : Hid (badI nc ng np code.length code 0 = if isOpB x.op && fitsB nc ng np code.length x then badI nc ng np code.length (code.drop (j + 1)) (j + 1) else some j) := by show _ = _; rw [HN.out, hdr]; rfl
      have s0' : w.heap.size < wr.heap.size + 1 := by omega
      have s1' : w.heap.size + 1 < wr.heap.size + 1 := by omega
      have HWa : Hid (Below (w.heap.size + 2) ((w.alloc (.cells #[.slice r1 nc c1, .slice r2 np c2, .slice r3 ng c3] 26)).alloc (.cells #[.int .i64 pm, .slice (some ⟨b, o, none⟩) code.length cp] 64)) (wr.alloc (.cells #[.int .u8 x.op, .int .i64 x.a] 79))) := HW.out.alloc hsz _
      have HBa : Hid (Below w.heap.size w (wr.alloc (.cells #[.int .u8 x.op, .int .i64 x.a] 79))) := HBr.out.alloc (by omega) _
      clear hx hdr k0 k1 k2
      go_wp2_with fail
      refine (isOp_any x.op _).mono ?_
      rintro e w' ⟨rfl, rfl⟩
      cases hop : isOpB x.op
      · have HN3 : Hid (chkP nc ng np ⟨pm, code⟩ = (80, j)) := by show _ = _; rw [HV.out, HN2.out, hop]; rfl
        clear hop
        go_wp2
        go_ret2
        exact ⟨by rw [HN3.out]; rfl, HBa.out⟩
      · have HO : Hid (isOpB x.op = true) := hop
        clear hop
        go_wp2_with fail
        refine (fits_any x.op x.a pm nc np ng code.length r1 r2 r3 (some ⟨b, o, none⟩) c1 c2 c3 cp _ Hl.out).mono ?_
        rintro e w4 ⟨rfl, hb4⟩
        have HW4 : Hid (Below (w.heap.size + 2) ((w.alloc (.cells #[.slice r1 nc c1, .slice r2 np c2, .slice r3 ng c3] 26)).alloc (.cells #[.int .i64 pm, .slice (some ⟨b, o, none⟩) code.length cp] 64)) w4) := HWa.out.trans (hb4.mono (by rw [World.size_alloc]; omega))
        have HB4 : Hid (Below w.heap.size w w4) := HBa.out.trans (hb4.mono HBa.out.size)
        clear hb4 u0 u1 u2 v0 v1 f1 f2
        cases hft : fitsB nc ng np code.length ⟨x.op, x.a⟩
        · have HN3 : Hid (chkP nc ng np ⟨pm, code⟩ = (80, j)) := by show _ = _; rw [HV.out, HN2.out, HO.out, hft]; rfl
          clear hft
          go_wp2
          go_ret2
          exact ⟨by rw [HN3.out]; rfl, HB4.out⟩
        · have HN3 : Hid (badI nc ng np code.length code 0 = badI nc ng np code.length (code.drop (j + 1)) (j + 1)) := by show _ = _; rw [HN2.out, HO.out, hft]; rfl
          clear hft
          go_wp2
          go_roundw
          case rel => exact ⟨j + 1, by go_num, by omega, HN3, HW4⟩
          case measure => simp [intOf]; omega
    · have i1 : ¬ (j : Int) < (code.length : Int) := by omega
      have hbn : badI nc ng np code.length code 0 = none := by rw [HN.out, List.drop_of_length_le (by omega)]; rfl
      have HBn : Hid (badI nc ng np code.length code 0 = none) := hbn
      obtain ⟨l, hnl⟩ : ∃ l, code.length = l + 1 := ⟨code.length - 1, by omega⟩
      have hxl : code[code.length - 1]? = some (code[code.length - 1]'(by omega)) := List.getElem?_eq_getElem _
      generalize (code[code.length - 1]'(by omega)) = y at hxl
      have HXL : Hid (code[code.length - 1]? = some y) := hxl
      have HV2 : Hid (chkP nc ng np ⟨pm, code⟩ = if endsB y.op then endP (wrongAt (endM code).met code 0) else ((80 : Int), code.length - 1)) := by
        show _ = _
        rw [HV.out, hbn]
        simp only [chkEnd, hxl]
      obtain ⟨k0, k1, k2⟩ := Q2.out (code.length - 1) y hxl
      rw [hnl, Nat.add_sub_cancel] at k1
      have f1 : wr.cell? ⟨b, o + l * 2, none⟩ = some (.int .u8 y.op) := (HBr.out.cell (p := ⟨b, o + l * 2, none⟩) k0).trans k1
      have f0 : b < wr.heap.size := Nat.lt_of_lt_of_le k0 HBr.out.size
      have Hnl : Hid (code.length = l + 1) := hnl
      rw [hnl] at v1
      have hll : (l : Int) < (l : Int) + 1 := by omega
      have hlb : l ≤ 4096 := by omega
      clear hnl
      clear hbn hxl k0 k1 k2
      go_wp2_with fail
      refine (ends_any y.op _).mono ?_
      rintro e w' ⟨rfl, rfl⟩
      cases hen : endsB y.op
      · have HN3 : Hid (chkP nc ng np ⟨pm, code⟩ = (80, l)) := by show _ = _; rw [HV2.out, hen, Hnl.out]; rfl
        clear hen
        go_wp2
        go_ret2
        exact ⟨by rw [HN3.out]; rfl, HBr.out⟩
      · have HN3 : Hid (chkP nc ng np ⟨pm, code⟩ = endP (wrongAt (endM code).met code 0)) := by show _ = _; rw [HV2.out, hen]; rfl
        have HLw : Hid (Calls Tryz.prog 83 #[.slice (some ⟨b, o, none⟩) (l + 1 : Nat) cp] w' fun e w5 => e = .returned (lwV (wrongAt (endM code).met code 0)) ∧ Below w'.heap.size w' w5) :=
          Hnl.out ▸ leastWrong_any code (some ⟨b, o, none⟩) cp w' (HR.out.below HBr.out) (by omega) hn0 (fun p x hx => fit_of HBn.out HXL.out hen p x hx) (HP.out.below HBr.out)
        clear hen
        go_wp2_with fail
        refine Calls.mono HLw.out ?_
        rintro e w5 ⟨rfl, hb5⟩
        have HB5 : Hid (Below w.heap.size w w5) := HBr.out.trans (hb5.mono HBr.out.size)
        clear hb5 HLw
        cases hwr : wrongAt (endM code).met code 0 with
        | none =>
          have HN4 : Hid (chkP nc ng np ⟨pm, code⟩ = (0, 0)) := by show _ = _; rw [HN3.out, hwr]; rfl
          clear hwr
          unfold lwV
          go_wp2
          go_ret2
          exact ⟨by rw [HN4.out]; rfl, HB5.out⟩
        | some q =>
          have HN4 : Hid (chkP nc ng np ⟨pm, code⟩ = (80, q)) := by show _ = _; rw [HN3.out, hwr]; rfl
          clear hwr
          unfold lwV
          go_wp2
          go_ret2
          exact ⟨by rw [HN4.out]; rfl, HB5.out⟩
end Go.Proofs.YtpkohocjgnodnaaGreatDoor

/- Code is checked. -/
namespace Go.Proofs.YtpkohocjgnodnaaGreatDoor
open Go.RowKit

/-- The first error of procedures, its procedure and its place. -/
def chkPs (nc ng np : Nat) : List Prc → Nat → Int × Nat × Nat
  | [], _ => (0, 0, 0)
  | p :: r, j => if (chkP nc ng np p).1 = 0 then chkPs nc ng np r (j + 1) else ((chkP nc ng np p).1, j, (chkP nc ng np p).2)
/-- Code's error, its procedure and its place. -/
def chkC (c : Cd) : Int × Nat × Nat := if listsE c = 0 then chkPs c.consts.length c.globals.length c.procs.length c.procs 0 else (listsE c, 0, 0)
def eppV (r : Int × Nat × Nat) : Value := .tuple #[.int .i64 r.1, .int .i64 (r.2.1 : Nat), .int .i64 (r.2.2 : Nat)]
theorem PR.at {w : World} {ra : Option Addr} {l : List Prc} (h : PR w ra l) : ∃ b o, (l.length ≠ 0 → ra = some ⟨b, o, none⟩) ∧ ∀ j x, l[j]? = some x → b < w.heap.size ∧ w.cell? ⟨b, o + j * 2, none⟩ = some (.int .i64 x.params) ∧ (∃ rc cc, w.cell? ⟨b, o + j * 2 + 1, none⟩ = some (.slice rc x.code.length cc) ∧ NR w rc x.code) ∧ x.code.length ≤ maxLen := by
  obtain ⟨b, o, h1, h2⟩ := h
  exact ⟨b, o, fun h0 => h1.resolve_left h0, h2⟩

set_option maxRecDepth 100000 in
set_option maxHeartbeats 8000000 in
theorem check_any (c : Cd) (v : Value) (w : World) (hv : CV w v c) (hx : ∀ t ∈ c.globals, t.length ≤ 281474976710656) (hT : Tab w) (hE : EV w) (hP : PT w) :
    Calls Tryz.prog 10 #[v] w fun e w' => e = .returned (eppV (chkC c)) ∧ Below w.heap.size w w' := by
  obtain ⟨⟨r1, c1, r2, c2, r3, c3, rfl, hw, hp, hxr, hc3⟩, hl⟩ := hv
  have Hl : Hid (c.consts.length ≤ maxLen ∧ c.procs.length ≤ maxLen ∧ c.globals.length ≤ maxLen) := hl
  obtain ⟨n1, n2, n3⟩ := hl
  unfold maxLen at n1 n2 n3
  have hal : Below w.heap.size w (w.alloc (.cells #[.slice r1 c.consts.length c1, .slice r2 c.procs.length c2, .slice r3 c.globals.length c3] 26)) := (Below.refl _ w).alloc (Nat.le_refl _) _
  have HLs : Hid (Calls Tryz.prog 32 #[.agg #[.slice r1 c.consts.length c1, .slice r2 c.procs.length c2, .slice r3 c.globals.length c3]] (w.alloc (.cells #[.slice r1 c.consts.length c1, .slice r2 c.procs.length c2, .slice r3 c.globals.length c3] 26)) fun e w' => e = .returned (.int .i64 (listsE c)) ∧ Below (w.alloc (.cells #[.slice r1 c.consts.length c1, .slice r2 c.procs.length c2, .slice r3 c.globals.length c3] 26)).heap.size (w.alloc (.cells #[.slice r1 c.consts.length c1, .slice r2 c.procs.length c2, .slice r3 c.globals.length c3] 26)) w') :=
    checkLists_any c r1 r2 r3 c1 c2 c3 _ Hl.out (hw.below hal) (hxr.below hal) hc3 hx (hT.below hal hT.lt) (hE.below hal hE.lt)
  have HB : Hid _ := hal
  have HPr : Hid (PR w r2 c.procs) := hp
  have HP : Hid (PT w) := hP
  have HQ : Hid ((w.alloc (.cells #[.slice r1 c.consts.length c1, .slice r2 c.procs.length c2, .slice r3 c.globals.length c3] 26)).heap[w.heap.size]? = some (.cells #[.slice r1 c.consts.length c1, .slice r2 c.procs.length c2, .slice r3 c.globals.length c3] 26 (0, 0))) := heap_alloc_new _ _
  clear hal hw hp hxr hT hE hx hP
  go_enter Tryz.func10, Tryz.ntmps10
  go_wp2_with fail
  refine Calls.mono HLs.out ?_
  rintro e w1 ⟨rfl, hb1⟩
  have HS1 : Hid (w.heap.size + 1 ≤ w1.heap.size) := by show _ ≤ _; have := hb1.size; rw [World.size_alloc] at this; exact this
  have HB1 : Hid (Below w.heap.size w w1) := HB.out.trans (hb1.mono HB.out.size)
  have HQ1 : Hid (w1.heap[w.heap.size]? = some (.cells #[.slice r1 c.consts.length c1, .slice r2 c.procs.length c2, .slice r3 c.globals.length c3] 26 (0, 0))) := (hb1.block w.heap.size (by simp)).trans HQ.out
  clear hb1 HLs
  by_cases hle : listsE c = 0
  · have HV : Hid (chkC c = chkPs c.consts.length c.globals.length c.procs.length c.procs 0) := by show _ = _; unfold chkC; rw [if_pos hle]
    have u1 : w1.cell? ⟨w.heap.size, 1, none⟩ = some (.slice r2 c.procs.length c2) := by simp [World.cell?, HQ1.out]
    have s0 : w.heap.size < w1.heap.size := by have := HS1.out; omega
    rw [hle]
    clear hle
    obtain ⟨b, o, q1, q2⟩ := PR.at HPr.out
    have Q1 : Hid (c.procs.length ≠ 0 → r2 = some ⟨b, o, none⟩) := q1
    have Q2 : Hid (∀ j x, c.procs[j]? = some x → b < w.heap.size ∧ w.cell? ⟨b, o + j * 2, none⟩ = some (.int .i64 x.params) ∧ (∃ rc cc, w.cell? ⟨b, o + j * 2 + 1, none⟩ = some (.slice rc x.code.length cc) ∧ NR w rc x.code) ∧ x.code.length ≤ maxLen) := q2
    clear q1 q2
    go_wp2
    go_loopw [18, 6, 7, 8, 9] (fun i _ _ _ _ wr => ∃ j : Nat, i = .int .i64 j ∧ j ≤ c.procs.length ∧ Hid (chkC c = chkPs c.consts.length c.globals.length c.procs.length (c.procs.drop j) j) ∧ Hid (Below (w.heap.size + 1) w1 wr)) (fun i _ _ _ _ _ => c.procs.length - (intOf i).toNat)
    case atStart => exact ⟨0, rfl, Nat.zero_le _, by show _ = _; rw [HV.out]; simp, Below.refl _ _⟩
    case round =>
      obtain ⟨j, rfl, hj, HN, HW⟩ := hrel
      have HBr : Hid (Below w.heap.size w wr) := HB1.out.trans (HW.out.mono (by omega))
      have hsz : w.heap.size + 1 ≤ wr.heap.size := Nat.le_trans HS1.out HW.out.size
      by_cases hlt : j < c.procs.length
      · have i1 : (j : Int) < (c.procs.length : Int) := by omega
        have hra := Q1.out (by omega)
        subst hra
        have e0 : wr.heap[w.heap.size]? = some (.cells #[.slice r1 c.consts.length c1, .slice (some ⟨b, o, none⟩) c.procs.length c2, .slice r3 c.globals.length c3] 26 (0, 0)) := (HW.out.block _ (by omega)).trans HQ1.out
        have u0 : wr.cell? ⟨w.heap.size, 0, none⟩ = some (.slice r1 c.consts.length c1) := by simp [World.cell?, e0]
        have u1 : wr.cell? ⟨w.heap.size, 1, none⟩ = some (.slice (some ⟨b, o, none⟩) c.procs.length c2) := by simp [World.cell?, e0]
        have u2 : wr.cell? ⟨w.heap.size, 2, none⟩ = some (.slice r3 c.globals.length c3) := by simp [World.cell?, e0]
        have hx : c.procs[j]? = some c.procs[j] := List.getElem?_eq_getElem hlt
        have hdr : c.procs.drop j = c.procs[j] :: c.procs.drop (j + 1) := List.drop_eq_getElem_cons hlt
        generalize c.procs[j] = x at hx hdr
        obtain ⟨k0, k1, ⟨rc, cc, k2, k3⟩, k4⟩ := Q2.out j x hx
        have f1 : wr.cell? ⟨b, o + j * 2, none⟩ = some (.int .i64 x.params) := (HBr.out.cell (p := ⟨b, o + j * 2, none⟩) k0).trans k1
        have f2 : wr.cell? ⟨b, o + j * 2 + 1, none⟩ = some (.slice rc x.code.length cc) := (HBr.out.cell (p := ⟨b, o + j * 2 + 1, none⟩) k0).trans k2
        have f0 : b < wr.heap.size := Nat.lt_of_lt_of_le k0 HBr.out.size
        have HBa : Hid (Below w.heap.size w (wr.alloc (.cells #[.int .i64 x.params, .slice rc x.code.length cc] 64))) := HBr.out.alloc (by omega) _
        have HWa : Hid (Below (w.heap.size + 1) w1 (wr.alloc (.cells #[.int .i64 x.params, .slice rc x.code.length cc] 64))) := HW.out.alloc hsz _
        have HCp : Hid (∀ w5 : World, Below w.heap.size w w5 → Calls Tryz.prog 33 #[.agg #[.slice r1 c.consts.length c1, .slice (some ⟨b, o, none⟩) c.procs.length c2, .slice r3 c.globals.length c3], .agg #[.int .i64 x.params, .slice rc x.code.length cc]] w5 fun e w' => e = .returned (epV (chkP c.consts.length c.globals.length c.procs.length x)) ∧ Below w5.heap.size w5 w') :=
          fun w5 h5 => checkProc_any c.consts.length c.procs.length c.globals.length x r1 (some ⟨b, o, none⟩) r3 rc c1 c2 c3 cc w5 ⟨Hl.out.1, Hl.out.2.1, Hl.out.2.2, k4⟩ (k3.below h5) (HP.out.below h5)
        have HN2 : Hid (chkC c = if (chkP c.consts.length c.globals.length c.procs.length x).1 = 0 then chkPs c.consts.length c.globals.length c.procs.length (c.procs.drop (j + 1)) (j + 1) else ((chkP c.consts.length c.globals.length c.procs.length x).1, j, (chkP c.consts.length c.globals.length c.procs.length x).2)) := by show _ = _; rw [HN.out, hdr]; rfl
        have s0 : w.heap.size < wr.heap.size := by omega
        have s0' : w.heap.size < wr.heap.size + 1 := by omega
        clear hx hdr k0 k1 k2 k3 k4 e0
        go_wp2_with fail
        refine (HCp.out _ HBa.out).mono ?_
        rintro e w4 ⟨rfl, hb4⟩
        have HW4 : Hid (Below (w.heap.size + 1) w1 w4) := HWa.out.trans (hb4.mono (by rw [World.size_alloc]; omega))
        have HB4 : Hid (Below w.heap.size w w4) := HBa.out.trans (hb4.mono HBa.out.size)
        clear hb4 u0 u1 u2 f1 f2 HCp
        generalize chkP c.consts.length c.globals.length c.procs.length x = r at HN2 ⊢
        obtain ⟨er, pl⟩ := r
        unfold epV
        by_cases her : er = 0
        · subst her
          have HN3 : Hid (chkC c = chkPs c.consts.length c.globals.length c.procs.length (c.procs.drop (j + 1)) (j + 1)) := by show _ = _; rw [HN2.out]; rfl
          go_wp2
          go_roundw
          case rel => exact ⟨j + 1, by go_num, by omega, HN3, HW4⟩
          case measure => simp [intOf]; omega
        · have HN3 : Hid (chkC c = (er, j, pl)) := by show _ = _; rw [HN2.out]; exact if_neg her
          have her' : (er == 0) = false := by simpa using her
          clear her
          go_wp2
          go_ret3
          exact ⟨by rw [HN3.out]; rfl, HB4.out⟩
      · have i1 : ¬ (j : Int) < (c.procs.length : Int) := by omega
        have HN3 : Hid (chkC c = (0, 0, 0)) := by show _ = _; rw [HN.out, List.drop_of_length_le (by omega)]; rfl
        go_wp2
        go_ret3
        exact ⟨by rw [HN3.out]; rfl, HBr.out⟩
  · have HV : Hid (chkC c = (listsE c, 0, 0)) := by show _ = _; unfold chkC; rw [if_neg hle]
    have hle' : (listsE c == 0) = false := by simpa using hle
    clear hle
    go_wp2
    go_ret3
    exact ⟨by rw [HV.out]; rfl, HB1.out⟩
end Go.Proofs.YtpkohocjgnodnaaGreatDoor
