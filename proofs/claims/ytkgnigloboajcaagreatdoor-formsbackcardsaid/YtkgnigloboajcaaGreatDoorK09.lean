/- The deferred function that recovers.; The deferred function that recovers: a fault.; Read. -/
import Derived.Test.YtkgnigloboajcaaGreatDoorK08
import Derived.Laws.EntriesVeiled
namespace Go.Proofs.YtkgnigloboajcaaGreatDoor
open Go.RowKit
section
variable {P:Program} {ops:Array Oper} {Q:Exit→Act→List Frame→World→Prop} {a:Act} {cs cs' : List Frame} {w:World} {i:Nat} {rest:List Nat} {o:Oper} {v:Value}
theorem wpOpsS_cons (ho:ops[i]?=some o) (hw:Region.wanted o (yielded ops a.tmps)=true) (hr:o.wp P a w (fun a' w' => wpOpsS P ops Q rest a' cs w') (fun e a' w' => Q e a' cs w')):wpOpsS P ops Q (i::rest) a cs w:=by
 unfold wpOpsS
 rw [ho]
 simp only [hw,if_true]
 unfold Oper.wp at hr
 cases h:(execOp a.eval o).run P w with
 | halt x w' => rw [h] at hr;exact hr
 | ok x w' =>
  rw [h] at hr
  cases x<;>first|exact hr|exact hr.elim
theorem wpOpsS_none (ho:ops[i]?=some o) (hw:Region.wanted o (yielded ops a.tmps)=true) (hx:(execOp a.eval o).run P w = .ok .recover w) (hd:recoverD cs=none) (h:wpOpsS P ops Q rest (a.put o.dst .nilIface) cs w):wpOpsS P ops Q (i::rest) a cs w:=by
 unfold wpOpsS
 rw [ho]
 simp only [hw,if_true,hx,hd]
 exact h
theorem wpOpsS_some (ho:ops[i]?=some o) (hw:Region.wanted o (yielded ops a.tmps)=true) (hx:(execOp a.eval o).run P w = .ok .recover w) (hd:recoverD cs=some (v,cs')) (h:wpOpsS P ops Q rest (a.put o.dst v) cs' w):wpOpsS P ops Q (i::rest) a cs w:=by
 unfold wpOpsS
 rw [ho]
 simp only [hw,if_true,hx,hd]
 exact h
end
structure But3 (b0 b1 b2:Nat) (w w' : World):Prop where
 os:w'.os=w.os
 tape:w'.tape=w.tape
 output:w'.output=w.output
 size:w.heap.size≤w'.heap.size
 block:∀g,g<w.heap.size→g≠b0→g≠b1→g≠b2→w'.heap[g]?=w.heap[g]?
theorem But3.trans {b0 b1 b2:Nat} {a b c:World} (h:But3 b0 b1 b2 a b) (k:But3 b0 b1 b2 b c):But3 b0 b1 b2 a c :=
 ⟨k.os.trans h.os,k.tape.trans h.tape,k.output.trans h.output,Nat.le_trans h.size k.size,fun g hg n0 n1 n2=>(k.block g (Nat.lt_of_lt_of_le hg h.size) n0 n1 n2).trans (h.block g hg n0 n1 n2)⟩
theorem But3.of_below {b0 b1 b2:Nat} {w w' : World} (h:Below w.heap.size w w'):But3 b0 b1 b2 w w' := ⟨h.os,h.tape,h.output,h.size,fun g hg _ _ _=>h.block g hg⟩
theorem But3.set {b0 b1 b2 b o:Nat} {w w' : World} (h:But3 b0 b1 b2 w w') (hb:b=b0∨b=b1∨b=b2) (v:Value):But3 b0 b1 b2 w (w'.setCell ⟨b,o,none⟩ v) :=
 h.trans ⟨rfl,rfl,rfl,by simp [World.setCell],fun g _ n0 n1 n2=>Below.heap_setCell _ _ _ _ (by show g≠b;rcases hb with rfl|rfl|rfl<;>assumption)⟩
theorem But3.alloc {b0 b1 b2:Nat} {w w' : World} (h:But3 b0 b1 b2 w w') (o:Obj):But3 b0 b1 b2 w (w'.alloc o):=h.trans (But3.of_below ((Below.refl _ _).alloc (Nat.le_refl _) _))
theorem But3.drew {b0 b1 b2:Nat} {w w' : World} (h:But3 b0 b1 b2 w w'):But3 b0 b1 b2 w w'.drew:=h.trans ⟨rfl,rfl,rfl,Nat.le_refl _,fun _ _ _ _ _=>rfl⟩
end Go.Proofs.YtkgnigloboajcaaGreatDoor
