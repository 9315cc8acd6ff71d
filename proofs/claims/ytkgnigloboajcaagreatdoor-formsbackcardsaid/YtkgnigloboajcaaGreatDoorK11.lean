/- isDatum of a symbol, lemmas.; isDatum of a symbol, that has more than its name.; isDatum of a symbol, that is one in its form. -/
import Derived.Test.YtkgnigloboajcaaGreatDoorK10
import Derived.Shelf.RegionOpenPlain
import Derived.Deep.RegionWith
set_option maxRecDepth 100000
set_option maxHeartbeats 4000000
namespace Go.Proofs.YtkgnigloboajcaaGreatDoor
open Go.RowKit
theorem rs_nil (w:World) (ra:Option Addr):RS w ra .nil:=⟨0,0, .inl rfl,trivial⟩
theorem keep5 {W w6:World} {g:Nat} {v0 v1 v2 v3 v4:Option Value} (hb:Below W.heap.size W w6)
  (h:(W.cell? ⟨g,0,none⟩=v0∧W.cell? ⟨g,1,none⟩=v1∧W.cell? ⟨g,2,none⟩=v2∧W.cell? ⟨g,3,none⟩=v3∧W.cell? ⟨g,4,none⟩=v4)∧g<W.heap.size) :
  (w6.cell? ⟨g,0,none⟩=v0∧w6.cell? ⟨g,1,none⟩=v1∧w6.cell? ⟨g,2,none⟩=v2∧w6.cell? ⟨g,3,none⟩=v3∧w6.cell? ⟨g,4,none⟩=v4)∧g<w6.heap.size:=by
 obtain ⟨⟨a0,a1,a2,a3,a4⟩,hg⟩:=h
 have e:∀o,w6.cell? ⟨g,o,none⟩=W.cell? ⟨g,o,none⟩:=fun o=>hb.cell (p:=⟨g,o,none⟩) hg
 exact ⟨⟨(e _).trans a0,(e _).trans a1,(e _).trans a2,(e _).trans a3,(e _).trans a4⟩,Nat.lt_of_lt_of_le hg hb.size⟩
theorem isDatum_sym_f (n:Int) (t:List UInt8) (s:Fo) (d:Bool) (rk:Option Addr) (ck:Nat) (w:World) (hm:s.len≤maxLen) (hR:RS w rk s) (ht:t.length≤281474976710656) (hE:EV w) (hsb:sameB 2 n t s d 2 0 t .nil false=false) :
  Calls Tryz.prog 159 #[.agg #[.int .u8 2, .int .i64 n,S t, .slice rk s.len ck, .bool d]] w fun e w' => e = .returned (.bool false)∧Below w.heap.size w w' := by
 have HR:Hid (RS w rk s):=hR
 have HE:Hid (EV w):=hE
 have hal:Below w.heap.size w (w.alloc (.cells #[.int .u8 2, .int .i64 n,S t, .slice rk s.len ck, .bool d] 32)):=(Below.refl _ w).alloc (Nat.le_refl _) _
 have Hal:Hid _:=hal
 clear hR hE hal
 have hmx:Tryz.prog.follows .mixedOrders=true:=by kernel_rfl
 have hes:((⟨t.toArray⟩:ByteArray).size)≤281474976710656:=by show t.toArray.size≤_;simpa using ht
 have Hes:Hid _:=hes
 have HEa:Hid (EV (w.alloc (.cells #[.int .u8 2, .int .i64 n,S t, .slice rk s.len ck, .bool d] 32))):=HE.out.alloc _
 have hw0:w.heap.size<w.heap.size+1:=by omega
 have HS:Hid _:=hsb
 clear hsb hes
 go_enter Tryz.func159,Tryz.ntmps159
 go_wp2_with fail
 first
 | go_region_with (first
  | (go_at_call 179;refine (symbol_any _ _).mono ?_;rintro e w6 ⟨rfl,hb6⟩;obtain ⟨⟨c0,c1,c2,c3,c4⟩,cl⟩:=keep5 (g:=w.heap.size) (v0:=some (.int .u8 2)) (v1:=some (.int .i64 n)) (v2:=some (S t)) (v3:=some (.slice rk s.len ck)) (v4:=some (.bool d)) hb6 (by go_keep))
  | (go_at_call 178;refine (same_any 2 n t s d rk ck 2 0 t .nil false none 0 _ hm (by simp [Fo.len]) (((HR.out.below Hal.out).below (Below.refl _ _).drew).below hb6) (rs_nil _ _)).mono ?_;rintro e w7 ⟨rfl,hb7⟩;rw [HS.out]))
 | fail
 all_goals go_wp2
 all_goals go_ret
 all_goals exact ⟨rfl,Hal.out.drew.trans ((hb6.mono (by simp)).trans (hb7.mono (Nat.le_trans (by simp) hb6.size)))⟩
theorem isDatum_sym_t (n:Int) (t:List UInt8) (s:Fo) (d:Bool) (rk:Option Addr) (ck:Nat) (w:World) (hm:s.len≤maxLen) (hR:RS w rk s) (ht:t.length≤281474976710656) (hE:EV w) (hsb:sameB 2 n t s d 2 0 t .nil false=true) :
  Calls Tryz.prog 159 #[.agg #[.int .u8 2, .int .i64 n,S t, .slice rk s.len ck, .bool d]] w fun e w' => e = .returned (.bool (symB t))∧Below w.heap.size w w' := by
 have HR:Hid (RS w rk s):=hR
 have HE:Hid (EV w):=hE
 have hal:Below w.heap.size w (w.alloc (.cells #[.int .u8 2, .int .i64 n,S t, .slice rk s.len ck, .bool d] 32)):=(Below.refl _ w).alloc (Nat.le_refl _) _
 have Hal:Hid _:=hal
 clear hR hE hal
 have hmx:Tryz.prog.follows .mixedOrders=true:=by kernel_rfl
 have hes:((⟨t.toArray⟩:ByteArray).size)≤281474976710656:=by show t.toArray.size≤_;simpa using ht
 have Hes:Hid _:=hes
 have HEa:Hid (EV (w.alloc (.cells #[.int .u8 2, .int .i64 n,S t, .slice rk s.len ck, .bool d] 32))):=HE.out.alloc _
 have hw0:w.heap.size<w.heap.size+1:=by omega
 have HS:Hid _:=hsb
 clear hsb hes
 go_enter Tryz.func159,Tryz.ntmps159
 go_wp2_with fail
 go_region_held3 (fun wx=>(wx.cell? ⟨w.heap.size,0,none⟩=some (.int .u8 2)∧wx.cell? ⟨w.heap.size,1,none⟩=some (.int .i64 n)∧wx.cell? ⟨w.heap.size,2,none⟩=some (S t)∧wx.cell? ⟨w.heap.size,3,none⟩=some (.slice rk s.len ck)∧wx.cell? ⟨w.heap.size,4,none⟩=some (.bool d))∧w.heap.size<wx.heap.size) (first|go_keep|exact keep5 hb6 (by go_keep)|exact keep5 hb7 (by go_keep)|exact keep5 hb8 (by go_keep))
  (first|(go_at_call 179;refine (symbol_any _ _).mono ?_;rintro e w6 ⟨rfl,hb6⟩)|(go_at_call 178;refine (same_any 2 n t s d rk ck 2 0 t .nil false none 0 _ hm (by simp [Fo.len]) (((HR.out.below Hal.out).below (Below.refl _ _).drew).below hb6) (rs_nil _ _)).mono ?_;rintro e w7 ⟨rfl,hb7⟩;rw [HS.out])|(go_at_call 180;refine (isSymbol_any ⟨t.toArray⟩ _ Hes.out ((((HEa.out.below (Below.refl _ _).drew HEa.out.lt).below hb6 HEa.out.lt).below hb7 (Nat.lt_of_lt_of_le HEa.out.lt hb6.size)))).mono ?_;rintro e w8 ⟨rfl,hb8⟩))
 go_wp2
 go_ret
 exact ⟨rfl,Hal.out.drew.trans ((hb6.mono (by simp)).trans ((hb7.mono (Nat.le_trans (by simp) hb6.size)).trans (hb8.mono (Nat.le_trans (by simp) (Nat.le_trans hb6.size hb7.size)))))⟩
end Go.Proofs.YtkgnigloboajcaaGreatDoor
