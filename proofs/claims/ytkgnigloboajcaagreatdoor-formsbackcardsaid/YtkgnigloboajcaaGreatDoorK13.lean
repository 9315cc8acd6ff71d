/- strings.Builder: WriteByte and WriteString: the shelf's contracts, laid by hand.; isQuoted.; The text of data; a builder that holds a text. -/
import Derived.Test.YtkgnigloboajcaaGreatDoorK12
set_option maxRecDepth 100000
set_option maxHeartbeats 4000000
namespace Go.Proofs.YtkgnigloboajcaaGreatDoor
open Go.RowKit
def bren:Go.Shelf.Ren:=⟨fun|167=>131|166=>161|240=>160|276=>182|n=>n,fun|0=>0|3=>3|4=>4|5=>5|9=>9|20=>20|37=>152|70=>203|72=>205|75=>207|80=>210|164=>246|n=>n,fun|n=>n⟩
theorem blays167:Lays.n167 Tryz.prog bren:={
 mixed:=by kernel_rfl
 f167:=Tryz.func131.trans (congrArg some (by kernel_rfl))
 f240:=Tryz.func160.trans (congrArg some (by kernel_rfl))
 f276:=Tryz.func182.trans (congrArg some (by kernel_rfl))
 t0:=Tryz.underlying0
 a0:=Tryz.isAgg0
 z0:=Tryz.sizeOf0
 v0:=Tryz.zeroValue0
 t4:=Tryz.underlying4
 a4:=Tryz.isAgg4
 z4:=Tryz.sizeOf4
 v4:=Tryz.zeroValue4
 t5:=Tryz.underlying5
 a5:=Tryz.isAgg5
 z5:=Tryz.sizeOf5
 v5:=Tryz.zeroValue5
 t9:=Tryz.underlying9
 a9:=Tryz.isAgg9
 z9:=Tryz.sizeOf9
 v9:=Tryz.zeroValue9
 t20:=Tryz.underlying20
 a20:=Tryz.isAgg20
 z20:=Tryz.sizeOf20
 v20:=Tryz.zeroValue20
 t37:=Tryz.underlying152
 a37:=Tryz.isAgg152
 z37:=Tryz.sizeOf152
 v37:=Tryz.zeroValue152
 t70:=Tryz.underlying203
 a70:=Tryz.isAgg203
 z70:=Tryz.sizeOf203
 v70:=Tryz.zeroValue203
 t72:=Tryz.underlying205
 a72:=Tryz.isAgg205
 z72:=Tryz.sizeOf205
 v72:=Tryz.zeroValue205
 t75:=Tryz.underlying207
 a75:=Tryz.isAgg207
 z75:=Tryz.sizeOf207
 v75:=Tryz.zeroValue207
 t164:=Tryz.underlying246
 a164:=Tryz.isAgg246
 z164:=Tryz.sizeOf246
 v164:=Tryz.zeroValue246 }
theorem blays166:Lays.n166 Tryz.prog bren:={
 mixed:=by kernel_rfl
 f166:=Tryz.func161.trans (congrArg some (by kernel_rfl))
 f240:=Tryz.func160.trans (congrArg some (by kernel_rfl))
 f276:=Tryz.func182.trans (congrArg some (by kernel_rfl))
 t0:=Tryz.underlying0
 a0:=Tryz.isAgg0
 z0:=Tryz.sizeOf0
 v0:=Tryz.zeroValue0
 t3:=Tryz.underlying3
 a3:=Tryz.isAgg3
 z3:=Tryz.sizeOf3
 v3:=Tryz.zeroValue3
 t4:=Tryz.underlying4
 a4:=Tryz.isAgg4
 z4:=Tryz.sizeOf4
 v4:=Tryz.zeroValue4
 t9:=Tryz.underlying9
 a9:=Tryz.isAgg9
 z9:=Tryz.sizeOf9
 v9:=Tryz.zeroValue9
 t20:=Tryz.underlying20
 a20:=Tryz.isAgg20
 z20:=Tryz.sizeOf20
 v20:=Tryz.zeroValue20
 t37:=Tryz.underlying152
 a37:=Tryz.isAgg152
 z37:=Tryz.sizeOf152
 v37:=Tryz.zeroValue152
 t70:=Tryz.underlying203
 a70:=Tryz.isAgg203
 z70:=Tryz.sizeOf203
 v70:=Tryz.zeroValue203
 t72:=Tryz.underlying205
 a72:=Tryz.isAgg205
 z72:=Tryz.sizeOf205
 v72:=Tryz.zeroValue205
 t75:=Tryz.underlying207
 a75:=Tryz.isAgg207
 z75:=Tryz.sizeOf207
 v75:=Tryz.zeroValue207
 t164:=Tryz.underlying246
 a164:=Tryz.isAgg246
 z164:=Tryz.sizeOf246
 v164:=Tryz.zeroValue246 }
theorem bextra:Builder.Extra Tryz.prog bren:={
 sizeBuilder:=by kernel_rfl
 liesBuilder:=by kernel_rfl
 t5:=Tryz.underlying5
 a5:=Tryz.isAgg5
 z5:=Tryz.sizeOf5
 v5:=Tryz.zeroValue5
 infoByte:=by kernel_rfl
 cellsByte:=by kernel_rfl
 sizeByte:=by kernel_rfl
 neB5:=by decide }
theorem writeByte_any (B b:Nat) (bs:List Value) (c:Int) (w:World) (h:Lib.IsBuilderF 205 5 B b bs w) (hlen:bs.length+1≤140737488355328) (hBw:B≤w.heap.size) :
  Calls Tryz.prog 131 #[.pointer (some ⟨b,0,none⟩), .int .u8 c] w fun e w' => e = .returned .nilIface∧(Lib.BuilderAtF 205 5 B b (.pointer (some ⟨b,0,none⟩)) (bs++[.int .u8 c]) w' ∧ Below B w w' ∧ Lib.OthersKept 5 (some b) w w') :=
 Any.Builder_WriteByte_k blays167 bextra B b bs c w h hlen hBw
theorem writeString_any (B b:Nat) (bs:List Value) (s:ByteArray) (w:World) (h:Lib.IsBuilderF 205 5 B b bs w) (hlen:bs.length+s.size≤140737488355328) (hBw:B≤w.heap.size) :
  Calls Tryz.prog 161 #[.pointer (some ⟨b,0,none⟩), .string s] w fun e w' => e = .returned (.tuple #[.int .i64 s.size, .nilIface])∧(Lib.BuilderAtF 205 5 B b (.pointer (some ⟨b,0,none⟩)) (bs++Lib.strCells s) w' ∧ Below B w w' ∧ Lib.OthersKept 5 (some b) w w') :=
 Any.Builder_WriteString_k blays166 bextra B b bs s w h hlen hBw
def quoteB:List UInt8:=[113,117,111,116,101]
def isQ (s:Fo) (d:Bool):Bool:=match s with
 | .cons k n t s1 d1 (.cons _ _ _ _ _ .nil) => !d && sameB k n t s1 d1 2 0 quoteB .nil false
 | _=>false
theorem keepQ {W w6:World} {g b o:Nat} {v0 v1 v2 v3 v4 u0 u1 u2 u3 u4:Option Value} (hb:Below W.heap.size W w6)
  (h:((W.cell? ⟨g,0,none⟩=v0∧W.cell? ⟨g,1,none⟩=v1∧W.cell? ⟨g,2,none⟩=v2∧W.cell? ⟨g,3,none⟩=v3∧W.cell? ⟨g,4,none⟩=v4)∧g<W.heap.size)∧(W.cell? ⟨b,o,none⟩=u0∧W.cell? ⟨b,o+1,none⟩=u1∧W.cell? ⟨b,o+1+1,none⟩=u2∧W.cell? ⟨b,o+1+1+1,none⟩=u3∧W.cell? ⟨b,o+1+1+1+1,none⟩=u4)∧b<W.heap.size) :
  ((w6.cell? ⟨g,0,none⟩=v0∧w6.cell? ⟨g,1,none⟩=v1∧w6.cell? ⟨g,2,none⟩=v2∧w6.cell? ⟨g,3,none⟩=v3∧w6.cell? ⟨g,4,none⟩=v4)∧g<w6.heap.size)∧(w6.cell? ⟨b,o,none⟩=u0∧w6.cell? ⟨b,o+1,none⟩=u1∧w6.cell? ⟨b,o+1+1,none⟩=u2∧w6.cell? ⟨b,o+1+1+1,none⟩=u3∧w6.cell? ⟨b,o+1+1+1+1,none⟩=u4)∧b<w6.heap.size:=by
 obtain ⟨h1,⟨a0,a1,a2,a3,a4⟩,hg⟩:=h
 have e:∀o,w6.cell? ⟨b,o,none⟩=W.cell? ⟨b,o,none⟩:=fun o=>hb.cell (p:=⟨b,o,none⟩) hg
 exact ⟨keep5 hb h1,⟨(e _).trans a0,(e _).trans a1,(e _).trans a2,(e _).trans a3,(e _).trans a4⟩,Nat.lt_of_lt_of_le hg hb.size⟩
theorem isQuoted_n (k n:Int) (t:List UInt8) (s:Fo) (d:Bool) (rk:Option Addr) (ck:Nat) (w:World) (_:s.len≤maxLen) (hR:RS w rk s) (h2:s.len≠2) :
  Calls Tryz.prog 163 #[.agg #[.int .u8 k, .int .i64 n,S t, .slice rk s.len ck, .bool d]] w fun e w' => e = .returned (.bool false)∧Below w.heap.size w w' := by
 have HR:Hid (RS w rk s):=hR
 have hal:Below w.heap.size w (w.alloc (.cells #[.int .u8 k, .int .i64 n,S t, .slice rk s.len ck, .bool d] 32)):=(Below.refl _ w).alloc (Nat.le_refl _) _
 have Hal:Hid _:=hal
 clear hR hal
 have hmx:Tryz.prog.follows .mixedOrders=true:=by kernel_rfl
 have hw0:w.heap.size<w.heap.size+1:=by omega
 have b2:((s.len:Int) == 2)=false:=by rw [beq_eq_false_iff_ne];omega
 go_enter Tryz.func163,Tryz.ntmps163
 go_wp2_with fail
 go_quiet (fail)
 go_wp2
 go_ret
 exact ⟨rfl,Hal.out.trans ⟨rfl,rfl,rfl,Nat.le_refl _,fun _ _=>rfl⟩⟩
theorem isQuoted_d (k n:Int) (t:List UInt8) (s:Fo) (d:Bool) (rk:Option Addr) (ck:Nat) (w:World) (_:s.len≤maxLen) (hR:RS w rk s) (h2:s.len=2) (hd:d=true) :
  Calls Tryz.prog 163 #[.agg #[.int .u8 k, .int .i64 n,S t, .slice rk s.len ck, .bool d]] w fun e w' => e = .returned (.bool false)∧Below w.heap.size w w' := by
 have HR:Hid (RS w rk s):=hR
 have hal:Below w.heap.size w (w.alloc (.cells #[.int .u8 k, .int .i64 n,S t, .slice rk s.len ck, .bool d] 32)):=(Below.refl _ w).alloc (Nat.le_refl _) _
 have Hal:Hid _:=hal
 clear hR hal
 have hmx:Tryz.prog.follows .mixedOrders=true:=by kernel_rfl
 have hw0:w.heap.size<w.heap.size+1:=by omega
 subst hd
 have b2:((s.len:Int) == 2)=true:=by rw [beq_iff_eq];omega
 go_enter Tryz.func163,Tryz.ntmps163
 go_wp2_with fail
 go_quiet (fail)
 go_wp2
 go_ret
 have hl:=Hal.out
 rw [h2] at hl
 exact ⟨rfl,hl.trans ⟨rfl,rfl,rfl,Nat.le_refl _,fun _ _=>rfl⟩⟩
theorem isQuoted_t (k n:Int) (t:List UInt8) (k1 n1:Int) (t1:List UInt8) (s1:Fo) (d1:Bool) (rk:Option Addr) (ck:Nat) (w:World) (r:Fo) (hR:RS w rk (.cons k1 n1 t1 s1 d1 r)) :
  Calls Tryz.prog 163 #[.agg #[.int .u8 k, .int .i64 n,S t, .slice rk 2 ck, .bool false]] w fun e w' => e = .returned (.bool (sameB k1 n1 t1 s1 d1 2 0 quoteB .nil false))∧Below w.heap.size w w' := by
 obtain ⟨b,o,hz,⟨g0,g1,g2,g3,g4,g5⟩,⟨rk', ck', bk', ok', gk,gz,gs⟩,gr⟩:=hR
 have hra:rk=some ⟨b,o,none⟩:=hz.resolve_left (by simp [Fo.len])
 subst hra
 have HRk:Hid (RS w rk' s1):=⟨bk', ok', gz,gs⟩
 have hal:Below w.heap.size w (w.alloc (.cells #[.int .u8 k, .int .i64 n,S t, .slice (some ⟨b,o,none⟩) 2 ck, .bool false] 32)):=(Below.refl _ w).alloc (Nat.le_refl _) _
 have Hal:Hid _:=hal
 clear hal hz gz gs gr
 have hmx:Tryz.prog.follows .mixedOrders=true:=by kernel_rfl
 have hw0:w.heap.size<w.heap.size+1:=by omega
 have hb0:b<w.heap.size+1:=by omega
 have hbn:b≠w.heap.size:=by omega
 go_enter Tryz.func163,Tryz.ntmps163
 go_wp2_with fail
 first
 | go_region_held3 (fun wx=>((wx.cell? ⟨w.heap.size,0,none⟩=some (.int .u8 k)∧wx.cell? ⟨w.heap.size,1,none⟩=some (.int .i64 n)∧wx.cell? ⟨w.heap.size,2,none⟩=some (S t)∧wx.cell? ⟨w.heap.size,3,none⟩=some (.slice (some ⟨b,o,none⟩) 2 ck)∧wx.cell? ⟨w.heap.size,4,none⟩=some (.bool false))∧w.heap.size<wx.heap.size)∧(wx.cell? ⟨b,o,none⟩=some (.int .u8 k1)∧wx.cell? ⟨b,o+1,none⟩=some (.int .i64 n1)∧wx.cell? ⟨b,o+1+1,none⟩=some (S t1)∧wx.cell? ⟨b,o+1+1+1,none⟩=some (.slice rk' s1.len ck')∧wx.cell? ⟨b,o+1+1+1+1,none⟩=some (.bool d1))∧b<wx.heap.size) (first|go_keep|exact keepQ hb6 (by go_keep)|exact keepQ hb7 (by go_keep))
   (first|(go_at_call 179;refine (symbol_any _ _).mono ?_;rintro e w6 ⟨rfl,hb6⟩)|(go_at_call 178;refine (same_any k1 n1 t1 s1 d1 rk' ck' 2 0 quoteB .nil false none 0 _ g5 (by simp [Fo.len]) (((HRk.out.below Hal.out).below (Below.refl _ _).drew).below hb6) (rs_nil _ _)).mono ?_;rintro e w7 ⟨rfl,hb7⟩))
 | fail
 go_wp2
 go_ret
 exact ⟨rfl,Hal.out.drew.trans ((hb6.mono (by simp)).trans (hb7.mono (Nat.le_trans (by simp) hb6.size)))⟩
theorem isQuoted_any (k n:Int) (t:List UInt8) (s:Fo) (d:Bool) (rk:Option Addr) (ck:Nat) (w:World) (hm:s.len≤maxLen) (hR:RS w rk s) :
  Calls Tryz.prog 163 #[.agg #[.int .u8 k, .int .i64 n,S t, .slice rk s.len ck, .bool d]] w fun e w' => e = .returned (.bool (isQ s d))∧Below w.heap.size w w' := by
 match s,hm,hR with
 | .nil,hm,hR=>exact isQuoted_n k n t .nil d rk ck w hm hR (by simp [Fo.len])
 | .cons k1 n1 t1 s1 d1 .nil,hm,hR=>exact isQuoted_n k n t _ d rk ck w hm hR (by simp [Fo.len])
 | .cons k1 n1 t1 s1 d1 (.cons _ _ _ _ _ (.cons _ _ _ _ _ _)),hm,hR=>exact isQuoted_n k n t _ d rk ck w hm hR (by simp [Fo.len])
 | .cons k1 n1 t1 s1 d1 (.cons k2 n2 t2 s2 d2 .nil),hm,hR =>
  cases d with
  | true=>exact isQuoted_d k n t _ true rk ck w hm hR (by simp [Fo.len]) rfl
  | false=>exact isQuoted_t k n t k1 n1 t1 s1 d1 rk ck w _ hR
def kidsT (d:Bool):Bool→List (List UInt8)→List UInt8
 | _,[]=>[]
 | fst,x::r=>(if fst then [] else [32])++((if d && r.isEmpty then [46,32] else [])++(x++kidsT d false r))
def oneT (k n:Int) (t:List UInt8) (s:Fo) (d:Bool) (ts:List (List UInt8)):List UInt8 :=
 if k=1 then Lib.itoa n else if k=2 then t else if k=3 then [35,102] else if k=4 then [35,116]
 else if isQ s d then 39::ts.getD 1 [] else 40::(kidsT d true ts++[41])
def textsT:Fo→List (List UInt8)
 | .nil=>[]
 | .cons k n t s d r=>oneT k n t s d (textsT s)::textsT r
def linesT:List (List UInt8)→List UInt8
 | []=>[]
 | [x]=>x
 | x::y::r=>x++10::linesT (y::r)
def Bu (B b:Nat) (l:List UInt8) (w:World):Prop:=Lib.IsBuilderF 205 5 B b (Lib.byteCells l) w
def Kp (B b:Nat) (w w' : World):Prop:=Below B w w' ∧ Lib.OthersKept 5 (some b) w w'
theorem Kp.trans {B b:Nat} {u v w:World} (h:Kp B b u v) (k:Kp B b v w):Kp B b u w:=⟨h.1.trans k.1,h.2.trans k.2⟩
theorem Kp.below {B b:Nat} {w w' : World} (h:Below w.heap.size w w') (hB:B≤w.heap.size):Kp B b w w' := ⟨h.mono hB,fun k _ hk _ _=>(h.block k (Array.getElem?_eq_some_iff.1 hk).1).trans hk⟩
theorem Bu.kept {B b:Nat} {l:List UInt8} {w w' : World} (h:Bu B b l w) (hb:Below w.heap.size w w'):Bu B b l w' := by
 have go:∀p,Lib.BuilderAtF 205 5 B b p (Lib.byteCells l) w→Lib.BuilderAtF 205 5 B b p (Lib.byteCells l) w' := fun p h =>
  ⟨h.1,h.2.choose,(hb.block b h.lt).trans h.2.choose_spec.1,h.2.choose_spec.2.1.kept (row:=none) ⟨hb.os,hb.tape,hb.output,hb.size,fun k hk _=>hb.block k hk⟩ (Classical.em _),h.2.choose_spec.2.2⟩
 exact h.imp (go _) (go _)
theorem putB (B b:Nat) (l:List UInt8) (c:Nat) (hc:c<256) (w:World) (h:Bu B b l w) (hlen:l.length+1≤140737488355328) (hBw:B≤w.heap.size) :
  Calls Tryz.prog 131 #[.pointer (some ⟨b,0,none⟩), .int .u8 c] w fun e w' => e = .returned .nilIface∧Bu B b (l++[c.toUInt8]) w' ∧ Kp B b w w' := by
 refine (writeByte_any B b (Lib.byteCells l) c w h (by rw [Lib.byteCells_length];exact hlen) hBw).mono ?_
 rintro e w' ⟨rfl,h1,h2,h3⟩
 refine ⟨rfl, .inr ?_,h2,h3⟩
 rw [Lib.byteCells_append]
 have:Lib.byteCells [c.toUInt8]=[Value.int .u8 (c:Int)]:=by
  have e:c.toUInt8.toNat=c:=by rw [Nat.toUInt8_eq,UInt8.toNat_ofNat'];exact Nat.mod_eq_of_lt hc
  simp only [Lib.byteCells,List.map_cons,List.map_nil,e]
 rw [this]
 exact h1
theorem putS (B b:Nat) (l m:List UInt8) (w:World) (h:Bu B b l w) (hlen:l.length+m.length≤140737488355328) (hBw:B≤w.heap.size) :
  Calls Tryz.prog 161 #[.pointer (some ⟨b,0,none⟩), .string ⟨m.toArray⟩] w fun e w' => (∃v,e = .returned v)∧Bu B b (l++m) w' ∧ Kp B b w w' := by
 refine (writeString_any B b (Lib.byteCells l) ⟨m.toArray⟩ w h (by rw [Lib.byteCells_length];show l.length+m.toArray.size≤_;simpa using hlen) hBw).mono ?_
 rintro e w' ⟨rfl,h1,h2,h3⟩
 refine ⟨⟨_,rfl⟩, .inr ?_,h2,h3⟩
 rw [Lib.byteCells_append]
 exact h1
theorem write_2 (n:Int) (t:List UInt8) (s:Fo) (d:Bool) (rk:Option Addr) (ck B b:Nat) (l:List UInt8) (w:World) (h:Bu B b l w) (hlen:l.length+t.length≤140737488355328) (hBw:B≤w.heap.size) :
  Calls Tryz.prog 132 #[.pointer (some ⟨b,0,none⟩), .agg #[.int .u8 2, .int .i64 n,S t, .slice rk s.len ck, .bool d]] w fun e w' => (∃v,e = .returned v)∧Bu B b (l++t) w' ∧ Kp B b w w' := by
 have H:Hid (Bu B b l w):=h
 clear h
 have hal:Below w.heap.size w (w.alloc (.cells #[.int .u8 2, .int .i64 n,S t, .slice rk s.len ck, .bool d] 32)):=(Below.refl _ w).alloc (Nat.le_refl _) _
 have Hal:Hid _:=hal
 clear hal
 go_enter Tryz.func132,Tryz.ntmps132
 go_wp2_with fail
 refine (putS B b l t _ (Bu.kept H.out Hal.out) hlen (Nat.le_trans hBw Hal.out.size)).mono ?_
 rintro e w1 ⟨⟨v,rfl⟩,hB1,hK1⟩
 have HB1:Hid (Bu B b _ w1):=hB1
 have HK1:Hid (Kp B b _ w1):=hK1
 clear hB1 hK1
 go_wp2
 go_end0
 exact ⟨⟨_,rfl⟩,HB1.out,(Kp.below Hal.out hBw).trans HK1.out⟩
theorem write_3 (n:Int) (t:List UInt8) (s:Fo) (d:Bool) (rk:Option Addr) (ck B b:Nat) (l:List UInt8) (w:World) (h:Bu B b l w) (hlen:l.length+2≤140737488355328) (hBw:B≤w.heap.size) :
  Calls Tryz.prog 132 #[.pointer (some ⟨b,0,none⟩), .agg #[.int .u8 3, .int .i64 n,S t, .slice rk s.len ck, .bool d]] w fun e w' => (∃v,e = .returned v)∧Bu B b (l++[35,102]) w' ∧ Kp B b w w' := by
 have H:Hid (Bu B b l w):=h
 clear h
 have hal:Below w.heap.size w (w.alloc (.cells #[.int .u8 3, .int .i64 n,S t, .slice rk s.len ck, .bool d] 32)):=(Below.refl _ w).alloc (Nat.le_refl _) _
 have Hal:Hid _:=hal
 clear hal
 go_enter Tryz.func132,Tryz.ntmps132
 go_wp2_with fail
 refine (putS B b l [35,102] _ (Bu.kept H.out Hal.out) hlen (Nat.le_trans hBw Hal.out.size)).mono ?_
 rintro e w1 ⟨⟨v,rfl⟩,hB1,hK1⟩
 have HB1:Hid (Bu B b _ w1):=hB1
 have HK1:Hid (Kp B b _ w1):=hK1
 clear hB1 hK1
 go_wp2
 go_end0
 exact ⟨⟨_,rfl⟩,HB1.out,(Kp.below Hal.out hBw).trans HK1.out⟩
theorem write_4 (n:Int) (t:List UInt8) (s:Fo) (d:Bool) (rk:Option Addr) (ck B b:Nat) (l:List UInt8) (w:World) (h:Bu B b l w) (hlen:l.length+2≤140737488355328) (hBw:B≤w.heap.size) :
  Calls Tryz.prog 132 #[.pointer (some ⟨b,0,none⟩), .agg #[.int .u8 4, .int .i64 n,S t, .slice rk s.len ck, .bool d]] w fun e w' => (∃v,e = .returned v)∧Bu B b (l++[35,116]) w' ∧ Kp B b w w' := by
 have H:Hid (Bu B b l w):=h
 clear h
 have hal:Below w.heap.size w (w.alloc (.cells #[.int .u8 4, .int .i64 n,S t, .slice rk s.len ck, .bool d] 32)):=(Below.refl _ w).alloc (Nat.le_refl _) _
 have Hal:Hid _:=hal
 clear hal
 go_enter Tryz.func132,Tryz.ntmps132
 go_wp2_with fail
 refine (putS B b l [35,116] _ (Bu.kept H.out Hal.out) hlen (Nat.le_trans hBw Hal.out.size)).mono ?_
 rintro e w1 ⟨⟨v,rfl⟩,hB1,hK1⟩
 have HB1:Hid (Bu B b _ w1):=hB1
 have HK1:Hid (Kp B b _ w1):=hK1
 clear hB1 hK1
 go_wp2
 go_end0
 exact ⟨⟨_,rfl⟩,HB1.out,(Kp.below Hal.out hBw).trans HK1.out⟩
end Go.Proofs.YtkgnigloboajcaaGreatDoor
