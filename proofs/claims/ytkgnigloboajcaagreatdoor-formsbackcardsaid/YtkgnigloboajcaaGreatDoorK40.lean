/- The example, reckoned.; SameData, SameDatum.; The document's SameInts, SameTexts. -/
import Derived.Test.YtkgnigloboajcaaGreatDoorK16
import Derived.Test.YtkgnigloboajcaaGreatDoorK39
import Derived.BigQuiet
set_option maxRecDepth 100000
set_option maxHeartbeats 4000000
namespace Go.Proofs.YtkgnigloboajcaaGreatDoor
theorem kn_of1:ofM (exD lamF)=(lamFrm,0,[]):=by kernel_rfl
theorem kn_back:backM lamFrm=(exD lamF,0):=by kernel_rfl
theorem kn_names:usesM lamFrm=[[121]]:=by kernel_rfl
theorem kn_of2:ofM (exD twiF)=(frm0,72,[1,1]):=by kernel_rfl
theorem kn_prim:primOf [99,97,115]=some 9:=by kernel_rfl
theorem dok_of {s:Fo} (h:s.size≤100) (ht:s.tx):DOk (exD s):=⟨by show s.size≤_;omega,by simp [exD],ht⟩
theorem lam_dok:DOk (exD lamF):=dok_of (by decide) (by simp [lamF,symF,lstF,sumF,Fo.tx])
theorem twi_dok:DOk (exD twiF):=dok_of (by decide) (by simp [twiF,symF,lstF,Fo.tx])
theorem lam_fok:FOk lamFrm:=⟨by simp [lamFrm],by simp [lamFrm],by simp [lamFrm],by simp [lamFrm,callFm,Fm.len],⟨by simp [lamFrm,dt0,Fo.size],by simp [lamFrm,dt0],trivial⟩⟩
theorem name_fok (t:List UInt8) (h:t.length≤10):FOk ⟨2,t,[], .nil,⟨0,0,[], .nil,false⟩⟩:=⟨by show t.length≤_;omega,by simp,by simp,by simp [Fm.len],⟨by simp [Fo.size],by simp,trivial⟩⟩
theorem lam_oks:lamFrm.kids.oks:=⟨⟨by simp,by simp,by simp,by simp [nameFm,Fm.len],⟨by simp [Fo.size],by simp,trivial⟩⟩,⟨name_fok _ (by simp),trivial,name_fok _ (by simp),trivial,name_fok _ (by simp),trivial,trivial⟩,trivial⟩
theorem lam_wt:(lamFrm.fm .nil).wt≤900000:=by decide
open Go.RowKit
abbrev lamV (a1 a2 a3:Option Addr) (c1 c2 c3:Nat):Value := .agg #[.int .u8 4,S [], .slice a1 1 c1, .slice a2 1 c2, .int .u8 0, .int .i64 0,S [], .slice a3 0 c3, .bool false]
theorem kn_call1 (g c:Nat) (w:World) (hR:RS w (some ⟨g,0,none⟩) lamF) (hE:Env w):Calls Tryz.prog 15 #[.agg #[.int .u8 5, .int .i64 0, .string ⟨#[]⟩, .slice (some ⟨g,0,none⟩) 3 c, .bool false]] w fun e w' => ∃a1 c1 a2 c2 a3 c3 pr pc,e = .returned (.tuple #[lamV a1 a2 a3 c1 c2 c3, .int .i64 0, .slice pr 0 pc])∧RFo w' lamFrm a1 a2 a3∧1≤c2∧Below w.heap.size w w' := by
 have h:=of_any (exD lamF) (some ⟨g,0,none⟩) c w lam_dok hR hE
 rw [kn_of1] at h
 refine Calls.mono h ?_
 rintro e w' ⟨hb,nv,kv,dv,pv,bs,rfl,hone,hown⟩
 obtain ⟨a1,c1,a2,c2,a3,c3,rfl,rfl,rfl,hrf,hcap⟩:=hone.rfo
 obtain ⟨pr,pc,rfl⟩:=own_slice hown
 exact ⟨a1,c1,a2,c2,a3,c3,pr,pc,rfl,hrf,hcap,hb⟩
theorem kn_call2 (a1 a2 a3:Option Addr) (c1 c2 c3:Nat) (w:World) (hR:RFo w lamFrm a1 a2 a3) (hc:1≤c2) (hE:Env w):Calls Tryz.prog 27 #[lamV a1 a2 a3 c1 c2 c3] w fun e w' => ∃rb cb,e = .returned (.tuple #[.agg #[.int .u8 5, .int .i64 0,S [], .slice rb 3 cb, .bool false], .int .i64 0])∧RS w' rb lamF∧Below w.heap.size w w' := by
 have h:=back_any lamFrm a1 a2 a3 c1 c2 c3 w lam_fok lam_oks hR hc hE lam_wt
 rw [kn_back] at h
 refine Calls.mono h ?_
 rintro e w' ⟨v,rfl,hT,hb⟩
 obtain ⟨rb,cb,rfl,hrs,_⟩:=hT.rs
 exact ⟨rb,cb,rfl,hrs,hb⟩
theorem kn_call3 (a1 a2 a3:Option Addr) (c1 c2 c3:Nat) (w:World) (hR:RFo w lamFrm a1 a2 a3) (hc:1≤c2) (hE:Env w):Calls Tryz.prog 29 #[lamV a1 a2 a3 c1 c2 c3] w fun e w' => ∃rb cb,e = .returned (.slice rb 1 cb)∧RN w' rb [[121]]∧Below w.heap.size w w' := by
 have h:=fnames_any lamFrm a1 a2 a3 c1 c2 c3 w lam_fok lam_oks hR hc hE lam_wt
 rw [kn_names] at h
 refine Calls.mono h ?_
 rintro e w' ⟨v,rfl,ho,hb⟩
 obtain ⟨rb,cb,rfl,hrn⟩:=own_rn ho
 exact ⟨rb,cb,rfl,hrn,hb⟩
theorem kn_call4 (g c:Nat) (w:World) (hR:RS w (some ⟨g,0,none⟩) twiF) (hE:Env w):Calls Tryz.prog 15 #[.agg #[.int .u8 5, .int .i64 0,S [], .slice (some ⟨g,0,none⟩) 3 c, .bool false]] w fun e w' => ∃a1 c1 a2 c2 a3 c3 pr pc,e = .returned (.tuple #[.agg #[.int .u8 0,S [], .slice a1 0 c1, .slice a2 0 c2, .int .u8 0, .int .i64 0,S [], .slice a3 0 c3, .bool false], .int .i64 72, .slice pr 2 pc])∧(∃base,w'.ownsRow base 3 1 (.slice pr 2 pc) 2 [.int .i64 1, .int .i64 1])∧Below w.heap.size w w' := by
 have h:=of_any (exD twiF) (some ⟨g,0,none⟩) c w twi_dok hR hE
 rw [kn_of2] at h
 refine Calls.mono h ?_
 rintro e w' ⟨hb,nv,kv,dv,pv,bs,rfl,hone,hown⟩
 obtain ⟨a1,c1,a2,c2,a3,c3,rfl,rfl,rfl,hrf,hcap⟩:=hone.rfo
 obtain ⟨pr,pc,rfl⟩:=own_slice hown
 exact ⟨a1,c1,a2,c2,a3,c3,pr,pc,rfl,⟨_,hown⟩,hb⟩
theorem kn_call5 (w:World) (hE:Env w):Calls Tryz.prog 10 #[.string ⟨#[99,97,115]⟩] w fun e w' => e = .returned (.tuple #[.int .u8 9, .int .i64 3, .bool true])∧Below w.heap.size w w' := by
 have h:=prim_any [99,97,115] w (by unfold maxLen;simp) hE.pl
 rw [kn_prim] at h
 exact h
def SameDC (N:Nat):Prop:=∀(k n:Int) (t:List UInt8) (s:Fo) (d:Bool) (rk:Option Addr) (ck:Nat) (k' n' : Int) (t' : List UInt8) (s' : Fo) (d' : Bool) (rk' : Option Addr) (ck' : Nat) (w:World),s.size≤N→s.len≤maxLen→s'.len≤maxLen→RS w rk s→RS w rk' s' →
 Calls Tryz.prog 30 #[.agg #[.int .u8 k, .int .i64 n,S t, .slice rk s.len ck, .bool d], .agg #[.int .u8 k', .int .i64 n', S t', .slice rk' s'.len ck', .bool d']] w fun e w' => e = .returned (.bool (sameB k n t s d k' n' t' s' d'))∧Below w.heap.size w w'
def DataC (N:Nat):Prop:=∀(f g:Fo) (ra:Option Addr) (ca:Nat) (rb:Option Addr) (cb:Nat) (w:World),f.size≤N→f.len≤maxLen→g.len≤maxLen→RS w ra f→RS w rb g →
 Calls Tryz.prog 85 #[.slice ra f.len ca, .slice rb g.len cb] w fun e w' => e = .returned (.bool (f.same g))∧Below w.heap.size w w'
theorem sameD_of {N:Nat} (h:DataC N):SameDC N:=by
 intro k n t s d rk ck k' n' t' s' d' rk' ck' w hN hm hm' hR hR'
 have HE:Hid (DataC N):=h
 have HR:Hid (RS w rk s):=hR
 have HR' : Hid (RS w rk' s'):=hR'
 clear h hR hR'
 unfold sameB
 cases h1:(k == k')
 ·go_enter Tryz.func30,Tryz.ntmps30
  go_wp2
  go_ret
  exact ⟨rfl,(((Below.refl _ w).alloc (Nat.le_refl _) _).alloc (by simp) _)⟩
 cases h2:(n == n')
 ·go_enter Tryz.func30,Tryz.ntmps30
  go_wp2
  go_ret
  exact ⟨rfl,(((Below.refl _ w).alloc (Nat.le_refl _) _).alloc (by simp) _)⟩
 by_cases h3:t=t'
 ·subst h3
  cases h4:(d == d')
  ·go_enter Tryz.func30,Tryz.ntmps30
   go_wp2
   go_ret
   exact ⟨by simp,(((Below.refl _ w).alloc (Nat.le_refl _) _).alloc (by simp) _)⟩
  ·go_enter Tryz.func30,Tryz.ntmps30
   go_wp2_with fail
   refine (HE.out s s' rk ck rk' ck' _ hN hm hm' (HR.out.below (((Below.refl _ w).alloc (Nat.le_refl _) _).alloc (by simp) _)) (HR'.out.below (((Below.refl _ w).alloc (Nat.le_refl _) _).alloc (by simp) _))).mono ?_
   rintro e w1 ⟨rfl,hb1⟩
   go_wp2
   go_ret
   exact ⟨by simp,((((Below.refl _ w).alloc (Nat.le_refl _) _).alloc (by simp) _)).trans (hb1.mono (by simp;omega))⟩
 ·have h3' : decide (t=t')=false:=decide_eq_false h3
  go_enter Tryz.func30,Tryz.ntmps30
  go_wp2
  go_ret
  exact ⟨by simp [h3],(((Below.refl _ w).alloc (Nat.le_refl _) _).alloc (by simp) _)⟩
theorem keepT {W w6:World} {b o b' o' : Nat} {v0 v1 v2 v3 v4 u0 u1 u2 u3 u4:Option Value} (hb:Below W.heap.size W w6)
  (h:((W.cell? ⟨b,o,none⟩=v0∧W.cell? ⟨b,o+1,none⟩=v1∧W.cell? ⟨b,o+1+1,none⟩=v2∧W.cell? ⟨b,o+1+1+1,none⟩=v3∧W.cell? ⟨b,o+1+1+1+1,none⟩=v4)∧b<W.heap.size)∧(W.cell? ⟨b', o', none⟩=u0∧W.cell? ⟨b', o' + 1,none⟩=u1∧W.cell? ⟨b', o' + 1+1,none⟩=u2∧W.cell? ⟨b', o' + 1+1+1,none⟩=u3∧W.cell? ⟨b', o' + 1+1+1+1,none⟩=u4)∧b' < W.heap.size) :
  ((w6.cell? ⟨b,o,none⟩=v0∧w6.cell? ⟨b,o+1,none⟩=v1∧w6.cell? ⟨b,o+1+1,none⟩=v2∧w6.cell? ⟨b,o+1+1+1,none⟩=v3∧w6.cell? ⟨b,o+1+1+1+1,none⟩=v4)∧b<w6.heap.size)∧(w6.cell? ⟨b', o', none⟩=u0∧w6.cell? ⟨b', o' + 1,none⟩=u1∧w6.cell? ⟨b', o' + 1+1,none⟩=u2∧w6.cell? ⟨b', o' + 1+1+1,none⟩=u3∧w6.cell? ⟨b', o' + 1+1+1+1,none⟩=u4)∧b' < w6.heap.size:=by
 obtain ⟨⟨⟨a0,a1,a2,a3,a4⟩,hg⟩,⟨c0,c1,c2,c3,c4⟩,hg'⟩:=h
 have e:∀o,w6.cell? ⟨b,o,none⟩=W.cell? ⟨b,o,none⟩:=fun o=>hb.cell (p:=⟨b,o,none⟩) hg
 have e' : ∀o,w6.cell? ⟨b', o,none⟩=W.cell? ⟨b', o,none⟩:=fun o=>hb.cell (p:=⟨b', o,none⟩) hg'
 exact ⟨⟨⟨(e _).trans a0,(e _).trans a1,(e _).trans a2,(e _).trans a3,(e _).trans a4⟩,Nat.lt_of_lt_of_le hg hb.size⟩,⟨(e' _).trans c0,(e' _).trans c1,(e' _).trans c2,(e' _).trans c3,(e' _).trans c4⟩,Nat.lt_of_lt_of_le hg' hb.size⟩
theorem data_of_same {N:Nat} (h:∀M,M<N→SameDC M):DataC N:=by
 intro f g ra ca rb cb w hN hm hm' hR hR'
 have HS:Hid (∀M,M<N→SameDC M):=h
 unfold maxLen at hm hm'
 by_cases hl:f.len=g.len
 ·obtain ⟨b,o,hab,hRd⟩:=hR
  obtain ⟨b', o', hab', hRd'⟩:=hR'
  have HRd:Hid (Rd w b o f):=hRd
  have HRd' : Hid (Rd w b' o' g):=hRd'
  have HLL:Hid (g.len=f.len):=hl.symm
  clear h hRd hRd'
  have hra:f.len≠0→ra=some ⟨b,o,none⟩:=fun h=>hab.resolve_left h
  have hrb:f.len≠0→rb=some ⟨b', o', none⟩:=fun h=>hab'.resolve_left (by rw [←hl];exact h)
  have Hra:Hid _:=hra
  have Hrb:Hid _:=hrb
  rw [←hl]
  clear hab hab' hra hrb hm' hl
  go_enter Tryz.func85,Tryz.ntmps85
  go_wp2
  go_loopw [5] (fun i wr=>∃(j:Nat) (fi gi:Fo),i = .int .i64 j∧fi.len+j=f.len∧gi.len=fi.len∧fi.size≤N∧Hid (Rd wr b (o+j*5) fi)∧Hid (Rd wr b' (o' + j*5) gi)∧Hid (f.same g=fi.same gi)∧Hid (Below w.heap.size w wr)) (fun i _=>f.len-(intOf i).toNat)
  case atStart=>exact ⟨0,f,g,rfl,by simp,HLL.out,hN,by simpa using HRd,by simpa using HRd', rfl,Below.refl _ _⟩
  case round =>
   obtain ⟨j,fi,gi,rfl,hj,hgl,hsz,HF,HG,HQ,HB⟩:=hrel
   cases fi with
   | nil =>
    have hg0:gi = .nil:=Fo.len0 (by simpa [Fo.len] using hgl)
    subst hg0
    have hj' : j=f.len:=by simpa [Fo.len] using hj
    have HJ:Hid _:=hj'
    have hjl:¬ ((j:Int)<(f.len:Int)):=by omega
    clear hj hj' hgl
    go_wp2
    go_ret
    exact ⟨by rw [HQ.out];rfl,HB.out⟩
   | cons k n t s d r =>
    cases gi with
    | nil=>simp [Fo.len] at hgl
    | cons k' n' t' s' d' r' =>
     obtain ⟨⟨h0,h1,h2,h3,h4,h5⟩,⟨rk,ck,bk,ok,hk,hz,hs⟩,hr⟩:=HF.out
     obtain ⟨⟨h0', h1', h2', h3', h4', h5'⟩,⟨rk', ck', bk', ok', hk', hz', hs'⟩,hr'⟩:=HG.out
     simp only [Fo.len] at hj hgl
     simp only [Fo.size] at hsz
     have hlt:j<f.len:=by omega
     have hra:=Hra.out (by omega)
     have hrb:=Hrb.out (by omega)
     subst hra hrb
     have i1:(j:Int)<(f.len:Int):=by omega
     have HRk:Hid (RS wr rk s):=⟨bk,ok,hz,hs⟩
     have HRk' : Hid (RS wr rk' s'):=⟨bk', ok', hz', hs'⟩
     have Hr:Hid _:=hr
     have Hr' : Hid _:=hr'
     clear hs hs' hr hr' hz hz' HF HG
     have hmx:Tryz.prog.follows .mixedOrders=true:=by kernel_rfl
     have i0:(0:Int)≤(j:Int):=by omega
     go_wp2_with fail
     first
     | go_region_held3 (fun wx=>((wx.cell? ⟨b,o+j*5,none⟩=some (.int .u8 k)∧wx.cell? ⟨b,o+j*5+1,none⟩=some (.int .i64 n)∧wx.cell? ⟨b,o+j*5+1+1,none⟩=some (S t)∧wx.cell? ⟨b,o+j*5+1+1+1,none⟩=some (.slice rk s.len ck)∧wx.cell? ⟨b,o+j*5+1+1+1+1,none⟩=some (.bool d))∧b<wx.heap.size)∧(wx.cell? ⟨b', o' + j*5,none⟩=some (.int .u8 k')∧wx.cell? ⟨b', o' + j*5+1,none⟩=some (.int .i64 n')∧wx.cell? ⟨b', o' + j*5+1+1,none⟩=some (S t')∧wx.cell? ⟨b', o' + j*5+1+1+1,none⟩=some (.slice rk' s'.len ck')∧wx.cell? ⟨b', o' + j*5+1+1+1+1,none⟩=some (.bool d'))∧b' < wx.heap.size) (first|go_keep|exact keepT hb1 (by go_keep))
       (first|(go_at_call 30;refine (HS.out s.size (by omega) k n t s d rk ck k' n' t' s' d' rk' ck' _ (Nat.le_refl _) h5 h5' (HRk.out.below (Below.refl _ _).drew) (HRk'.out.below (Below.refl _ _).drew)).mono ?_;rintro e w1 ⟨rfl,hb1⟩))
     | fail
     have HW:Hid (Below wr.heap.size wr w1):=(Below.refl _ wr).drew.trans hb1
     have HB1:Hid (Below w.heap.size w w1):=HB.out.trans (HW.out.mono HB.out.size)
     clear hb1 h1 h2 h3 h4 hk h1' h2' h3' h4' hk'
     cases hsb:sameB k n t s d k' n' t' s' d'
     ·have HS2:Hid _:=hsb
      clear hsb
      go_wp2
      go_ret
      exact ⟨by rw [HQ.out,same_cons,HS2.out];rfl,HB1.out⟩
     ·have HS2:Hid _:=hsb
      clear hsb
      go_wp2
      go_roundw
      case rel=>exact ⟨j+1,r,r', by go_num,by omega,by omega,by omega,by rw [show o+(j+1)*5=o+j*5+5 by omega];exact Hr.out.below HW.out,by rw [show o' + (j+1)*5=o' + j*5+5 by omega];exact Hr'.out.below HW.out,by show _=_;rw [HQ.out,same_cons,HS2.out];rfl,HB1⟩
      case measure=>simp [intOf];omega
 ·have hne:f.same g=false:=by
   cases hs:f.same g with
   | false=>rfl
   | true=>exact absurd (by rw [(Fo.same_iff f g).1 hs]) hl
  rw [hne]
  have h2:((f.len:Int) == (g.len:Int))=false:=by simp;omega
  clear h hR hR' HS
  go_enter Tryz.func85,Tryz.ntmps85
  go_wp2
  go_ret
  exact ⟨rfl,Below.refl _ _⟩
theorem sameData_all:∀N,DataC N:=fun N=>by
 induction N using Nat.strongRecOn with
 | _ N ih=>exact data_of_same (fun M hM=>sameD_of (ih M hM))
def RX {α : Type} (enc : α → Value) (w:World) (ra:Option Addr) (l:List α):Prop:=∃b o,(l.length=0∨ra=some ⟨b,o,none⟩)∧∀(j:Nat) (x : α),l[j]?=some x→b<w.heap.size∧w.cell? ⟨b,o+j,none⟩=some (enc x)
theorem RX.at {α : Type} {enc : α → Value} {w:World} {ra:Option Addr} {l:List α} (h:RX enc w ra l):∃b o,(l.length≠0→ra=some ⟨b,o,none⟩)∧∀(j:Nat) (x : α),l[j]?=some x→b<w.heap.size∧w.cell? ⟨b,o+j,none⟩=some (enc x):=by
 obtain ⟨b,o,h1,h2⟩:=h
 exact ⟨b,o,fun q=>h1.resolve_left q,h2⟩
theorem RX.below {α : Type} {enc : α → Value} {w w' : World} {ra:Option Addr} {l:List α} (h:RX enc w ra l) (hb:Below w.heap.size w w'):RX enc w' ra l:=by
 obtain ⟨b,o,h1,h2⟩:=h
 exact ⟨b,o,h1,fun j x hx=>⟨Nat.lt_of_lt_of_le (h2 j x hx).1 hb.size,(hb.cell (p:=⟨b,o+j,none⟩) (h2 j x hx).1).trans (h2 j x hx).2⟩⟩
theorem eq_drop {α : Type} {l m:List α} (_:l.length=m.length) {j:Nat} {x y : α} (hx:l[j]?=some x) (hy:m[j]?=some y) (h:x≠y):l≠m:=fun e=>by subst e;rw [hx] at hy;exact h (Option.some.inj hy)
theorem eq_of_take {α : Type} {l m:List α} (hlen:l.length=m.length) {j:Nat} (hj:¬ j<l.length) (h:l.take j=m.take j):l=m:=by
 rwa [List.take_of_length_le (by omega),List.take_of_length_le (by omega)] at h
theorem sameI_any (l m:List Int) (ra rb:Option Addr) (ca cb:Nat) (w:World) (hl:l.length≤maxLen) (_:m.length≤maxLen) (hR:RX (Value.int .i64) w ra l) (hS:RX (Value.int .i64) w rb m) :
  Calls Tryz.prog 17 #[.slice ra l.length ca, .slice rb m.length cb] w fun e w' => e = .returned (.bool (decide (l=m)))∧Below w.heap.size w w' := by
 unfold maxLen at hl
 by_cases hlen:l.length=m.length
 ·obtain ⟨b,o,h1,h2⟩:=RX.at hR
  obtain ⟨b', o', h1', h2'⟩:=RX.at hS
  rw [←hlen] at h1' ⊢
  have H1:Hid _:=h1
  have H2:Hid _:=h2
  have H1' : Hid _:=h1'
  have H2' : Hid _:=h2'
  have Hlen:Hid (l.length=m.length):=hlen
  have z:((l.length:Int) == (l.length:Int))=true:=by simp
  clear h1 h2 h1' h2' hR hS hlen
  go_enter Tryz.func17,Tryz.ntmps17
  go_wp2
  go_loopw [5] (fun i wr=>∃j:Nat,i = .int .i64 j∧j≤l.length∧Hid (l.take j=m.take j)∧Hid (Below w.heap.size w wr)) (fun i _=>l.length-(intOf i).toNat)
  case atStart=>exact ⟨0,rfl,Nat.zero_le _,by show _=_;simp,Below.refl _ _⟩
  case round =>
   obtain ⟨j,rfl,hj,HN,HW⟩:=hrel
   by_cases hlt:j<l.length
   ·have i1:(j:Int)<(l.length:Int):=by omega
    have hra:=H1.out (by omega)
    subst hra
    have hrb:=H1'.out (by omega)
    subst hrb
    obtain ⟨x,hx⟩:∃x,l[j]?=some x:=⟨_,List.getElem?_eq_getElem hlt⟩
    obtain ⟨y,hy⟩:∃y,m[j]?=some y:=⟨_,List.getElem?_eq_getElem (by rw [←Hlen.out];exact hlt)⟩
    obtain ⟨hb,hc⟩:=H2.out j x hx
    obtain ⟨hb', hc'⟩:=H2'.out j y hy
    have f1:wr.cell? ⟨b,o+j,none⟩=some (.int .i64 x):=(HW.out.cell (p:=⟨b,o+j,none⟩) hb).trans hc
    have f2:wr.cell? ⟨b', o' + j,none⟩=some (.int .i64 y):=(HW.out.cell (p:=⟨b', o' + j,none⟩) hb').trans hc'
    have f3:b<wr.heap.size:=Nat.lt_of_lt_of_le hb HW.out.size
    have f4:b' < wr.heap.size:=Nat.lt_of_lt_of_le hb' HW.out.size
    have HX:Hid (l[j]?=some x):=hx
    have HY:Hid (m[j]?=some y):=hy
    clear hx hy hb hc hb' hc'
    by_cases he:x=y
    ·subst he
     have z2:(x == x)=true:=by simp
     go_wp2_with fail
     go_quiet (fail)
     go_wp2
     go_roundw
     case rel =>
      refine ⟨j+1,by go_num,by omega,?_,below_drewN HW.out _⟩
      show _=_
      rw [List.take_add_one,List.take_add_one,HN.out,HX.out,HY.out]
     case measure=>simp [intOf];omega
    ·have HE:Hid (decide (l=m)=false):=decide_eq_false (eq_drop Hlen.out HX.out HY.out he)
     have z2:(x == y)=false:=by simpa using he
     clear he
     go_wp2_with fail
     go_quiet (fail)
     go_wp2
     go_ret
     exact ⟨by rw [HE.out];rfl,below_drewN HW.out _⟩
   ·have i1:¬ (j:Int)<(l.length:Int):=by omega
    have HE:Hid (decide (l=m)=true):=decide_eq_true (eq_of_take Hlen.out hlt HN.out)
    go_wp2
    go_ret
    exact ⟨by rw [HE.out];rfl,HW.out⟩
 ·have HE:Hid (decide (l=m)=false):=decide_eq_false (fun e=>hlen (by rw [e]))
  have z:((l.length:Int) == (m.length:Int))=false:=by simp;omega
  clear hlen hR hS
  go_enter Tryz.func17,Tryz.ntmps17
  go_wp2
  go_ret
  exact ⟨by rw [HE.out];rfl,Below.refl _ _⟩
theorem sameX_any (l m:List (List UInt8)) (ra rb:Option Addr) (ca cb:Nat) (w:World) (hl:l.length≤maxLen) (_:m.length≤maxLen) (hR:RX S w ra l) (hS:RX S w rb m) :
  Calls Tryz.prog 31 #[.slice ra l.length ca, .slice rb m.length cb] w fun e w' => e = .returned (.bool (decide (l=m)))∧Below w.heap.size w w' := by
 unfold maxLen at hl
 by_cases hlen:l.length=m.length
 ·obtain ⟨b,o,h1,h2⟩:=RX.at hR
  obtain ⟨b', o', h1', h2'⟩:=RX.at hS
  rw [←hlen] at h1' ⊢
  have H1:Hid _:=h1
  have H2:Hid _:=h2
  have H1' : Hid _:=h1'
  have H2' : Hid _:=h2'
  have Hlen:Hid (l.length=m.length):=hlen
  have z:((l.length:Int) == (l.length:Int))=true:=by simp
  clear h1 h2 h1' h2' hR hS hlen
  go_enter Tryz.func31,Tryz.ntmps31
  go_wp2
  go_loopw [5] (fun i wr=>∃j:Nat,i = .int .i64 j∧j≤l.length∧Hid (l.take j=m.take j)∧Hid (Below w.heap.size w wr)) (fun i _=>l.length-(intOf i).toNat)
  case atStart=>exact ⟨0,rfl,Nat.zero_le _,by show _=_;simp,Below.refl _ _⟩
  case round =>
   obtain ⟨j,rfl,hj,HN,HW⟩:=hrel
   by_cases hlt:j<l.length
   ·have i1:(j:Int)<(l.length:Int):=by omega
    have hra:=H1.out (by omega)
    subst hra
    have hrb:=H1'.out (by omega)
    subst hrb
    obtain ⟨x,hx⟩:∃x,l[j]?=some x:=⟨_,List.getElem?_eq_getElem hlt⟩
    obtain ⟨y,hy⟩:∃y,m[j]?=some y:=⟨_,List.getElem?_eq_getElem (by rw [←Hlen.out];exact hlt)⟩
    obtain ⟨hb,hc⟩:=H2.out j x hx
    obtain ⟨hb', hc'⟩:=H2'.out j y hy
    have f1:wr.cell? ⟨b,o+j,none⟩=some (S x):=(HW.out.cell (p:=⟨b,o+j,none⟩) hb).trans hc
    have f2:wr.cell? ⟨b', o' + j,none⟩=some (S y):=(HW.out.cell (p:=⟨b', o' + j,none⟩) hb').trans hc'
    have f3:b<wr.heap.size:=Nat.lt_of_lt_of_le hb HW.out.size
    have f4:b' < wr.heap.size:=Nat.lt_of_lt_of_le hb' HW.out.size
    have HX:Hid (l[j]?=some x):=hx
    have HY:Hid (m[j]?=some y):=hy
    clear hx hy hb hc hb' hc'
    by_cases he:x=y
    ·subst he
     have z2:(x == x)=true:=by simp
     go_wp2_with fail
     go_quiet (fail)
     go_wp2
     go_roundw
     case rel =>
      refine ⟨j+1,by go_num,by omega,?_,below_drewN HW.out _⟩
      show _=_
      rw [List.take_add_one,List.take_add_one,HN.out,HX.out,HY.out]
     case measure=>simp [intOf];omega
    ·have HE:Hid (decide (l=m)=false):=decide_eq_false (eq_drop Hlen.out HX.out HY.out he)
     have z2:(x == y)=false:=by simpa using he
     clear he
     go_wp2_with fail
     go_quiet (fail)
     go_wp2
     go_ret
     exact ⟨by rw [HE.out];rfl,below_drewN HW.out _⟩
   ·have i1:¬ (j:Int)<(l.length:Int):=by omega
    have HE:Hid (decide (l=m)=true):=decide_eq_true (eq_of_take Hlen.out hlt HN.out)
    go_wp2
    go_ret
    exact ⟨by rw [HE.out];rfl,HW.out⟩
 ·have HE:Hid (decide (l=m)=false):=decide_eq_false (fun e=>hlen (by rw [e]))
  have z:((l.length:Int) == (m.length:Int))=false:=by simp;omega
  clear hlen hR hS
  go_enter Tryz.func31,Tryz.ntmps31
  go_wp2
  go_ret
  exact ⟨by rw [HE.out];rfl,Below.refl _ _⟩
theorem RN.rx {w:World} {ra:Option Addr} {l:List (List UInt8)} (h:RN w ra l):RX S w ra l:=by
 obtain ⟨b,o,h1,h2⟩:=h
 exact ⟨b,o,h1.imp (fun e=>by rw [e];rfl) id,fun j x hx=>⟨cell_lt (h2 j x hx),h2 j x hx⟩⟩
theorem own_rx {w:World} {base n:Nat} {ra:Option Addr} {c:Nat} {l:List Int} (h:w.ownsRow base 3 1 (.slice ra n c) n (l.map (.int .i64 ·))) (hn:l.length=n):RX (Value.int .i64) w ra l:=by
 rcases h.2 with ⟨h0,hl⟩|⟨g,cap,cur,hv,_⟩
 ·exact ⟨0,0, .inl (by rw [hn,hl]),fun j x hx=>by
   have:l=[]:=List.length_eq_zero_iff.1 (by rw [hn,hl])
   rw [this] at hx;simp at hx⟩
 ·cases hv
  refine ⟨g,0, .inr rfl,fun j x hx=>⟨(h.lt g rfl).2,?_⟩⟩
  have:=h.cells rfl j (.int .i64 x) (by rw [List.getElem?_map,hx];rfl)
  rw [addr_add] at this
  rw [Nat.zero_add]
  exact this
theorem sameDat_any:∀N,SameDC N:=fun N=>sameD_of (sameData_all N)
end Go.Proofs.YtkgnigloboajcaaGreatDoor
