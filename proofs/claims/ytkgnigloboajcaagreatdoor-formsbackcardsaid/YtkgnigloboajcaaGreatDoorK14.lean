/- The tokens of a source, without fuel; two sources with a new line between.; The tokens of the text of data: plain mathematics.; What is written is read again: plain mathematics. -/
import Derived.Test.YtkgnigloboajcaaGreatDoorK01
import Derived.Test.YtkgnigloboajcaaGreatDoorK13
import Derived.Lib.ItoaNum
namespace Go.Proofs.YtkgnigloboajcaaGreatDoor
def sc (N:Nat) (l:List UInt8):List (Tok × Int):=scan N (l.length+1) l
def bare (t:Tok):Tok:=put t 0
def bareI (x:Tok × Int):Tok × Int:=(bare x.1,x.2)
def lx (l:List UInt8):List (Tok × Int):=(sc 0 l).map bareI
def z0 (ks:List Tok):List (Tok × Int):=ks.map fun t=>(t,0)
def stop (z:List UInt8):Prop:=z.takeWhile isW=[]
theorem sym_spec {t:List UInt8} (h:symB t=true):t.all isW=true∧t≠[]∧word t=⟨6,t,0,0⟩∧wordE t=0:=by
 simp only [symB,Bool.and_eq_true,beq_iff_eq] at h
 obtain ⟨hE,hK,hS⟩:=h
 cases t with
 | nil=>simp [begT,tk] at hK
 | cons b r =>
  simp only [begT,begE,begS] at hE hK hS
  by_cases h1:b.toNat=40
  ·simp [h1,tk] at hK
  by_cases h2:b.toNat=41
  ·simp [h2,tk] at hK
  by_cases h3:b.toNat=39
  ·simp [h3,tk] at hK
  by_cases h4:isW b=true
  ·rw [if_neg h1,if_neg h2,if_neg h3,if_pos h4] at hE hK hS
   have hl:((b::r).takeWhile isW).length=(b::r).length:=by omega
   have ht:(b::r).takeWhile isW=b::r:=List.IsPrefix.eq_of_length (List.takeWhile_prefix _) hl
   rw [ht] at hE hK
   refine ⟨?_,by simp,?_,hE⟩
   ·rw [←ht]
    exact List.all_takeWhile
   ·unfold word at hK ⊢
    split at hK; · cases hK
    split at hK; · cases hK
    split at hK; · cases hK
    split at hK
    ·split at hK<;>cases hK
    ·split at hK
     ·cases hK
     ·rename_i e1 e2 e3 e4 e5
      rw [if_neg e1,if_neg e2,if_neg e3,if_neg e4,if_neg e5]
  ·simp [h1,h2,h3,h4,tk] at hK
def kidsK (d:Bool):List (List Tok)→List Tok
 | []=>[]
 | x::r=>(if d && r.isEmpty then [tk 4] else [])++(x++kidsK d r)
def oneK (k n:Int) (t:List UInt8) (s:Fo) (d:Bool) (ts:List (List Tok)):List Tok :=
 if k=1 then [⟨5,[],n,0⟩] else if k=2 then [⟨6,t,0,0⟩] else if k=3 then [tk 7] else if k=4 then [tk 8]
 else if isQ s d then tk 3::ts.getD 1 [] else tk 1::(kidsK d ts++[tk 2])
def textsK:Fo→List (List Tok)
 | .nil=>[]
 | .cons k n t s d r=>oneK k n t s d (textsK s)::textsK r
def allD:Fo→Bool
 | .nil=>true
 | .cons k n t s d r=>isDat k n t s d && (allD s && allD r)
def Cut (x:List UInt8) (ks:List Tok):Prop:=∀z,stop z→lx (x++z)=z0 ks++lx z
theorem isQ_spec {s:Fo} {d:Bool} (h:isQ s d=true):d=false∧∃k n t s1 d1,s = .cons 2 0 quoteB .nil false (.cons k n t s1 d1 .nil):=by
 unfold isQ at h
 split at h
 ·rename_i k n t s1 d1 k' n' t' s1' d1'
  simp only [sameB,Bool.and_eq_true,Bool.not_eq_true', beq_iff_eq,decide_eq_true_eq,Fo.same_iff] at h
  obtain ⟨hd,rfl,rfl,rfl,rfl,rfl⟩:=h
  exact ⟨hd,_,_,_,_,_,rfl⟩
 ·cases h
theorem isDat_num {n:Int} {t:List UInt8} {s:Fo} {d:Bool} (h:isDat 1 n t s d=true):fits n=true∧t=[]∧s = .nil∧d=false:=by
 simp only [isDat,if_true,sameB,Bool.and_eq_true,beq_iff_eq,decide_eq_true_eq,Fo.same_iff] at h
 obtain ⟨⟨_,_,rfl,rfl,rfl⟩,h1,h2⟩:=h
 refine ⟨?_,rfl,rfl,rfl⟩
 simp only [fits,Bool.and_eq_true,decide_eq_true_eq];omega
theorem isDat_sym {n:Int} {t:List UInt8} {s:Fo} {d:Bool} (h:isDat 2 n t s d=true):symB t=true∧n=0∧s = .nil∧d=false:=by
 have h2:¬ ((2:Int)=1):=by decide
 simp only [isDat,if_neg h2,if_true,sameB,Bool.and_eq_true,beq_iff_eq,decide_eq_true_eq,Fo.same_iff] at h
 obtain ⟨⟨_,rfl,_,rfl,rfl⟩,h1⟩:=h
 exact ⟨h1,rfl,rfl,rfl⟩
theorem isDat_lf {k n:Int} {t:List UInt8} {s:Fo} {d:Bool} (hk:k=3∨k=4) (h:isDat k n t s d=true):n=0∧t=[]∧s = .nil∧d=false:=by
 have h1:¬ k=1:=by omega
 have h2:¬ k=2:=by omega
 simp only [isDat,if_neg h1,if_neg h2,if_pos hk,sameB,Bool.and_eq_true,beq_iff_eq,decide_eq_true_eq,Fo.same_iff] at h
 obtain ⟨_,rfl,rfl,rfl,rfl⟩:=h
 exact ⟨rfl,rfl,rfl,rfl⟩
theorem isDat_kind {k n:Int} {t:List UInt8} {s:Fo} {d:Bool} (h:isDat k n t s d=true):k=1∨k=2∨k=3∨k=4∨k=5:=by
 unfold isDat at h
 split at h; · omega
 split at h; · omega
 split at h; · omega
 split at h; · omega
 cases h
theorem isDat_list {n:Int} {t:List UInt8} {s:Fo} {d:Bool} (h:isDat 5 n t s d=true):n=0∧t=[]∧(d=true→hasT s=true):=by
 have h1:¬ (5:Int)=1:=by omega
 have h2:¬ (5:Int)=2:=by omega
 have h3:¬ ((5:Int)=3∨(5:Int)=4):=by omega
 simp only [isDat,if_neg h1,if_neg h2,if_neg h3,if_true,Bool.and_eq_true,beq_iff_eq,decide_eq_true_eq,Bool.or_eq_true,Bool.not_eq_true'] at h
 exact ⟨h.1,h.2.1,fun hd=>h.2.2.resolve_left (by simp [hd])⟩
def Res.bare:Res→Res
 | .ok f d r c => .ok f d (r.map Go.Proofs.YtkgnigloboajcaaGreatDoor.bare) c
 | .bad e _ => .bad e 0
def dep (L:Nat):Fo→Nat
 | .nil=>0
 | .cons k _ _ s _ r=>max (if k=5 then max (L+1) (dep (L+1) s) else dep L s) (dep L r)
theorem ext_is:∀(f:Fo) (L c p:Nat),ext f L (c,p)=if allD f then some (c+f.size,max p (dep L f)) else none
 | .nil,L,c,p=>by simp [ext,allD,Fo.size,dep]
 | .cons k n t s d r,L,c,p=>by
  have hA:allD (.cons k n t s d r)=(isDat k n t s d && (allD s && allD r)):=rfl
  have hX:ext (.cons k n t s d r) L (c,p)=if isDat k n t s d then (ext s (if k=5 then L+1 else L) (c+1,if k=5 then max p (L+1) else p)).bind (ext r L) else none:=rfl
  rw [hA,hX,ext_is s]
  cases isDat k n t s d
  ·rfl
  ·cases allD s
   ·rfl
   ·show ext r L _=if allD r=true then _ else none
    rw [ext_is r]
    cases allD r
    ·rfl
    ·simp only [if_true,Option.some.injEq,Prod.mk.injEq,Fo.size,dep]
     refine ⟨by omega,?_⟩
     split<;>omega
theorem chk_zero {f:Fo}:chk f=0↔allD f=true∧dep 0 f≤100∧f.size≤10000:=by
 unfold chk
 rw [ext_is]
 cases h:allD f
 ·simp
 ·simp only [if_true]
  split
  ·simp;omega
  ·split
   ·simp;omega
   ·simp;omega
def Tries (res good:Res) (o c:Nat):Prop:=res=good∨(∃p,res = .bad 61 p∧100<o)∨(∃p,res = .bad 62 p∧10000<c)
def One (k n:Int) (t:List UInt8) (s:Fo) (d:Bool):Prop:=∀(o c:Nat) (rest:List Tok),o≤100 →
 Tries (rdf 0 (oneK k n t s d (textsK s)++rest) o c) (.ok (.cons k n t s d .nil) false rest (c+s.size+1)) (dep o (.cons k n t s d .nil)) (c+s.size+1)
def Each:Fo→Prop
 | .nil=>True
 | .cons k n t s d r=>One k n t s d∧Each r
end Go.Proofs.YtkgnigloboajcaaGreatDoor
