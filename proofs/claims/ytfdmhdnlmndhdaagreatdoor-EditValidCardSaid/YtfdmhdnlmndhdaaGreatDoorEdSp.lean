/-
  Steps in memory, and rows of them.
-/
import Derived.Test.YtfdmhdnlmndhdaaGreatDoorKitH
namespace Go.Proofs.YtfdmhdnlmndhdaaGreatDoor
open Go.ChangeShapes Go.WideShapes Go.ChangeAt Go.RowKit
set_option linter.unusedVariables false

/-- Where the slices of a Sp lie. -/
structure SpV where
 lf:LfV
 keys:SlV
/-- What a Sp says. -/
structure Sp where
 what:Int
 i:Int
 lf:Lf
 keys:List (List Int)
 wise:Bool
abbrev SpV.cs (l:SpV) (L:Sp):Array Value:=#[nv L.what,nv L.i,l.lf.enc.v,l.lf.cred.v,nv L.lf.src,l.lf.par.v,l.keys.v,.bool L.wise]
structure IsSp (w:World) (B:Nat) (l:SpV) (L:Sp):Prop where
 lf:IsLf w B l.lf L.lf
 keys:RwOc w B l.keys L.keys
section
variable {w w':World} {B B':Nat} {l:SpV} {L:Sp}
theorem IsSp.below (h:IsSp w B l L) (b:Below B w w'):IsSp w' B l L:=⟨h.lf.below b,h.keys.below b⟩
theorem IsSp.more (h:IsSp w B l L) (b:B≤B'):IsSp w B' l L:=⟨h.lf.more b,h.keys.more b⟩
abbrev SpV.zero:SpV:=⟨⟨nilS,nilS,nilS⟩,nilS⟩
abbrev Sp.zero:Sp:=⟨0,0,⟨[],[],0,[]⟩,[],false⟩
theorem IsSp.zero (w:World) (B:Nat):IsSp w B SpV.zero Sp.zero:=⟨IsLf.zero _ _,RwOc.nil _ _⟩
end
/-- A slice of such, as it reads. -/
def RwSp (w:World) (B:Nat) (s:SlV) (Ls:List Sp):Prop:=s.m≤s.c∧s.c≤maxLen∧Ls.length=s.m ∧
 (0<s.m→∃ b o,s.A=some ⟨b,o,none⟩∧b<B∧∀ i L,Ls[i]?=some L→∃ l:SpV,IsSp w B l L∧∀ j u,(l.cs L)[j]?=some u→w.cell? ⟨b,o+i*8+j,none⟩=some u)
theorem RwSp.below {w w':World} {B:Nat} {s:SlV} {Ls:List Sp} (h:RwSp w B s Ls) (g:Below B w w'):RwSp w' B s Ls:=by
 refine ⟨h.1,h.2.1,h.2.2.1,fun hm=>?_⟩
 obtain ⟨b,o,e,hB,hc⟩:=h.2.2.2 hm
 refine ⟨b,o,e,hB,fun i L hL=>?_⟩
 obtain ⟨l,hl,hj⟩:=hc i L hL
 exact ⟨l,hl.below g,fun j u hu=>(g.cell (p:=⟨b,o+i*8+j,none⟩) hB).trans (hj j u hu)⟩
theorem RwSp.more {w:World} {B B':Nat} {s:SlV} {Ls:List Sp} (h:RwSp w B s Ls) (g:B≤B'):RwSp w B' s Ls:=by
 refine ⟨h.1,h.2.1,h.2.2.1,fun hm=>?_⟩
 obtain ⟨b,o,e,hB,hc⟩:=h.2.2.2 hm
 refine ⟨b,o,e,by omega,fun i L hL=>?_⟩
 obtain ⟨l,hl,hj⟩:=hc i L hL
 exact ⟨l,hl.more g,hj⟩
theorem RwSp.len {w:World} {B:Nat} {s:SlV} {Ls:List Sp} (h:RwSp w B s Ls):Ls.length=s.m:=h.2.2.1
/-- The element at a place. -/
theorem RwSp.at {w:World} {B:Nat} {s:SlV} {Ls:List Sp} (h:RwSp w B s Ls) (i:Nat) (hi:i<s.m):∃ (b o:Nat) (l:SpV) (L:Sp),s.A=some ⟨b,o,none⟩∧b<B∧Ls[i]?=some L∧IsSp w B l L∧∀ j u,(l.cs L)[j]?=some u→w.cell? ⟨b,o+i*8+j,none⟩=some u:=by
 obtain ⟨b,o,e,hB,hc⟩:=h.2.2.2 (by omega)
 have hl:i<Ls.length:=by rw [h.len];exact hi
 obtain ⟨l,h1,h2⟩:=hc i Ls[i] (List.getElem?_eq_getElem hl)
 exact ⟨b,o,l,Ls[i],e,hB,List.getElem?_eq_getElem hl,h1,h2⟩
end Go.Proofs.YtfdmhdnlmndhdaaGreatDoor
