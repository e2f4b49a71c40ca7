/-
  What is told of a list from its end.
-/
import Derived.Test.YtfdmhdnlmndhdaaGreatDoorChWk
namespace Go.Proofs.YtfdmhdnlmndhdaaGreatDoor
open Go.ChangeShapes Go.WideShapes Go.ChangeAt Go.RowKit
set_option linter.unusedVariables false

/-- What is told of a list, from its end. -/
def backL (ys:List Int):List (Int × Int):=(List.range ys.length).map fun t=>(((ys.length-1-t:Nat):Int),ys.getD (ys.length-1-t) 0)
theorem back_len (ys:List Int):(backL ys).length=ys.length:=by rw [backL,List.length_map,List.length_range]
theorem back_get {ys:List Int} {t:Nat} (h:t<ys.length):(backL ys)[t]?=some (((ys.length-1-t:Nat):Int),ys.getD (ys.length-1-t) 0):=by
 rw [backL,List.getElem?_map,List.getElem?_range h]
 rfl
theorem back_take {ys:List Int} {t:Nat} (h:t<ys.length):(backL ys).take (t+1)=(backL ys).take t++[(((ys.length-1-t:Nat):Int),ys.getD (ys.length-1-t) 0)]:=by
 rw [List.take_add_one,back_get h]
 rfl
theorem back_pre {ys:List Int} {pre:List (Int × Int)} {x:Int × Int} (h:pre++[x] <+: backL ys):pre.length<ys.length∧x=(((ys.length-1-pre.length:Nat):Int),ys.getD (ys.length-1-pre.length) 0):=by
 have hl:=h.length_le
 rw [List.length_append,List.length_cons,List.length_nil,back_len] at hl
 have hg:(backL ys)[pre.length]?=some x:=by
  obtain ⟨r,hr⟩:=h
  rw [←hr,List.append_assoc,List.getElem?_append_right (Nat.le_refl _),Nat.sub_self]
  rfl
 rw [back_get (by omega)] at hg
 exact ⟨by omega,(Option.some.inj hg).symm⟩
abbrev TK (B bx:Nat) (xs:List (Int × Int)) (w:World):Prop:=Tells Tryz.prog 131 #[pv bx 0] (fun p:Int × Int=>#[nv p.1,nv p.2]) xs (fun k=>k<B∨k=bx) w
theorem back_any {B:Nat} {ys:List Int} (s:SlV) (W:World) (h:SlN W B s ys):Calls Tryz.prog 96 #[s.v] W fun e W'=>∃ v,e=.returned v∧∃ bx,v=.func (.func 131) #[] #[pv bx 0]∧RowAt W' bx 46 #[s.v]∧W.heap.size≤bx∧Below W.heap.size W W':=by
 refine Qf (n:=4) Tryz.func96 rfl Tryz.ntmps96 (by simp) ?_
 show CG _ _ _ [(0,s.v)] _ _
 have u:=Below.refl W.heap.size W
 refine Zr ?_
 refine lg_boxs rfl Wn rfl rfl rfl (by decide) fun b1 w1 n1=>?_
 have r1:=n1.row
 have k1:=n1.blk
 have z1:=n1.size
 have lt1:b1<w1.heap.size:=by omega
 refine ZAn [1,2] ?_
 refine Zr ?_
 refine Za (y_mkf (xs:=[]) (ys:=[.tmp 1])) ?_
 refine ZAnr [2] ?_
 have u:=Un u n1.below
 exact Qa rfl rfl ⟨_,rfl,b1,rfl,r1,by omega,u⟩
theorem back_tells (bx B:Nat) (s:SlV) (ys:List Int) (w0:World) (hB0:B≤w0.heap.size) (h00:SlN w0 B s ys) (hb0:RowAt w0 bx 46 #[s.v]):TK B bx (backL ys) w0:=by
 intro l J Jx W m0 hW hm0 hJa hJxa hY hJ
 refine callsIn_wide.2 ?_
 have hWB:=hW.below (n0:=B) (fun k hk=>.inl hk) hB0
 have hb:=hW.row (.inr rfl) hb0
 have h:=h00.belowN hWB
 have lb:=hb.lt
 have zW:=hW.size
 have hd:Did m0 m0 W W:=Did.refl fun k q=>(hm0 k q).2
 have hlow:∀ {m:Nat→Prop} {v:World},Did m0 m W v→∀ k,(k<B∨k=bx)→¬m k:=fun d k hk q=>(d.new k q).elim (fun q=>(hm0 k q).1 hk) fun q=>by
  rcases hk with hk | rfl<;>omega
 have q1:=h.len
 have q2:=h.cap
 show Calls _ _ ([.func (.yield l) #[] #[],pv bx 0]:List Value).toArray W _
 refine calls_cx (n:=19) Tryz.func131 rfl Tryz.ntmps131 (by simp) (fun _ q=>by simp at q) ?_
 show CX none [] _ _ _ [(0,.func (.yield l) #[] #[]),(1,pv bx 0)] _ _
 refine cx_seq ?_
 refine Qq ?_
 refine Za (Qo (v:=s.v) hb rfl (by kernel_rfl) rfl rfl) ?_
 refine Za (y_lenM (el:=3) h.len) ?_
 refine Za (yv (congrArg nv (show (ys.length:Int)-1=(ys.length:Int)-1-((0:Nat):Int) by omega)) (yi_sub rfl rfl rfl (by omega) (by omega))) ?_
 refine ZA ?_
 refine Qk ?_
 refine Nxx [0,1,3] ?_
 refine cx_block ?_
 have h0:=h
 have hb0:=hb
 refine cx_loopE (fun t a v=>∃ (m:Nat→Prop),Holds 19 [(0,.func (.yield l) #[] #[]),(1,pv bx 0),(3,nv ((ys.length:Int)-1-((t:Nat):Int)))] a∧Did m0 m W v∧J ((backL ys).take t) m v∧t≤ys.length) (ys.length+1) (fun a ha=>⟨m0,ha.keep (fk rfl (fk rfl (fk rfl fn))),hd,hJ,(Nat.zero_le _)⟩) ?_
 rintro t a v ht ⟨m,ha,hd,hJ,htl⟩
 refine cx_at ha ?_
 clear ha a
 have low:=hd.kept.below (n0:=B) (fun k hk q=>(hm0 k q).1 (.inl hk)) (by omega)
 have h:=h0.belowN low
 have hb:=hd.kept.row (fun q=>(hm0 _ q).1 (.inr rfl)) hb0
 have zv:=hd.kept.size
 have q1:=h.len
 have q2:=h.cap
 have lb:=hb.lt
 refine cx_seq ?_
 refine cx_seq ?_
 refine Qq ?_
 refine ZM ?_
 by_cases c1:0≤((ys.length:Int)-1-((t:Nat):Int))
 ·refine Za (yb (dT c1) yi_geq) ?_
  refine Qk ?_
  refine Nxx [0,1,3,8] ?_
  refine cx_ct rfl ?_
  refine cx_skip ?_
  refine Nxx [0,1,3] ?_
  refine cx_seq ?_
  refine cx_block ?_
  refine cx_seq ?_
  have htn:t<ys.length:=by omega
  have hpre:(backL ys).take t++[((((ys.length-1-t):Nat):Int),ys.getD (ys.length-1-t) 0)] <+: backL ys:=back_take htn▸List.take_prefix _ _
  have hti:((ys.length:Int)-1-((t:Nat):Int))=(((ys.length-1-t):Nat):Int):=by omega
  refine cx_regionx ?_
  refine lxw Wn (y_move rfl rfl) rfl (by decide) ?_
  refine lxw Wn (yv (congrArg nv hti) (y_move rfl rfl)) rfl (by decide) ?_
  refine lxw Wn (Qo (v:=s.v) hb rfl (by kernel_rfl) rfl rfl) rfl (by decide) ?_
  refine lxw Wn (yv (congrArg nv hti) (y_move rfl rfl)) rfl (by decide) ?_
  refine lxw Wn (y_ixT (i:=((ys.length-1-t))) (iI:=(((ys.length-1-t):Nat):Int)) h (by omega) (by omega) rfl rfl rfl) rfl (by decide) ?_
  refine lxw Wn (y_ldT (i:=((ys.length-1-t))) h (by omega) rfl rfl) rfl (by decide) ?_
  refine lx_yields Wn (hY ((backL ys).take t) ((((ys.length-1-t):Nat):Int),ys.getD (ys.length-1-t) 0) v m hd hJ hpre) rfl rfl rfl rfl (by decide) ?_ ?_
  ·rintro w2 ⟨m2,j2,g2⟩
   have hd:=(hd).trans j2
   have zy2:=j2.kept.size
   have hJ:=g2
   refine lxw Wn (y_bnot rfl rfl) rfl (by decide) ?_
   refine lx_nil ?_
   refine Nxx [0,1,3,18] ?_
   refine cx_cf rfl ?_
   refine cx_skip ?_
   refine Qs ?_
   refine Nxx [0,1,3] ?_
   refine Qq ?_
   refine ZM ?_
   refine Za (yv (congrArg nv (show ((ys.length:Int)-1-((t:Nat):Int))-1=(ys.length:Int)-1-((t+1:Nat):Int) by omega)) (yi_sub rfl rfl rfl (by omega) (by omega))) ?_
   refine ZA ?_
   refine Qk ?_
   exact fun a ha=>(show t<(ys.length+1)∧_ from ⟨(by omega),a,rfl,m2,ha.keep (fk rfl (fk rfl (fk rfl fn))),hd,(by rw [back_take htn];exact hJ),(by omega)⟩)
  rintro w2 ⟨m2,j2,g2⟩
  have hd:=(hd).trans j2
  have zy2:=j2.kept.size
  have hJx:=g2
  refine lxw Wn (y_bnot rfl rfl) rfl (by decide) ?_
  refine lx_nil ?_
  refine Nxx [0,1,3,18] ?_
  refine cx_ct rfl ?_
  refine cx_ret ?_
  refine xg_block_ret ?_
  refine xg_seq_ret ?_
  refine xg_seq_ret ?_
  refine xg_block_ret ?_
  obtain ⟨op,dd,kp⟩:=Marks.closed (Nat.le_refl _) (Marks.nil _ _ _) hd
  exact xg_ret [] op (res_none rfl) ⟨⟨_,rfl⟩,m2,dd,.inr ⟨_,hpre,hJxa _ _ _ _ (by omega) hJx kp⟩⟩
 refine Za (yb (dF c1) yi_geq) ?_
 refine Qk ?_
 refine Nxx [0,1,3,8] ?_
 refine cx_cf rfl ?_
 refine cx_exit ?_
 refine xg_seq_exit ?_
 refine xg_seq_exit ?_
 refine xg_block_exit ?_
 obtain rfl:t=ys.length:=by omega
 have hJ:J (backL ys) m v:=by have z:=hJ;rwa [List.take_of_length_le (by rw [back_len];exact Nat.le_refl _)] at z
 obtain ⟨op,dd,kp⟩:=Marks.closed (Nat.le_refl _) (Marks.nil _ _ _) hd
 exact xg_end [] op (res_none rfl) ⟨⟨_,rfl⟩,m,dd,.inl (hJa _ _ _ _ (by omega) hJ kp)⟩
end Go.Proofs.YtfdmhdnlmndhdaaGreatDoor
