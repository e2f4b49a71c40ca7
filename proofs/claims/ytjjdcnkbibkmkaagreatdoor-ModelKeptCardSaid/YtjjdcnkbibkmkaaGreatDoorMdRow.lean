/-
  A row of answers of one's own, whose contents are newer than the row.
-/
import Derived.Test.YtjjdcnkbibkmkaaGreatDoorKitM
namespace Go.Proofs.YtjjdcnkbibkmkaaGreatDoor
open Go.Proofs.Tryz
open Go.ChangeShapes Go.WideShapes Go.ChangeAt Go.RowKit
set_option linter.unusedVariables false
variable {j:Nat}

abbrev kOo:Kd:=⟨OoV,Oo,9,OoV.cs,IsOo,31,44,152,OoV.zero,Oo.zero,by decide,fun _ _=>rfl,fun _ _=>rfl,IsOo.below,IsOo.more,IsOo.zero,by kernel_rfl,by kernel_rfl,by decide⟩
def AnA [Lo] (w:World) (g n:Nat) (Ls:List An):Prop:=lowB<=g/\∃ ps:List (KP kAn),ps.map (·.2)=Ls/\ps.length=n/\n<=maxLen/\RowAt w g 38 (kCells ps).toArray/\∀ p∈ps,IsAn w w.heap.size p.1 p.2
theorem an_cell [Lo] {ps:List (KP kAn)} {u:Value} (h:(kCells ps).toArray[j]?=some u):∃ p,ps[j / 5]?=some p/\p∈ps/\(AnV.cs p.1 p.2)[j % 5]?=some u:=by
 rw [List.getElem?_toArray] at h;have hj:=(List.getElem?_eq_some_iff.1 h).1;rw [kCells_len] at hj;obtain ⟨h1,h2,h3⟩:=k_div (k:=5) (by decide) hj;have h4:=kCells_at ps (j / 5) (j % 5) _ (List.getElem?_eq_getElem h1) h2;rw [show j / 5*(kAn).k+j % 5=j from h3,h] at h4;exact ⟨_,List.getElem?_eq_getElem h1,List.getElem_mem h1,by rw [<-Array.getElem?_toList];exact h4.symm⟩
theorem an_slc [Lo] {ps:List (KP kAn)} (h:slcA (kCells ps).toArray j=true):j % 5=2\/j % 5=3:=by
 unfold slcA at h;split at h
 ·rename_i q
  obtain ⟨p,_,_,e⟩:=an_cell q;have hr:j % 5<5:=Nat.mod_lt _ (by decide);generalize j % 5=r at e hr ⊢
  match r,hr with
  | 0,_=>cases e
  | 1,_=>cases e
  | 2,_=>exact .inl rfl
  | 3,_=>exact .inr rfl
  | 4,_=>cases e
 cases h
theorem an_bx [Lo] (ps:List (KP kAn)):bx 38 (kCells ps).toArray=true:=by
 unfold bx;simp only [Bool.and_eq_true,Bool.not_eq_true',beq_eq_false_iff_ne];refine ⟨⟨⟨by decide,by decide⟩,List.all_eq_true.2 fun u hu=>?_⟩,List.all_eq_true.2 fun i _=>?_⟩
 ·obtain ⟨j,hj⟩:=List.mem_iff_getElem?.1 hu;rw [Array.getElem?_toList] at hj;obtain ⟨p,_,_,e⟩:=an_cell hj;have hr:j % 5<5:=Nat.mod_lt _ (by decide);generalize j % 5=r at e hr
  match r,hr with
  | 0,_=>cases e;rfl
  | 1,_=>cases e;rfl
  | 2,_=>cases e;rfl
  | 3,_=>cases e;rfl
  | 4,_=>cases e;rfl
 cases h0:slcA (kCells ps).toArray i with
 | false=>rfl
 | true =>
  cases h1:slcA (kCells ps).toArray (i+1) with
  | false=>rfl
  | true =>
   cases h2:slcA (kCells ps).toArray (i+2) with
   | false=>rfl
   | true =>
    have:=an_slc h0;have:=an_slc h1;have:=an_slc h2;omega
section
variable {w w':World} {g n:Nat} {Ls:List An}
theorem AnA.len [Lo] (h:AnA w g n Ls):Ls.length=n:=by
 obtain ⟨_,ps,rfl,hl,_⟩:=h;rw [List.length_map,hl]
theorem AnA.lt [Lo] (h:AnA w g n Ls):lowB<=g/\g<w.heap.size:=by
 obtain ⟨h0,ps,_,_,_,hr,_⟩:=h;exact ⟨h0,hr.lt⟩
theorem AnA.below [Lo] (h:AnA w g n Ls) (b:Bw w w'):AnA w' g n Ls:=by
 have hl:=h.lt.2;obtain ⟨h0,ps,e,hn,hm,hr,hp⟩:=h;exact ⟨h0,ps,e,hn,hm,RowAt.below b hl hr,fun p q=>((hp p q).below b).more b.size⟩
theorem AnA.bx [Lo] {c:Nat} {t t':TypeId} {old new:Array Value} (h:AnA w g n Ls) (r:RowAt w c t old) (ok:bx t old=true) (hc:lowB<=c) (ne:g≠c) (st:Set1 w w' c t' new):AnA w' g n Ls:=by
 obtain ⟨h0,ps,e,hn,hm,hr,hp⟩:=h;exact ⟨h0,ps,e,hn,hm,st.keep hr ne,fun p q=>((hp p q).bx r ok hc st).more (Nat.le_of_eq st.size.symm)⟩
theorem AnA.cast [Lo] {Ms:List An} (h:AnA w g n Ls) (e:Ls=Ms):AnA w g n Ms:=e▸h
theorem AnA.row [Lo] (h:AnA w g n Ls):RwAn w w.heap.size ⟨some ⟨g,0,none⟩,n,n⟩ Ls:=by
 have hl:=h.lt.2;have hlen:=h.len;obtain ⟨h0,ps,rfl,hn,hm,hr,hp⟩:=h;refine ⟨Nat.le_refl _,hm,hlen,fun _=>⟨g,0,rfl,hl,fun i L hL=>?_⟩⟩;rw [List.getElem?_map,Option.map_eq_some_iff] at hL;obtain ⟨p,hp',rfl⟩:=hL;refine ⟨p.1,hp p (List.mem_of_getElem? hp'),fun j u hu=>?_⟩;have hj:j<5:=(Array.getElem?_eq_some_iff.1 hu).1;rw [cell_of_row w g _ _ _ _ hr,List.getElem?_toArray,Nat.zero_add];have:=kCells_at ps i j p hp' hj;rw [<-Array.getElem?_toList] at hu;exact this.trans hu
end
section
variable {ops:Array Oper} {Q:Exit->Act->World->Prop} {n d:Nat} {E:Env} {o:Oper} {rest:List Oper} {w:World} {x y:Operand}
set_option maxRecDepth 20000 in
theorem lg_bsK (K:Kd) (ps:List (KP K)) {B:Nat} {parts:Array (Nat × Operand)} {len:Nat} (hp:∀ p∈ps,K.is w B p.1 p.2) (hB:B<=w.heap.size) (hw:Want ops E o true) (ho:o.op=.buildSlice K.ts len parts) (hlen:len=ps.length) (hl:0<len) (hl':len<=1000)
  (hx:vals E (parts.toList.map (·.2))=some (ps.map fun p=>.agg (K.cs p.1 p.2)))
  (hf:Instr.fill (fun i=>some (i*K.k,K.k)) ((Array.range (len*K.k)).map (fun k=>(Value.agg (K.cs K.zv K.zl)).cells[k % (Value.agg (K.cs K.zv K.zl)).cells.size]!)) ((parts.toList.map (·.1)).zip (ps.map fun p=>.agg (K.cs p.1 p.2)))=some (kCells ps).toArray) (hd:o.dst=some d) (hn:d<n)
  (h:∀ (s:SlV) w',RwK K w' w'.heap.size s (ps.map (·.2))->Bw w w'->LG prog ops Q n ((d,s.v)::E) rest w'):LG prog ops Q n E (o::rest) w:=by
 subst hlen;have hO:=own_klit (K:=K) (w:=w) (base:=w.heap.size) (B:=B) (ps:=ps) Lr (by unfold maxLen;omega) hp hB;refine lg_do hw (fun n a ha=>?_) hd hn (h ⟨some ⟨w.heap.size,0,none⟩,ps.length,ps.length⟩ _ (hO.rowS (Nat.le_trans hB ((Below.refl _ _).alloc Lr _).size)) ((Below.refl _ _).alloc Lr _));have e:(parts.map fun (i,x)=>(i,a.eval x)).toList=(parts.toList.map (·.1)).zip (ps.map fun p=>.agg (K.cs p.1 p.2)):=by
  rw [<-ha.evals hx];rw [List.map_map,List.zip_map',Array.toList_map];rfl
 unfold execOp;rw [ho];obtain ⟨i0,hi0,hz0,hz1,hz2⟩:=info_parts K.hi;have hp:=K.pos;have hk:=K.hb.2;have h16:¬16777216<ps.length*K.k:=by
  have:=Nat.mul_le_mul hl' hk;omega
 have h00:¬K.k=0:=by omega
 have h17:¬ps.length=0:=by omega
 simp only [Instr.buildSlice,e];simp [run_underlying K.hu,sizeOf,typeInfo,hi0,hz1,h16,zeroValue,hz0,hf,newRow];exact fun z=>(Nat.mul_eq_zero.1 z).elim (fun q=>absurd q h17) (fun q=>absurd q h00)
theorem lg_mkA [Lo] {N:Int} (k:Nat) (hw:Want ops E o true) (e:N=k) (hk:k<=1000000) (lob:lowB<=w.heap.size) (ho:o.op=.makeSlice 46 x y) (hx:val E x=some (nv N)) (hy:val E y=some (nv N)) (hd:o.dst=some d) (hn:d<n)
  (h:∀ (g:Nat) w',AnA w' g k (List.replicate k An.zero)->w'.heap.size=w.heap.size+1->g=w.heap.size->Bw w w'->LG prog ops Q n ((d,(⟨some ⟨g,0,none⟩,k,k⟩:SlV).v)::E) rest w'):LG prog ops Q n E (o::rest) w:=by
 subst e;have N1:=New.of_alloc (w:=w) 38 (kCells (K:=kAn) (List.replicate k (AnV.zero,An.zero))).toArray;refine lg_do hw (fun n a ha=>?_) hd hn (h w.heap.size _ ⟨lob,List.replicate k (AnV.zero,An.zero),List.map_replicate,List.length_replicate,by unfold maxLen;omega,N1.row,fun p q=>by rw [List.eq_of_mem_replicate q];exact IsAn.zero _ _⟩ N1.size rfl N1.below);obtain ⟨i0,hi0,hz0,hz1,hz2⟩:=info_parts (kAn).hi;have h48:(kAn).byt*k<=1000000000:=Nat.mul_le_mul (kAn).hb.1 hk;have hr:=run_make (P:=prog) w (kAn).ts (kAn).ty i0 _ (kAn).hu hi0 hz0 .i64 .i64 (k:Int) (k:Int) (by omega) (by omega) (by rw [hz2,<-Int.natCast_mul];omega) (by omega);rw [Int.toNat_natCast,hz1] at hr;simp only [execOp,ho,ha.eval hx,ha.eval hy,Sem.run_bind,nv,hr,Result.andThen_ok,Sem.run_pure];rw [<-made_ks];rfl
set_option maxRecDepth 20000 in
theorem lg_stAn [Lo] {Ls:List An} {i g m:Nat} {l:AnV} {L:An} (own:AnA w g m Ls) (hl:IsAn w w.heap.size l L) (hi:i<Ls.length) (hw:Want ops E o true)
  (ho:o.op=.store 38 x y) (hx:val E x=some (pv g (0+i*5))) (hy:val E y=some (.agg (l.cs L))) (hd:o.dst=none)
  (h:∀ w' old new,RowAt w g 38 old->bx 38 old=true->Set1 w w' g 38 new->AnA w' g m (Ls.set i L)->LG prog ops Q n E rest w'):LG prog ops Q n E (o::rest) w:=by
 obtain ⟨h0,ps,rfl,hn,hm,hr,hp⟩:=own;rw [List.length_map] at hi;have hset:=kCells_set ps i (l,L) hi;have hlen:(kCells ps).length=ps.length*5:=kCells_len ps;obtain ⟨i0,hi0,hz0,hz1,hz2⟩:=info_parts (kAn).hi;refine lg_st (j:=0+i*5) (new:=(kCells (ps.set i (l,L))).toArray) hw hr ho hx hy (by rw [show (prog.info? 38)=some i0 from hi0];show some i0.size=some (AnV.cs l L).size;rw [hz1];rfl) (by
  show (AnV.cs l L).all (·.oneCell')=true;rw [<-Array.all_toList];exact (kAn).one l L) (by
  show 0+i*5+5<=(kCells ps).toArray.size;rw [List.size_toArray,hlen];omega) (by
  rw [Nat.zero_add];exact congrArg List.toArray hset) hd fun w' st=>?_
 refine h w' _ _ hr (an_bx ps) st ⟨h0,ps.set i (l,L),by rw [List.map_set],by rw [List.length_set];exact hn,hm,st.row,fun p q=>?_⟩;have h1:IsAn w w.heap.size p.1 p.2:=by
  rcases List.mem_or_eq_of_mem_set q with q | rfl
  ·exact hp p q
  exact hl
 exact (h1.bx hr (an_bx ps) h0 st).more (Nat.le_of_eq st.size.symm)
end
end Go.Proofs.YtjjdcnkbibkmkaaGreatDoor
