/-
  What a script keeps: pure.
-/
import Derived.Test.YtjjdcnkbibkmkaaGreatDoorMdMore
namespace Go.Proofs.YtjjdcnkbibkmkaaGreatDoor
open Go.ChangeShapes Go.WideShapes Go.ChangeAt Go.RowKit
set_option linter.unusedVariables false
variable {Os:List Oo} {P s:Sa} {a b:Int} {o:Oo} {t:List Nd}

def keptT (id:Int):List Kp->Option (List Nd)
 | []=>none
 | k::ks=>if k.id=id then some k.t else keptT id ks
theorem keptT_eq (id:Int):∀ ks:List Kp,ktE id ks=(if (keptT id ks).isSome then 0 else 13)/\ktT id ks=(keptT id ks).getD []
 | []=>⟨rfl,rfl⟩
 | k::ks=>by
  obtain ⟨h1,h2⟩:=keptT_eq id ks;unfold ktE at h1;unfold ktT at h2;unfold ktE ktT;rw [plK,keptT,List.length_cons];by_cases q:k.id=id
  ·rw [if_pos q,if_pos q,if_pos (Nat.succ_pos _),if_pos (Nat.succ_pos _)];exact ⟨rfl,rfl⟩
  rw [if_neg q,if_neg q];by_cases z:plK id ks<ks.length
  ·rw [if_pos z] at h1 h2;have z1:plK id ks+1<ks.length+1:=by omega
   rw [if_pos z1,if_pos z1];exact ⟨h1,by rw [List.getD_cons_succ];exact h2⟩
  rw [if_neg z] at h1 h2;have z1:¬plK id ks+1<ks.length+1:=by omega
  rw [if_neg z1,if_neg z1];exact ⟨h1,h2⟩
theorem keptT_ok {id:Int} {ks:List Kp} (h:keptT id ks=some t):ktE id ks=0/\ktT id ks=t:=by
 obtain ⟨h1,h2⟩:=keptT_eq id ks;rw [h1,h2,h];exact ⟨rfl,rfl⟩
theorem keptT_app {id:Int} {t:List Nd}:∀ {ks:List Kp} (ms:List Kp),keptT id ks=some t->keptT id (ks++ms)=some t
 | [],_,h=>by cases h
 | k::ks,ms,h=>by
  rw [List.cons_append,keptT];rw [keptT] at h;by_cases q:k.id=id
  ·rw [if_pos q] at h ⊢;exact h
  rw [if_neg q] at h ⊢;exact keptT_app ms h
theorem keptT_last {id:Int} {t:List Nd}:∀ {ks:List Kp},(∀ k∈ks,k.id≠id)->keptT id (ks++[⟨id,t⟩])=some t
 | [],_=>by
  show (if id=id then some t else none)=some t;rw [if_pos rfl]
 | k::ks,h=>by
  rw [List.cons_append,keptT,if_neg (h k List.mem_cons_self)];exact keptT_last fun j hj=>h j (List.mem_cons_of_mem _ hj)
theorem keptT_erase {id j:Int} (hj:id≠j):∀ ks:List Kp,keptT id (ks.eraseIdx (plK j ks))=keptT id ks
 | []=>rfl
 | k::ks=>by
  rw [plK];by_cases q:k.id=j
  ·rw [if_pos q,List.eraseIdx_cons_zero,keptT,if_neg fun z=>hj (z.symm.trans q)]
  rw [if_neg q,List.eraseIdx_cons_succ,keptT,keptT,keptT_erase hj ks]
theorem risK_lt:∀ {a:Int} {ks:List Kp},risK a ks->a<=lasK a ks/\∀ k∈ks,a<k.id/\k.id<=lasK a ks
 | a,[],_=>⟨Int.le_refl _,fun k hk=>by cases hk⟩
 | a,k::ks,h=>by
  obtain ⟨h1,h2⟩:=risK_lt h.2.2;have h0:=h.1;rw [lasK];refine ⟨by omega,fun j hj=>?_⟩;rcases List.mem_cons.1 hj with rfl | hj
  ·exact ⟨h0,h1⟩
  have:=h2 j hj;exact ⟨by omega,this.2⟩
theorem risK_app {k:Kp}:∀ {a:Int} {ks:List Kp},risK a ks->lasK a ks<k.id->trIs k.t->risK a (ks++[k])/\lasK a (ks++[k])=k.id
 | a,[],_,h,t=>⟨⟨h,t,trivial⟩,rfl⟩
 | a,j::ks,h,l,t=>by
  obtain ⟨h1,h2⟩:=risK_app h.2.2 l t;exact ⟨⟨h.1,h.2.1,h1⟩,h2⟩
theorem risK_weak {ks:List Kp} (h:a<=b) (r:risK b ks):risK a ks:=by
 cases ks with
 | nil=>trivial
 | cons k ks=>exact ⟨by have:=r.1;omega,r.2⟩
theorem lasK_weak {c:Int} {ks:List Kp} (h:a<=b) (l:lasK b ks<=c):lasK a ks<=c:=by
 cases ks with
 | nil=>exact Int.le_trans h l
 | cons k ks=>exact l
theorem risK_erase:∀ {a:Int} {ks:List Kp} (n:Nat),risK a ks->risK a (ks.eraseIdx n)/\lasK a (ks.eraseIdx n)<=lasK a ks
 | a,[],n,_=>⟨trivial,Int.le_refl _⟩
 | a,k::ks,0,h=>by
  rw [List.eraseIdx_cons_zero,lasK];have h0:=h.1;refine ⟨risK_weak (by omega) h.2.2,lasK_weak (by omega) (Int.le_refl _)⟩
 | a,k::ks,n+1,h=>by
  obtain ⟨h1,h2⟩:=risK_erase n h.2.2;rw [List.eraseIdx_cons_succ,lasK];exact ⟨⟨h.1,h.2.1,h1⟩,h2⟩
theorem hasK_mem {id:Int} {ks:List Kp} (h:hasK id ks):∃ k∈ks,k.id=id:=by
 obtain ⟨k,h1,h2⟩:=plK_at h;exact ⟨k,List.mem_of_getElem? h1,h2⟩
theorem erase_no {id:Int}:∀ {a:Int} {ks:List Kp},risK a ks->¬hasK id (ks.eraseIdx (plK id ks))
 | a,[],_=>fun z=>absurd z (Nat.lt_irrefl 0)
 | a,k::ks,h=>fun z=>by
  obtain ⟨j,h1,h2⟩:=hasK_mem z;rw [plK] at h1;by_cases q:k.id=id
  ·rw [if_pos q,List.eraseIdx_cons_zero] at h1;have:=((risK_lt h.2.2).2 j h1).1;omega
  rw [if_neg q,List.eraseIdx_cons_succ] at h1;rcases List.mem_cons.1 h1 with rfl | h1
  ·exact q h2
  refine erase_no (id:=id) h.2.2 ?_;unfold hasK;refine Decidable.byContradiction fun y=>?_;have key:∀ {ms:List Kp},¬plK id ms<ms.length->∀ k∈ms,k.id≠id:=by
   intro ms;induction ms with
   | nil=>intro _ k hk;cases hk
   | cons m ms ih =>
    intro hn k hk;rw [plK,List.length_cons] at hn;by_cases w:m.id=id
    ·rw [if_pos w] at hn;omega
    rw [if_neg w] at hn;rcases List.mem_cons.1 hk with rfl | hk
    ·exact w
    exact ih (by omega) k hk
  exact key y j h1 h2
theorem erase_len {id:Int} {ks:List Kp} (h:ktE id ks=0):(ks.eraseIdx (plK id ks)).length+1=ks.length:=by
 have:=ktE_ok h;rw [List.length_eraseIdx_of_lt this];omega
theorem lasK_at:∀ {a:Int} {ks:List Kp} {j:Nat} {k:Kp},ks[j]?=some k->j+1=ks.length->k.id=lasK a ks
 | a,[],j,k,h,_=>by simp at h
 | a,[m],j,k,h,hj=>by
  obtain rfl:j=0:=by simpa using hj
  obtain rfl:m=k:=by simpa using h
  rfl
 | a,m::n::ks,0,k,h,hj=>by simp at hj
 | a,m::n::ks,j+1,k,h,hj=>by
  rw [lasK];exact lasK_at (by simpa using h) (by simpa using hj)
theorem askQ_err {what i:Int}:(askQ t what i).e=0\/askQ t what i=anE (askQ t what i).e:=by
 unfold askQ
 repeat' split
 all_goals first | exact .inl rfl | exact .inr rfl
theorem askS_err:(askS s o).e=0\/askS s o=anE (askS s o).e:=by
 unfold askS
 repeat' split
 ·exact askQ_err
 ·exact .inr rfl
 exact .inr rfl
theorem stepA_err (h:¬(stepA s o).e=0):stepA s o=anE (stepA s o).e:=by
 unfold stepA at h ⊢;split at h
 ·rename_i q
  rw [if_pos q];split at h
  ·exact absurd rfl h
  rename_i z
  rw [if_neg z]
 rename_i q
 rw [if_neg q];exact askS_err.resolve_left h
theorem stepS_err (h:¬(stepA s o).e=0):stepS s o=s:=by
 unfold stepA at h;unfold stepS;split
 ·rename_i q
  rw [if_pos q] at h;split
  ·rename_i z
   rw [if_pos z] at h;exact absurd rfl h
  rfl
 rfl
theorem stepS_ask (h:¬(1<=o.what/\o.what<=8)):stepS s o=s:=if_neg h
theorem stepA_ask (h:¬(1<=o.what/\o.what<=8)):stepA s o=askS s o:=if_neg h
theorem doA_err (h:¬(doA s o).e=0):doA s o=anE (doA s o).e:=stepA_err h
theorem doS_err (hs:saIs s) (h:¬(doA s o).e=0):doS s o=s:=(stepS_err h).trans (saAs_ok hs)
theorem doS_ask (hs:saIs s) (h:9<=o.what) (h':o.what<=15):doS s o=s:=(stepS_ask (by omega)).trans (saAs_ok hs)
theorem dedS_is (h:saIs s) (hb:Bytes o.b) (e:dedE s o=0):saIs (dedS s o):=by
 obtain ⟨h1,h2,h3,h4,h5⟩:=h;have hs:saIs s:=⟨h1,h2,h3,h4,h5⟩;unfold dedE at e;unfold dedS;by_cases q1:o.what=1
 ·rw [if_pos q1];exact ⟨h1,h2,addL_is h3 _,h4,h5⟩
 rw [if_neg q1] at e ⊢;by_cases q2:o.what=2
 ·rw [if_pos q2];exact ⟨h1,h2,remL_is _,h4,h5⟩
 rw [if_neg q2] at e ⊢;by_cases q3:o.what=3
 ·rw [if_pos q3];exact ⟨h1,h2,chaL_is h3 _ _,h4,h5⟩
 rw [if_neg q3] at e ⊢;by_cases q4:o.what=4
 ·rw [if_pos q4];exact ⟨h1,h2,comL_is h3 _ _ _,h4,h5⟩
 rw [if_neg q4] at e ⊢;by_cases q5:o.what=5
 ·rw [if_pos q5] at e ⊢;split at e
  ·cases e
  rename_i z
  obtain ⟨r1,r2⟩:=risK_app (k:=⟨s.next+1,s.t⟩) h4 (by show _<s.next+1;omega) h3;refine ⟨?_,?_,h3,r1,?_⟩
  ·show (s.kept++[_]).length<=8;rw [List.length_append,List.length_singleton];omega
  ·show s.next+1<=_
   omega
  show lasK 0 (s.kept++[_])<=s.next+1
  rw [r2];exact Int.le_refl _
 rw [if_neg q5] at e ⊢;by_cases q6:o.what=6
 ·rw [if_pos q6];exact ⟨h1,h2,kt_is hs _,h4,h5⟩
 rw [if_neg q6] at e ⊢;by_cases q7:o.what=7
 ·rw [if_pos q7] at e ⊢;obtain ⟨r1,r2⟩:=risK_erase (plK o.i s.kept) h4;have:=erase_len e;refine ⟨?_,h2,h3,r1,Int.le_trans r2 h5⟩;show (s.kept.eraseIdx _).length<=8;omega
 rw [if_neg q7] at e ⊢;exact ⟨h1,h2,(og_is hb e).1,h4,h5⟩
theorem stepS_is (h:saIs s) (hb:Bytes o.b):saIs (stepS s o):=by
 unfold stepS;split
 ·split
  ·rename_i e
   exact dedS_is h hb e
  exact h
 exact h
theorem doS_is (s:Sa) (hb:Bytes o.b):saIs (doS s o):=stepS_is (saAs_is s) hb
theorem runS_is {os:List Oo} (h:saIs s) (hb:∀ o∈os,Bytes o.b):saIs (runS s os):=by
 induction os generalizing s with
 | nil=>exact h
 | cons o os ih=>exact ih (doS_is s (hb o List.mem_cons_self)) fun p hp=>hb p (List.mem_cons_of_mem _ hp)
theorem run_is {os:List Oo} (hb:∀ o∈os,Bytes o.b):saIs (runS Sa.zero os):=runS_is saIs_zero hb
theorem stepS_next (s:Sa) (o:Oo):(stepS s o).next=s.next+(if o.what=5/\(stepA s o).e=0 then 1 else 0)/\(o.what=5/\(stepA s o).e=0->(stepA s o).n=s.next+1):=by
 unfold stepS stepA;by_cases w:1<=o.what/\o.what<=8
 ·rw [if_pos w,if_pos w];by_cases e:dedE s o=0
  ·rw [if_pos e,if_pos e];by_cases q5:o.what=5
   ·rw [if_pos ⟨q5,rfl⟩];unfold dedS dedN;rw [if_neg (by omega),if_neg (by omega),if_neg (by omega),if_neg (by omega),if_pos q5,if_neg (by omega),if_pos q5];exact ⟨rfl,fun _=>rfl⟩
   rw [if_neg fun z=>q5 z.1,Int.add_zero];refine ⟨?_,fun z=>absurd z.1 q5⟩;unfold dedS;rw [if_neg q5]
   repeat' split
   all_goals rfl
  rw [if_neg e,if_neg e,if_neg fun z=>e z.2,Int.add_zero];exact ⟨rfl,fun z=>absurd z.2 e⟩
 rw [if_neg w,if_neg w,if_neg fun z=>w (by omega),Int.add_zero];exact ⟨rfl,fun z=>absurd z.1 (by omega)⟩
theorem doS_next (h:saIs s) (o:Oo):(doS s o).next=s.next+(if o.what=5/\(doA s o).e=0 then 1 else 0)/\(o.what=5/\(doA s o).e=0->(doA s o).n=s.next+1):=by
 unfold doS doA;rw [saAs_ok h];exact stepS_next s o
theorem runS_next {os:List Oo} (h:saIs s) (hb:∀ o∈os,Bytes o.b):(runS s os).next<=s.next+os.length:=by
 induction os generalizing s with
 | nil=>exact Int.le_of_eq (Int.add_zero _).symm
 | cons o os ih =>
  have h1:=ih (doS_is s (hb o List.mem_cons_self)) fun p hp=>hb p (List.mem_cons_of_mem _ hp);have h2:=(doS_next h o).1;rw [runS,List.length_cons];split at h2<;>omega
theorem doS_forget (h:saIs s) (w:o.what=7) (e:(doA s o).e=0):(doS s o).kept.length+1=s.kept.length/\¬hasK o.i (doS s o).kept:=by
 unfold doA at e;unfold doS;rw [saAs_ok h] at e ⊢;have w8:1<=o.what/\o.what<=8:=by omega
 unfold stepA at e;unfold stepS;rw [if_pos w8] at e ⊢;by_cases z:dedE s o=0
 ·rw [if_pos z];unfold dedE at z;unfold dedS;rw [if_neg (by omega),if_neg (by omega),if_neg (by omega),if_neg (by omega),if_neg (by omega),if_neg (by omega),if_pos w] at z ⊢;exact ⟨erase_len z,erase_no h.2.2.2.1⟩
 rw [if_neg z] at e;exact absurd e z
theorem doS_keep {id:Int} (h:saIs s) (k:keptT id s.kept=some t) (hn:¬(o.what=7/\o.i=id)):keptT id (doS s o).kept=some t:=by
 unfold doS;rw [saAs_ok h];unfold stepS;split
 ·split
  ·unfold dedS;by_cases q5:o.what=5
   ·rw [if_neg (by omega),if_neg (by omega),if_neg (by omega),if_neg (by omega),if_pos q5];exact keptT_app _ k
   by_cases q7:o.what=7
   ·rw [if_neg (by omega),if_neg (by omega),if_neg (by omega),if_neg (by omega),if_neg (by omega),if_neg (by omega),if_pos q7];show keptT id (s.kept.eraseIdx _)=_;rw [keptT_erase fun z=>hn ⟨q7,z.symm⟩];exact k
   rw [if_neg q5,if_neg q7]
   repeat' split
   all_goals exact k
  exact k
 exact k
theorem snap_do (h:saIs s) (w:o.what=5):(¬(doA s o).e=0->(doA s o).e=10/\(s.kept.length=8\/s.next=1099511627776))/\((doA s o).e=0->(doA s o).n=s.next+1/\(doS s o).t=s.t/\keptT (s.next+1) (doS s o).kept=some s.t):=by
 unfold doA doS;rw [saAs_ok h];have w8:1<=o.what/\o.what<=8:=by omega
 have hd:dedE s o=if s.kept.length=8\/s.next=1099511627776 then 10 else 0:=by
  unfold dedE;rw [if_neg (by omega),if_neg (by omega),if_neg (by omega),if_neg (by omega),if_pos w]
 unfold stepA stepS;rw [if_pos w8,if_pos w8];by_cases z:s.kept.length=8\/s.next=1099511627776
 ·rw [if_pos z] at hd;rw [hd,if_neg (by decide),if_neg (by decide)];exact ⟨fun _=>⟨rfl,z⟩,fun q=>by cases q⟩
 rw [if_neg z] at hd;rw [hd,if_pos rfl,if_pos rfl];refine ⟨fun q=>absurd rfl q,fun _=>?_⟩;unfold dedN dedS;rw [if_neg (by omega),if_pos w,if_neg (by omega),if_neg (by omega),if_neg (by omega),if_neg (by omega),if_pos w];refine ⟨rfl,rfl,keptT_last fun k hk e=>?_⟩;have:=((risK_lt h.2.2.2.1).2 k hk).2;have:=h.2.2.2.2;omega
theorem restore_do (h:saIs s) (w:o.what=6) (k:keptT o.i s.kept=some t):(doA s o).e=0/\(doS s o).t=t:=by
 unfold doA doS;rw [saAs_ok h];have w8:1<=o.what/\o.what<=8:=by omega
 obtain ⟨k1,k2⟩:=keptT_ok k;have hd:dedE s o=0:=by
  unfold dedE;rw [if_neg (by omega),if_neg (by omega),if_neg (by omega),if_neg (by omega),if_neg (by omega),if_pos w];exact k1
 unfold stepA stepS;rw [if_pos w8,if_pos w8,if_pos hd,if_pos hd];refine ⟨rfl,?_⟩;unfold dedS;rw [if_neg (by omega),if_neg (by omega),if_neg (by omega),if_neg (by omega),if_neg (by omega),if_pos w];exact k2
theorem askO_what (k i old:Int):9<=(askO k i old).what/\(askO k i old).what<=15:=by
 show 9<=9+((maskK k 65535:Nat):Int) % 7/\9+((maskK k 65535:Nat):Int) % 7<=15;omega
theorem ask_doS (h:saIs s) (k i old:Int):doS s (askO k i old)=s:=by
 unfold doS;rw [saAs_ok h];have:=askO_what k i old;exact stepS_ask (by omega)
theorem ask_doA (h:saIs s) (k i old:Int):doA s (askO k i old)=askS s (askO k i old):=by
 unfold doA;rw [saAs_ok h];have:=askO_what k i old;exact stepA_ask (by omega)
theorem askS_now (s:Sa) (k i:Int):askS s (askO k i 0)=askQ s.t (askO k i 0).what i:=by
 unfold askS;rw [if_pos (askO_what k i 0)];rfl
theorem askS_old {id:Int} (h0:id≠0) (g:keptT id s.kept=some t) (k i:Int):askS s (askO k i id)=askQ t (askO k i 0).what i:=by
 obtain ⟨k1,k2⟩:=keptT_ok g;unfold askS;rw [if_pos (askO_what k i id)];unfold oldE oldT;rw [if_neg h0,if_neg h0,if_pos (by exact k1),show ktT (askO k i id).old s.kept=t from k2]
theorem saIs_pos (h:saIs s):0<=s.next:=Int.le_trans (risK_lt h.2.2.2.1).1 h.2.2.2.2
theorem snap_old (hs:saIs s) (hP:saIs P) (w:o.what=5) (e:(doA s o).e=0) (g:keptT (s.next+1) P.kept=some s.t) (k i:Int):doA P (askO k i (doA s o).n)=doA s (askO k i 0):=by
 have hp:=saIs_pos hs;rw [((snap_do hs w).2 e).1,ask_doA hP,ask_doA hs,askS_old (by omega) g,askS_now]
theorem snap_back {r:Oo} (hs:saIs s) (hP:saIs P) (w:o.what=5) (e:(doA s o).e=0) (g:keptT (s.next+1) P.kept=some s.t) (wr:r.what=6) (hi:r.i=(doA s o).n) (hb:Bytes r.b) (k i:Int):(doA P r).e=0/\doA (doS P r) (askO k i 0)=doA s (askO k i 0)/\(doS P r).t=s.t:=by
 have hg:keptT r.i P.kept=some s.t:=by rw [hi,((snap_do hs w).2 e).1];exact g
 obtain ⟨r1,r2⟩:=restore_do hP wr hg;refine ⟨r1,?_,r2⟩;rw [ask_doA (doS_is P hb),ask_doA hs,askS_now,askS_now,r2]
theorem tr_same' {a b:List Nd} (h:a=b):trSame a b:=h▸tr_same a
theorem RwOo.bytes {w:World} {B:Nat} {s:SlV} (h:RwOo w B s Os):∀ o∈Os,Bytes o.b:=fun o ho=>by
 obtain ⟨i,hi⟩:=List.mem_iff_getElem?.1 ho;have hl:=(List.getElem?_eq_some_iff.1 hi).1;rw [h.len] at hl;obtain ⟨b,off,l,L,_,_,hL,hO,_⟩:=h.at i hl;obtain rfl:=Option.some.inj (hL.symm.trans hi);exact hO.b.bytes
theorem bytes_take (h:∀ o∈Os,Bytes o.b) (t:Nat):∀ o∈Os.take t,Bytes o.b:=fun o ho=>h o (List.mem_of_mem_take ho)
theorem bytes_at {t:Nat} (h:∀ o∈Os,Bytes o.b) (e:Os[t]?=some o):Bytes o.b:=h o (List.mem_of_getElem? e)
end Go.Proofs.YtjjdcnkbibkmkaaGreatDoor
