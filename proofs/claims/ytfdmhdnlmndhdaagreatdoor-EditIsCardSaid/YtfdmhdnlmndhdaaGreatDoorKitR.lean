/-
  KitR: VaRef, WiRef, WiRefP, WiRefN.
-/
import Derived.Test.YtfdmhdnlmndhdaaGreatDoorKitV
namespace Go.Proofs.YtfdmhdnlmndhdaaGreatDoor
open Go.ChangeShapes Go.WideShapes Go.ChangeAt Go.RowKit
set_option linter.unusedVariables false

/- VaRef:
  The contracts of the document's own answers for layer 1 (the reference's Size, Get and Put), for every argument.
-/
theorem rsize_any (n:Int) (w:World):Calls Tryz.prog 213 #[.int .i64 n] w fun e w'=>e=.returned (.int .i64 (sizeN n))∧w=w':=by
 by_cases h0:n<0
 ·go_enter Tryz.func213,Tryz.ntmps213
  go_wp2
  go_ret
  exact ⟨retInt (sizeN_0 (.inl h0)).symm,rfl⟩
 by_cases h1:1073741823<n
 ·go_enter Tryz.func213,Tryz.ntmps213
  go_wp2
  go_ret
  exact ⟨retInt (sizeN_0 (.inr h1)).symm,rfl⟩
 by_cases h2:n≤63
 ·go_enter Tryz.func213,Tryz.ntmps213
  go_wp2
  go_ret
  exact ⟨retInt (sizeN_1 (by omega) h2).symm,rfl⟩
 by_cases h3:n≤16383
 ·go_enter Tryz.func213,Tryz.ntmps213
  go_wp2
  go_ret
  exact ⟨retInt (sizeN_2 (by omega) h3).symm,rfl⟩
 go_enter Tryz.func213,Tryz.ntmps213
 go_wp2
 go_ret
 exact ⟨retInt (sizeN_4 (by omega) (by omega)).symm,rfl⟩

/- WiRef:
  Contracts of the document's own answers for layer 2 that get: count, GetNum, GetFlag, GetBytes; and its varint Put, with the row as the call's own.
-/
theorem rcount_any (k:Int) (w:World):Calls Tryz.prog 240 #[.int .i64 k] w fun e w'=>e=.returned (.int .i64 (widthK k:Nat))∧w=w':=by
 by_cases h:k<1
 ·have e:((widthK k:Nat):Int)=1:=by unfold widthK;rw [if_pos h];rfl
  rw [e]
  clear e
  go_enter Tryz.func240,Tryz.ntmps240
  go_wp2
  go_ret
  exact ⟨rfl,rfl⟩
 by_cases h4:4<k
 ·have e:((widthK k:Nat):Int)=4:=by unfold widthK;rw [if_neg h,if_pos h4];rfl
  rw [e]
  clear e
  go_enter Tryz.func240,Tryz.ntmps240
  go_wp2
  all_goals (go_ret;exact ⟨rfl,rfl⟩)
 have e:((widthK k:Nat):Int)=k:=by unfold widthK;rw [if_neg h,if_neg h4];omega
 rw [e]
 clear e
 have hc:k=1∨k=2∨k=3∨k=4:=by omega
 clear h h4
 rcases hc with rfl | rfl | rfl | rfl
 all_goals
  go_enter Tryz.func240,Tryz.ntmps240
  go_wp2
  go_ret
  exact ⟨rfl,rfl⟩

theorem rputo0 (A:Option Addr) (n c B:Nat) (xs:List Int) (m:Int) (w:World) (hO:Oct w B A n xs) (hB:B≤w.heap.size) (hn:n≤100000) (h0:m<0∨1073741823<m) :
    Calls Tryz.prog 183 #[.slice A n c,.int .i64 m] w (OwnSl w w.heap.size (xs++octN m)):=by
  have hs:sizeN m=0:=sizeN_0 h0
  have HN:Hid (octN m=[]):=by show octN m=_;unfold octN;rw [hs];rfl
  have HX:=Lib.hid hO.2.1
  have HL:=Lib.hid hO.1
  have HY:Hid (∀ y∈xs++octN m,0≤y∧y≤255):=fun y hy=>by
    rcases List.mem_append.1 hy with h | h
    · exact HX.out y h
    · exact octN_bytes m y h
  have OW:Hid ((w.alloc (.cells #[] 5)).ownsRow w.heap.size 5 1 (.slice (some ⟨w.heap.size,0,none⟩) 0 0) 0 []) :=
    ⟨rfl,.inr ⟨w.heap.size,0,#[],rfl,Nat.le_refl _,heap_alloc_new w _,Nat.le_refl _,Nat.zero_le _,rfl,rfl⟩⟩
  have HO:=Lib.hid hO
  clear hO
  go_enter Tryz.func183,Tryz.ntmps183
  go_wp2_with (first
    | (at_builtin
       refine wpList_append_oct _ rfl (.tmp 6) (.tmp 7) rfl rfl w.heap.size (.slice (some ⟨w.heap.size,0,none⟩) 0 0) [] xs A n c B rfl rfl ?hown ?hO ?hb ?hbase ?_
       case hown=>exact OW.out
       case hO=>exact HO.out.below (((Below.refl _ _).alloc (Nat.le_refl _) _).mono hB)
       case hb=>simp;omega
       case hbase=>simp
       intro v3 w3 hj3
       have hb3:=joined_below OW.out hj3 ((Below.refl _ _).alloc (Nat.le_refl _) _) (by simp)
       have h3:=hj3.1
       rw [List.nil_append,List.length_nil,Nat.zero_add] at h3
       have H3:=Lib.hid h3
       clear h3 hj3)
    | (go_at_call 213;refine (rsize_any _ _).mono ?_;rintro e w' ⟨rfl,rfl⟩))
  go_ret
  rw [HN.out,List.append_nil]
  exact ⟨_,rfl,H3.out,hb3.1,hb3.2⟩

theorem rputo1 (A:Option Addr) (n c B:Nat) (xs:List Int) (m:Int) (w:World) (hO:Oct w B A n xs) (hB:B≤w.heap.size) (hn:n≤100000) (h0:0≤m) (h1:m≤63) :
    Calls Tryz.prog 183 #[.slice A n c,.int .i64 m] w (OwnSl w w.heap.size (xs++octN m)):=by
  have hs:sizeN m=1:=sizeN_1 h0 h1
  have HN:Hid (octN m=[m]):=by show octN m=_;unfold octN;rw [hs];rfl
  have HX:=Lib.hid hO.2.1
  have HL:=Lib.hid hO.1
  have HY:Hid (∀ y∈xs++octN m,0≤y∧y≤255):=fun y hy=>by
    rcases List.mem_append.1 hy with h | h
    · exact HX.out y h
    · exact octN_bytes m y h
  have OW:Hid ((w.alloc (.cells #[] 5)).ownsRow w.heap.size 5 1 (.slice (some ⟨w.heap.size,0,none⟩) 0 0) 0 []) :=
    ⟨rfl,.inr ⟨w.heap.size,0,#[],rfl,Nat.le_refl _,heap_alloc_new w _,Nat.le_refl _,Nat.zero_le _,rfl,rfl⟩⟩
  have HO:=Lib.hid hO
  clear hO
  go_enter Tryz.func183,Tryz.ntmps183
  go_wp2_with (first
    | (at_builtin
       refine wpList_append_oct _ rfl (.tmp 6) (.tmp 7) rfl rfl w.heap.size (.slice (some ⟨w.heap.size,0,none⟩) 0 0) [] xs A n c B rfl rfl ?hown ?hO ?hb ?hbase ?_
       case hown=>exact OW.out
       case hO=>exact HO.out.below (((Below.refl _ _).alloc (Nat.le_refl _) _).mono hB)
       case hb=>simp;omega
       case hbase=>simp
       intro v3 w3 hj3
       have hb3:=joined_below OW.out hj3 ((Below.refl _ _).alloc (Nat.le_refl _) _) (by simp)
       have h3:=hj3.1
       rw [List.nil_append,List.length_nil,Nat.zero_add] at h3
       have H3:=Lib.hid h3
       clear h3 hj3)
    | (go_at_call 213;refine (rsize_any _ _).mono ?_;rintro e w' ⟨rfl,rfl⟩)
    | (at_builtin
       refine wpList_append_oct _ rfl (.tmp 13) (.tmp 16) rfl rfl w.heap.size v3 xs [m] (some ⟨w3.heap.size,0,none⟩) 1 1 (w3.heap.size+1) rfl rfl ?hown ?hO ?hb ?hbase ?_
       case hown=>exact H3.out.alloc _
       case hO=>exact Oct.new w3 [m] (by rw [←HN.out];exact octN_bytes m)
       case hb=>rw [HL.out];omega
       case hbase=>have:=hb3.2;simp;omega
       intro v4 w4 hj4
       have hb4:=joined_below (H3.out.alloc _) hj4 (hb3.1.alloc hb3.2 _) (by have:=hb3.2;simp;omega)
       have h4:=hj4.1
       rw [←HN.out] at h4
       have H4:=Lib.hid h4
       clear h4 hj4))
  go_ret
  exact ⟨_,rfl,by rw [List.length_append];exact H4.out,hb4.1,hb4.2⟩

theorem rputo2 (A:Option Addr) (n c B:Nat) (xs:List Int) (m:Int) (w:World) (hO:Oct w B A n xs) (hB:B≤w.heap.size) (hn:n≤100000) (h0:63<m) (h1:m≤16383) :
    Calls Tryz.prog 183 #[.slice A n c,.int .i64 m] w (OwnSl w w.heap.size (xs++octN m)):=by
  have hs:sizeN m=2:=sizeN_2 h0 h1
  have HN:Hid (octN m=[64+m / 256,m % 256]):=by show octN m=_;unfold octN;rw [hs];rfl
  have HX:=Lib.hid hO.2.1
  have HL:=Lib.hid hO.1
  have HY:Hid (∀ y∈xs++octN m,0≤y∧y≤255):=fun y hy=>by
    rcases List.mem_append.1 hy with h | h
    · exact HX.out y h
    · exact octN_bytes m y h
  have OW:Hid ((w.alloc (.cells #[] 5)).ownsRow w.heap.size 5 1 (.slice (some ⟨w.heap.size,0,none⟩) 0 0) 0 []) :=
    ⟨rfl,.inr ⟨w.heap.size,0,#[],rfl,Nat.le_refl _,heap_alloc_new w _,Nat.le_refl _,Nat.zero_le _,rfl,rfl⟩⟩
  have HO:=Lib.hid hO
  clear hO
  go_enter Tryz.func183,Tryz.ntmps183
  go_wp2_with (first
    | (at_builtin
       refine wpList_append_oct _ rfl (.tmp 6) (.tmp 7) rfl rfl w.heap.size (.slice (some ⟨w.heap.size,0,none⟩) 0 0) [] xs A n c B rfl rfl ?hown ?hO ?hb ?hbase ?_
       case hown=>exact OW.out
       case hO=>exact HO.out.below (((Below.refl _ _).alloc (Nat.le_refl _) _).mono hB)
       case hb=>simp;omega
       case hbase=>simp
       intro v3 w3 hj3
       have hb3:=joined_below OW.out hj3 ((Below.refl _ _).alloc (Nat.le_refl _) _) (by simp)
       have h3:=hj3.1
       rw [List.nil_append,List.length_nil,Nat.zero_add] at h3
       have H3:=Lib.hid h3
       clear h3 hj3)
    | (go_at_call 213;refine (rsize_any _ _).mono ?_;rintro e w' ⟨rfl,rfl⟩)
    | (at_builtin
       refine wpList_append_oct _ rfl (.tmp 20) (.tmp 28) rfl rfl w.heap.size v3 xs [64+m / 256,m % 256] (some ⟨w3.heap.size,0,none⟩) 2 2 (w3.heap.size+1) rfl rfl ?hown ?hO ?hb ?hbase ?_
       case hown=>exact H3.out.alloc _
       case hO=>exact Oct.new w3 [64+m / 256,m % 256] (by rw [←HN.out];exact octN_bytes m)
       case hb=>rw [HL.out];omega
       case hbase=>have:=hb3.2;simp;omega
       intro v4 w4 hj4
       have hb4:=joined_below (H3.out.alloc _) hj4 (hb3.1.alloc hb3.2 _) (by have:=hb3.2;simp;omega)
       have h4:=hj4.1
       rw [←HN.out] at h4
       have H4:=Lib.hid h4
       clear h4 hj4))
  go_ret
  exact ⟨_,rfl,by rw [List.length_append];exact H4.out,hb4.1,hb4.2⟩

theorem rputo4 (A:Option Addr) (n c B:Nat) (xs:List Int) (m:Int) (w:World) (hO:Oct w B A n xs) (hB:B≤w.heap.size) (hn:n≤100000) (h0:16383<m) (h1:m≤1073741823) :
    Calls Tryz.prog 183 #[.slice A n c,.int .i64 m] w (OwnSl w w.heap.size (xs++octN m)):=by
  have hs:sizeN m=4:=sizeN_4 h0 h1
  have HN:Hid (octN m=[128+m / 16777216,m / 65536 % 256,m / 256 % 256,m % 256]):=by show octN m=_;unfold octN;rw [hs];rfl
  have HX:=Lib.hid hO.2.1
  have HL:=Lib.hid hO.1
  have HY:Hid (∀ y∈xs++octN m,0≤y∧y≤255):=fun y hy=>by
    rcases List.mem_append.1 hy with h | h
    · exact HX.out y h
    · exact octN_bytes m y h
  have OW:Hid ((w.alloc (.cells #[] 5)).ownsRow w.heap.size 5 1 (.slice (some ⟨w.heap.size,0,none⟩) 0 0) 0 []) :=
    ⟨rfl,.inr ⟨w.heap.size,0,#[],rfl,Nat.le_refl _,heap_alloc_new w _,Nat.le_refl _,Nat.zero_le _,rfl,rfl⟩⟩
  have HO:=Lib.hid hO
  clear hO
  go_enter Tryz.func183,Tryz.ntmps183
  go_wp2_with (first
    | (at_builtin
       refine wpList_append_oct _ rfl (.tmp 6) (.tmp 7) rfl rfl w.heap.size (.slice (some ⟨w.heap.size,0,none⟩) 0 0) [] xs A n c B rfl rfl ?hown ?hO ?hb ?hbase ?_
       case hown=>exact OW.out
       case hO=>exact HO.out.below (((Below.refl _ _).alloc (Nat.le_refl _) _).mono hB)
       case hb=>simp;omega
       case hbase=>simp
       intro v3 w3 hj3
       have hb3:=joined_below OW.out hj3 ((Below.refl _ _).alloc (Nat.le_refl _) _) (by simp)
       have h3:=hj3.1
       rw [List.nil_append,List.length_nil,Nat.zero_add] at h3
       have H3:=Lib.hid h3
       clear h3 hj3)
    | (go_at_call 213;refine (rsize_any _ _).mono ?_;rintro e w' ⟨rfl,rfl⟩)
    | (at_builtin
       refine wpList_append_oct _ rfl (.tmp 32) (.tmp 48) rfl rfl w.heap.size v3 xs [128+m / 16777216,m / 65536 % 256,m / 256 % 256,m % 256] (some ⟨w3.heap.size,0,none⟩) 4 4 (w3.heap.size+1) rfl rfl ?hown ?hO ?hb ?hbase ?_
       case hown=>exact H3.out.alloc _
       case hO=>exact Oct.new w3 [128+m / 16777216,m / 65536 % 256,m / 256 % 256,m % 256] (by rw [←HN.out];exact octN_bytes m)
       case hb=>rw [HL.out];omega
       case hbase=>have:=hb3.2;simp;omega
       intro v4 w4 hj4
       have hb4:=joined_below (H3.out.alloc _) hj4 (hb3.1.alloc hb3.2 _) (by have:=hb3.2;simp;omega)
       have h4:=hj4.1
       rw [←HN.out] at h4
       have H4:=Lib.hid h4
       clear h4 hj4))
  go_ret
  exact ⟨_,rfl,by rw [List.length_append];exact H4.out,hb4.1,hb4.2⟩

theorem rputo_any (A:Option Addr) (n c B:Nat) (xs:List Int) (m:Int) (w:World) (hO:Oct w B A n xs) (hB:B≤w.heap.size) (hn:n≤100000):Calls Tryz.prog 183 #[.slice A n c,.int .i64 m] w (OwnSl w w.heap.size (xs++octN m)):=by
 rcases sizeN_cases m with h | h | h | h
 ·exact rputo0 A n c B xs m w hO hB hn h.2
 ·exact rputo1 A n c B xs m w hO hB hn h.2.1 h.2.2
 ·exact rputo2 A n c B xs m w hO hB hn h.2.1 h.2.2
 exact rputo4 A n c B xs m w hO hB hn h.2.1 h.2.2
/- WiRefP:
  Contracts of the document's own answers for layer 2 that put: PutNum, PutFlag, PutBytes, PutNums.
-/
theorem rputNum_any (A:Option Addr) (n c B:Nat) (xs:List Int) (m k:Int) (w:World) (hO:Oct w B A n xs) (hB:B≤w.heap.size) (hn:n≤100000) :
    Calls Tryz.prog 231 #[.slice A n c,.int .i64 m,.int .i64 k] w (PutSl w (xs++numOct m (widthK k))):=by
  have hk:=widthK_le k
  have HX:=Lib.hid hO.2.1
  have HL:=Lib.hid hO.1
  have OW:Hid ((w.alloc (.cells #[] 5)).ownsRow w.heap.size 5 1 (.slice (some ⟨w.heap.size,0,none⟩) 0 0) 0 []) :=
    ⟨rfl,.inr ⟨w.heap.size,0,#[],rfl,Nat.le_refl _,heap_alloc_new w _,Nat.le_refl _,Nat.zero_le _,rfl,rfl⟩⟩
  have HO:=Lib.hid hO
  clear hO
  obtain ⟨K,hK⟩:∃ K,widthK k=K:=⟨_,rfl⟩
  have HK:=Lib.hid hK
  rw [hK] at hk ⊢
  clear hK
  have HN:=Lib.hid (numOct_length m K)
  have hxl:xs.length≤100000:=by rw [HL.out];exact hn
  go_enter Tryz.func231,Tryz.ntmps231
  go_wp2_with (first
    | (at_builtin
       refine wpList_append_oct _ rfl (.tmp 9) (.tmp 10) rfl rfl w.heap.size (.slice (some ⟨w.heap.size,0,none⟩) 0 0) [] xs A n c B rfl rfl ?hown ?hO ?hb ?hbase ?_
       case hown=>exact OW.out
       case hO=>exact HO.out.below (((Below.refl _ _).alloc (Nat.le_refl _) _).mono hB)
       case hb=>simp;omega
       case hbase=>simp
       intro v3 w3 hj3
       have hb3:=joined_below OW.out hj3 ((Below.refl _ _).alloc (Nat.le_refl _) _) (by simp)
       have h3:=hj3.1
       rw [List.nil_append,List.length_nil,Nat.zero_add] at h3
       have H3:=Lib.hid h3
       clear h3 hj3)
    | (go_at_call 240;refine (rcount_any _ _).mono ?_;rw [HK.out];rintro e w' ⟨rfl,rfl⟩))
  go_loopw [7,8] (fun u i w'=>∃ j:Nat,j≤K∧i=.int .i64 ((K:Int)-1-j)∧Hid (w'.ownsRow w.heap.size 5 1 u (xs.length+j) ((xs++(numOct m K).take j).map (Value.int .u8)))∧Below w.heap.size w w'∧w.heap.size≤w'.heap.size) (fun _ i _=>(intOf i+1).toNat)
  case atStart=>exact ⟨0,Nat.zero_le _,by go_num,Lib.hid (by simpa using H3.out),hb3.1,hb3.2⟩
  case round =>
    obtain ⟨j,hj,rfl,H1,hb1,hs1⟩:=hrel
    by_cases hlt:j<K
    · have HNN:=Lib.hid (numOct_get m K j hlt)
      have HT:Hid ((xs++(numOct m K).take j).length=xs.length+j):=by
        show _=_
        rw [List.length_append,List.length_take,HN.out];omega
      obtain ⟨r,hr⟩:∃ r:Nat,K=j+r+1:=⟨K-1-j,by omega⟩
      have er:(K:Int)-1-j=(r:Int):=by omega
      have er2:K-1-j=r:=by omega
      rw [er]
      rw [er2] at HNN
      have hr1:j+r+1≤K:=by omega
      have hr2:K≤j+r+1:=by omega
      clear er er2 hr
      obtain ⟨y,hy⟩:∃ y,m / (2:Int) ^ (8*r) % 256=y:=⟨_,rfl⟩
      have hA:bits .and .i64 (m / (2:Int) ^ (8*r)) 255=y:=by rw [and_255,hy]
      have hy1:0≤y∧y≤255:=by omega
      rw [hy] at HNN
      clear hy
      have hr3:r≤3:=by omega
      go_wp2_with (at_builtin
                   refine wpList_append_oct _ rfl (.tmp 19) (.tmp 27) rfl rfl w.heap.size _ (xs++(numOct m K).take j) [y] (some ⟨wr.heap.size,0,none⟩) 1 1 (wr.heap.size+1) rfl rfl ?hown ?hO ?hb ?hbase ?_
                   case hown=>rw [HT.out];exact H1.out.alloc _
                   case hO=>exact Oct.new wr [y] (by intro z hz;simp only [List.mem_cons,List.not_mem_nil,or_false] at hz;omega)
                   case hb=>rw [HT.out];omega
                   case hbase=>simp;omega
                   intro v4 w4 hj4
                   have hb4:=joined_below (H1.out.alloc _) hj4 (hb1.alloc hs1 _) (by simp;omega)
                   have h4:=hj4.1
                   rw [List.append_assoc,←HNN.out,HT.out] at h4
                   have H4:=Lib.hid h4
                   clear h4 hj4)
      go_roundw
      case rel=>exact ⟨j+1,by omega,by go_num,H4,hb4.1,hb4.2⟩
      case measure=>simp [intOf]<;>omega
    · obtain rfl:j=K:=by omega
      have e:(numOct m j).take j=numOct m j:=by
        conv=>lhs;arg 1;rw [←HN.out]
        rw [List.take_length]
      rw [e] at H1
      clear e
      have ei:(j:Int)-1-j=-1:=by omega
      rw [ei]
      clear ei
      go_wp2
      go_ret
      have hy:∀ y∈xs++numOct m j,0≤y∧y≤255:=fun y hy=>by
        rcases List.mem_append.1 hy with h | h
        · exact HX.out y h
        · exact numOct_bytes m j y h
      obtain ⟨A5,c5,rfl,h1,h2,h3⟩:=own_sl H1.out hy
      exact ⟨A5,_,c5,rfl,h1,h2,h3,hb1⟩

theorem rputFlag_any (A:Option Addr) (n c B:Nat) (xs:List Int) (b:Bool) (w:World) (hO:Oct w B A n xs) (hB:B≤w.heap.size) (hn:n≤100000) :
  Calls Tryz.prog 232 #[.slice A n c,.bool b] w (PutSl w (xs++flagOct b)):=by
 have HO:=Lib.hid hO
 clear hO
 cases b
 ·go_enter Tryz.func232,Tryz.ntmps232
  go_wp2_with fail
  refine (rputNum_any A n c B xs 0 1 _ HO.out hB hn).mono ?_
  rintro e w1 ⟨A1,n1,c1,rfl,h1,h2,h3,hb⟩
  have H3:=Lib.hid h3
  clear h3
  go_wp2
  go_ret
  exact ⟨A1,n1,c1,rfl,h1,h2,H3.out,hb⟩
 go_enter Tryz.func232,Tryz.ntmps232
 go_wp2_with fail
 refine (rputNum_any A n c B xs 1 1 _ HO.out hB hn).mono ?_
 rintro e w1 ⟨A1,n1,c1,rfl,h1,h2,h3,hb⟩
 have H3:=Lib.hid h3
 clear h3
 go_wp2
 go_ret
 exact ⟨A1,n1,c1,rfl,h1,h2,H3.out,hb⟩

theorem rputBytes_any (A A2:Option Addr) (n c n2 c2 B:Nat) (xs vs:List Int) (w:World) (hO:Oct w B A n xs) (hV:Oct w B A2 n2 vs) (hB:B≤w.heap.size) (hn:n≤90000) (hn2:n2≤90000) :
    Calls Tryz.prog 158 #[.slice A n c,.slice A2 n2 c2] w (PutSl w (xs++bytesOct vs)):=by
  have HX:=Lib.hid hO.2.1
  have HVb:=Lib.hid hV.2.1
  have HL:=Lib.hid hO.1
  have HL2:=Lib.hid hV.1
  have HB:Hid (bytesOct vs=octN (n2:Int)++vs):=by show _=_;rw [bytesOct_small (by rw [hV.1];omega),hV.1]
  have OW:Hid ((w.alloc (.cells #[] 5)).ownsRow w.heap.size 5 1 (.slice (some ⟨w.heap.size,0,none⟩) 0 0) 0 []) :=
    ⟨rfl,.inr ⟨w.heap.size,0,#[],rfl,Nat.le_refl _,heap_alloc_new w _,Nat.le_refl _,Nat.zero_le _,rfl,rfl⟩⟩
  have HO:=Lib.hid hO
  have HV:=Lib.hid hV
  have h4:=octN_le (n2:Int)
  clear hO hV
  go_enter Tryz.func158,Tryz.ntmps158
  go_wp2_with (first
    | (at_builtin
       refine wpList_append_oct _ rfl (.tmp 6) (.tmp 7) rfl rfl w.heap.size (.slice (some ⟨w.heap.size,0,none⟩) 0 0) [] xs A n c B rfl rfl ?hown ?hO ?hb ?hbase ?_
       case hown=>exact OW.out
       case hO=>exact HO.out.below (((Below.refl _ _).alloc (Nat.le_refl _) _).mono hB)
       case hb=>simp;omega
       case hbase=>simp
       intro v3 w3 hj3
       have hb3:=joined_below OW.out hj3 ((Below.refl _ _).alloc (Nat.le_refl _) _) (by simp)
       have h3:=hj3.1
       rw [List.nil_append,List.length_nil,Nat.zero_add,HL.out] at h3
       obtain ⟨A3,c3,rfl,g31,g32,hO3⟩:=own_sl h3 HX.out
       have H3:=Lib.hid hO3
       clear h3 hj3 hO3)
    | (go_at_call 183
       refine (rputo_any A3 n c3 w3.heap.size xs (n2:Int) w3 H3.out (Nat.le_refl _) (by omega)).mono ?_
       rintro e w4 ⟨v4,rfl,hw4,hb4,hs4⟩
       have H4:=Lib.hid hw4
       clear hw4)
    | (at_builtin
       refine wpList_append_oct _ rfl (.tmp 17) (.tmp 18) rfl rfl w3.heap.size v4 (xs++octN (n2:Int)) vs A2 n2 c2 B rfl rfl ?hown ?hO ?hb ?hbase ?_
       case hown=>exact H4.out
       case hO=>exact HV.out.below ((hb3.1.trans (hb4.mono hb3.2)).mono hB)
       case hb=>rw [List.length_append,HL.out];omega
       case hbase=>exact hs4
       intro v5 w5 hj5
       have hb5:=joined_below H4.out hj5 hb4 hs4
       have h5:=hj5.1
       rw [List.append_assoc,←HB.out] at h5
       have H5:=Lib.hid h5
       clear h5 hj5))
  go_ret
  have hy:∀ y∈xs++bytesOct vs,0≤y∧y≤255:=fun y hy=>by
    rcases List.mem_append.1 hy with h | h
    · exact HX.out y h
    · exact bytesOct_bytes HVb.out y h
  obtain ⟨A6,c6,rfl,h1,h2,h3⟩:=own_sl H5.out hy
  exact ⟨A6,_,c6,rfl,h1,h2,h3,hb3.1.trans (hb5.1.mono hb3.2)⟩

set_option maxHeartbeats 1000000 in
theorem rputNums_any (A A2:Option Addr) (n c n2 c2 B:Nat) (xs ls:List Int) (w:World) (hO:Oct w B A n xs) (hV:Nums w B A2 n2 ls) (hB:B≤w.heap.size) (hn:n≤90000) (hn2:n2≤20000) :
  Calls Tryz.prog 241 #[.slice A n c,.slice A2 n2 c2] w (PutSl w (xs++bytesOct (numsOct ls))):=by
 have HL:=Lib.hid hV.1
 have HO:=Lib.hid hO
 have HV:=Lib.hid hV
 clear hO hV
 go_enter Tryz.func241,Tryz.ntmps241
 go_wp2_with fail
 go_loopw [5,6] (fun u i w'=>∃ (j:Nat) (A':Option Addr) (n' c':Nat),j≤n2∧i=.int .i64 j∧u=.slice A' n' c'∧Hid (Oct w' w'.heap.size A' n' (numsOct (ls.take j)))∧Below w.heap.size w w') (fun _ i _=>n2-(intOf i).toNat)
 case atStart=>exact ⟨0,none,0,0,Nat.zero_le _,rfl,rfl,Lib.hid (Oct.nil _ _ _),Below.refl _ _⟩
 case round =>
  obtain ⟨j,A',n',c',hj,rfl,rfl,H1,hb1⟩:=hrel
  have k1:=hb1.size
  obtain rfl:n'=4*j:=by
   rw [←H1.out.1,numsOct_length,List.length_take,HL.out];omega
  by_cases hlt:j<n2
  ·have hjl:j<ls.length:=by rw [HL.out];exact hlt
   obtain ⟨b2,o2,ha,hB2,hc2⟩:=(HV.out.below (hb1.mono hB)).2 (by omega)
   subst ha
   have e1:=hc2 j ls[j] (List.getElem?_eq_getElem hjl)
   clear hc2
   have HS:=Lib.hid (numsOct_step ls j hjl)
   generalize ls[j]=y at *
   go_wp2_with fail
   refine (rputNum_any A' (4*j) c' wr.heap.size _ y 4 wr H1.out (Nat.le_refl _) (by omega)).mono ?_
   rw [show widthK 4=4 from rfl,←HS.out]
   rintro e w2 ⟨A3,n3,c3,rfl,g1,g2,hO3,hb3⟩
   have H3:=Lib.hid hO3
   clear hO3
   go_wp2_with fail
   go_roundw
   case rel=>exact ⟨j+1,A3,n3,c3,by omega,by go_num,rfl,H3,hb1.trans (hb3.mono k1)⟩
   case measure=>simp [intOf]<;>omega
  obtain rfl:j=n2:=by omega
  have e:numsOct (ls.take j)=numsOct ls:=by rw [←HL.out,List.take_length]
  rw [e] at H1
  clear e
  go_wp2_with fail
  refine (rputBytes_any A A' n c (4*j) c' wr.heap.size xs (numsOct ls) wr ((HO.out.below (hb1.mono hB)).more (by omega)) H1.out (Nat.le_refl _) hn (by omega)).mono ?_
  rintro e w2 ⟨A3,n3,c3,rfl,g1,g2,hO3,hb3⟩
  have H3:=Lib.hid hO3
  clear hO3
  go_wp2
  go_ret
  exact ⟨A3,n3,c3,rfl,g1,g2,H3.out,hb1.trans (hb3.mono k1)⟩
/- WiRefN:
  The contract of the document's own GetNums; numbers appended to a row of the call's own.
-/
end Go.Proofs.YtfdmhdnlmndhdaaGreatDoor
