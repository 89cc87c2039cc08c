/-
  A line of a report is told. How great the places of a text's tokens are.
-/
import Derived.Test.YtoagooclaphdbaaGreatDoorQ01
import Derived.Test.YtoagooclaphdbaaGreatDoorQ25
import Derived.Test.YtoagooclaphdbaaGreatDoorQ26
import Derived.Deep.RegionHeld3
set_option linter.unusedVariables false
set_option linter.unusedSimpArgs false
set_option maxRecDepth 100000
set_option maxHeartbeats 40000000

namespace Go.Proofs.YtoagooclaphdbaaGreatDoor
open Go.RowKit
theorem decF_size (n:Nat):(Lib.decDigits n).length≤n+1:=by
 induction n using Nat.strongRecOn with
 | _ n ih =>
  rw [Lib.decDigits]
  split
  · simp
  · have:=ih (n / 10) (by omega)
    simp
    omega
theorem decX_size (n:Nat) (h:n≤1000):(decX n).size≤1001:=by
 have h1:(decX n).size=(Lib.decDigits n).length:=by
  unfold decX Lib.itoa
  rw [if_neg (by omega)]
  simp [ByteArray.size]
 have:=decF_size n
 omega
theorem itoaB (n:Nat) (h:n≤1000) (w:World) (hp:PT w.heap.size w) :
 Calls Tryz.prog 23 #[.int .i64 n] w fun e w1=>e = .returned (.string (decX n))∧Below w.heap.size w w1:=by
 refine (Tryz.strconv_Itoa (n:Int) (by omega) (by omega) w (Lib.TabBelow.here hp)).mono ?_
 rintro e w1 ⟨rfl,k,os,rfl⟩
 exact ⟨rfl,below_growN w k os⟩
theorem keepz3 {w2 w w':World} {p0 p1 p2:Addr} {v0 v1 v2:Value} (h:Below w2.heap.size w2 w∧w.cell? p0=some v0∧w.cell? p1=some v1∧w.cell? p2=some v2) (hb:Below w.heap.size w w') :
 Below w2.heap.size w2 w'∧w'.cell? p0=some v0∧w'.cell? p1=some v1∧w'.cell? p2=some v2:=⟨below_seq h.1 hb,cell_kept hb h.2.1,cell_kept hb h.2.2.1,cell_kept hb h.2.2.2⟩
theorem MB.below {N ob:Nat} {s:ByteArray} {v:Value} {w w':World} (h:MB N ob s v w) (hb:Below w.heap.size w w'):MB N ob s v w':=by
 obtain ⟨⟨p,h1,h2⟩,h3,h4,h5⟩:=h
 exact ⟨⟨p,h1,below_heap hb (heap_lt h2) h2⟩,own_block h3 fun g _ hg=>hb.block g hg,h4,h5⟩
theorem MB.lt {N ob:Nat} {s:ByteArray} {v:Value} {w:World} (h:MB N ob s v w):ob < w.heap.size:=by
 obtain ⟨⟨p,h1,h2⟩,_⟩:=h
 exact heap_lt h2
theorem MW2.from {N ob:Nat} {v v':Value} {w w1 w':World} (hb:Below w.heap.size w w1) (hN:N≤w.heap.size) (h:MW2 N ob v v' w1 w'):MW2 N ob v v' w w' :=
 ⟨(below_mono hN hb).trans h.low,fun k hk h1 h2=>(h.far k (Nat.lt_of_lt_of_le hk hb.size) h1 h2).trans (hb.block k hk),fun g hg=>(h.loc g hg).imp id fun h=>Nat.le_trans hb.size h⟩
theorem tell1 {w:World} {N ob b7 tb:Nat} {l:List Tok} {tc:Nat} {cur:Array Value} {t:Tok} {num:Nat} {word out:ByteArray} {v:Value} (h7:w.heap[b7]? = some (.cells #[.slice (some ⟨tb,0,none⟩) l.length tc] 125)) (ht:w.heap[tb]? = some (.cells cur 170)) (hc:cur.toList.take (3 * l.length)=tokCells l) (hn:l[num]? = some t) (hl:t.line≤1000) (hco:t.col≤1000) (hw:(word.toList == [])=false) (hws:word.size≤20) (ho:out.size≤1000000) (hM:MB N ob out v w) (hp:PT w.heap.size w) :
 Calls Tryz.prog 152 #[.int .i64 num, .string word,ptr ob,ptr b7] w fun e w'=>e = .returned (.tuple #[])∧Hid (∃ v',MB N ob (tellT out t word) v' w'∧MW2 N ob v v' w w'):=by
 have hnl:num < l.length:=(List.getElem?_eq_some_iff.1 hn).1
 obtain ⟨tt,tl,tc2⟩:=t
 simp only at hl hco
 have z:=tokCells_get l num _ hn
 have z7:w.cell? ⟨b7,0,none⟩=some (.slice (some ⟨tb,0,none⟩) l.length tc):=heap_cell (i:=0) h7
 have z1:w.cell? ⟨tb,num * 3+1,none⟩=some (.int .i64 tl):=by
  rw [heap_cell ht,←Array.getElem?_toList,Nat.mul_comm];exact take_get hc z.2.1
 have z2:w.cell? ⟨tb,num * 3+2,none⟩=some (.int .i64 tc2):=by
  rw [heap_cell ht,←Array.getElem?_toList,Nat.mul_comm];exact take_get hc z.2.2
 have hlt2:(num:Int) < (l.length:Int):=by omega
 have hkc:(0:Int)≤(num:Int):=by omega
 have hs1:=decX_size tl hl
 have hs2:=decX_size tc2 hco
 obtain ⟨sl,hsl⟩:∃ sl,sl=decX tl:=⟨_,rfl⟩
 obtain ⟨sc,hsc⟩:∃ sc,sc=decX tc2:=⟨_,rfl⟩
 have HIL:=hid (fun (wx:World) (hb:Below w.heap.size w wx)=>hsl ▸ itoaB tl hl wx (fun w' h'=>hp w' (below_seq hb h')))
 have HIC:=hid (fun (wx:World) (hb:Below w.heap.size w wx)=>hsc ▸ itoaB tc2 hco wx (fun w' h'=>hp w' (below_seq hb h')))
 rw [←hsl] at hs1
 rw [←hsc] at hs2
 have HT:=hid (show tellT out ⟨tt,tl,tc2⟩ word=out ++ ((((sl ++ ⟨#[58]⟩) ++ sc) ++ ⟨#[32]⟩ ++ word) ++ ⟨#[10]⟩) by rw [hsl,hsc];rfl)
 have HW:=hid (fun (wx:World) (hb:Below w.heap.size w wx)=>mbWrite (hM.below hb) ((((sl ++ ⟨#[58]⟩) ++ sc) ++ ⟨#[32]⟩ ++ word) ++ ⟨#[10]⟩) (by simp only [ByteArray.size_append,sz1];omega))
 have HM:=hid hM
 have HNW:=hid (show N≤w.heap.size by have:=hM.lo;have:=hM.lt;omega)
 rw [HT.out]
 have q1:¬ (9223372036854775807 < sl.size+1):=by omega
 have q2:¬ (9223372036854775807 < sl.size+1+sc.size):=by omega
 have q3:¬ (9223372036854775807 < sl.size+1+sc.size+1):=by omega
 have q4:¬ (9223372036854775807 < sl.size+1+sc.size+1+word.size):=by omega
 have q5:¬ (9223372036854775807 < sl.size+1+sc.size+1+word.size+1):=by omega
 have hS:=hid (show Below w.heap.size w w∧w.cell? ⟨b7,0,none⟩=some (.slice (some ⟨tb,0,none⟩) l.length tc)∧w.cell? ⟨tb,num * 3+1,none⟩=some (.int .i64 tl)∧w.cell? ⟨tb,num * 3+2,none⟩=some (.int .i64 tc2) from ⟨Below.refl _ _,z7,z1,z2⟩)
 have d7:w.drew.cell? ⟨b7,0,none⟩=some (.slice (some ⟨tb,0,none⟩) l.length tc):=z7
 have d1:w.drew.cell? ⟨tb,num * 3+1,none⟩=some (.int .i64 tl):=z1
 have d2:w.drew.cell? ⟨tb,num * 3+2,none⟩=some (.int .i64 tc2):=z2
 have HBD:=hid (below_drew w)
 clear h7 ht hc hn hl hco hM hp z hsl hsc ho hws z7 z1 z2
 go_enter Tryz.func152,Tryz.ntmps152
 go_wp2_with fail
 go_region_with (first
  | (go_at_call 23;refine (HIL.out _ ?hd).mono ?_;(case hd=>first | exact HBD.out | exact Below.refl _ _);rintro e w3 ⟨rfl,hb3⟩;have hk3:=hid (keepz3 hS.out (below_seq HBD.out hb3));have k7:=hk3.out.2.1;have k2:=hk3.out.2.2.2;clear hb3)
  | (go_at_call 23;refine (HIC.out _ ?hd).mono ?_;(case hd=>first | exact hk3.out.1 | exact below_seq hk3.out.1 (below_drew _));rintro e w4 ⟨rfl,hb4⟩;have HK4:=hid (below_seq hk3.out.1 hb4);clear hb4)
  | (go_at_call 102;refine (HW.out _ ?hd).mono ?_;(case hd=>first | exact HK4.out | exact below_seq HK4.out (below_drew _));rintro e w5 ⟨rfl,hf⟩;have HF:=hf))
 all_goals
  obtain ⟨v',h1,h2⟩:=HF.out
  have HFF:=hid (show ∃ v',MB N ob _ v' w5∧MW2 N ob v v' w w5 from ⟨v',h1,h2.from HK4.out HNW.out⟩)
  clear h1 h2
  go_wp2
  go_end0
  exact ⟨rfl,HFF⟩
theorem tell0 {w:World} {ob b7:Nat} {num:Nat} {word:ByteArray} (hw:(word.toList == [])=true) :
 Calls Tryz.prog 152 #[.int .i64 num, .string word,ptr ob,ptr b7] w fun e w'=>e = .returned (.tuple #[])∧w'=w:=by
 go_enter Tryz.func152,Tryz.ntmps152
 go_wp2
 go_end0
 exact ⟨rfl,rfl⟩
end Go.Proofs.YtoagooclaphdbaaGreatDoor
namespace Go.Proofs.YtoagooclaphdbaaGreatDoor
theorem comP_lez (s:ByteArray) (a:Nat) (h:a≤s.size):a+comP s a≤s.size:=by
 have:comL (s.extract a s.size).data.toList≤(s.extract a s.size).data.toList.length:=by unfold comL;exact (List.takeWhile_sublist _).length_le
 rw [show (s.extract a s.size).data.toList.length=s.size - a by rw [←Lib.toList_data,Lib.extract_toList];simp] at this
 unfold comP;omega
theorem lexP_szs (s:ByteArray) (hs:s.size≤400):∀ (f a line ls:Nat),a≤s.size→line≤a+1→∀ t∈lexP s f a line ls,t.text.size≤400∧t.line≤1000∧t.col≤1000:=by
 intro f
 induction f with
 | zero=>intro a line ls _ _ t ht;simp [lexP] at ht
 | succ f ih =>
  intro a line ls ha hl t ht
  by_cases h:a < s.size
  · rw [lexP_step s f a line ls h] at ht
    split at ht
    · exact ih (a+1) (line+1) (a+1) (by omega) (by omega) t ht
    · split at ht
      · exact ih (a+1) line ls (by omega) (by omega) t ht
      · split at ht
        · exact ih (a+1) line ls (by omega) (by omega) t ht
        · split at ht
          · exact ih _ line ls (comP_lez s a (by omega)) (by omega) t ht
          · have hb:=tokP_bd s a h
            simp only [List.mem_cons] at ht
            rcases ht with rfl | ht
            · refine ⟨?_,by simp;omega,by simp;omega⟩
              simp only [ByteArray.size_extract];omega
            · exact ih _ line ls (by omega) (by omega) t ht
  · unfold lexP at ht
    rw [dif_neg h] at ht
    simp at ht
    subst ht
    exact ⟨Nat.zero_le _,by simp;omega,by simp;omega⟩
theorem tok_szs {s:ByteArray} (hs:s.size≤400) {i:Nat} {t:Tok} (h:(lexAll s)[i]? = some t):t.text.size≤400∧t.line≤1000∧t.col≤1000 :=
 lexP_szs s hs (s.size+1) 0 1 0 (by omega) (by omega) t (List.mem_of_getElem? h)
end Go.Proofs.YtoagooclaphdbaaGreatDoor
