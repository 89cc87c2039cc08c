/-
  The program's WriteTokens. The library's sort of no text. The program's Exports. The work of Exports.
-/
import Derived.Test.YtoagooclaphdbaaGreatDoorQ26
import Derived.Test.YtoagooclaphdbaaGreatDoorQ32
import Derived.Sort.OwnSorted
import Derived.Lib.RowBridge
set_option linter.unusedVariables false
set_option linter.unusedSimpArgs false
set_option maxRecDepth 100000
set_option maxHeartbeats 40000000

namespace Go.Proofs.YtoagooclaphdbaaGreatDoor
open Go.RowKit Go.Sort
def tokT (t:Tok):ByteArray:=(t.text ++ ⟨#[64]⟩) ++ ((decT t.line ++ ⟨#[58]⟩) ++ decT t.col)
def joinT:List ByteArray→ByteArray
 | []=>⟨#[]⟩
 | a :: r=>r.foldl (fun s x=>(s ++ ⟨#[32]⟩) ++ x) a
theorem joinT_snoc (l:List ByteArray) (x:ByteArray) (h:l ≠ []):joinT (l ++ [x])=(joinT l ++ ⟨#[32]⟩) ++ x:=by
 cases l with
 | nil=>exact absurd rfl h
 | cons a r=>simp [joinT]
theorem joinT_one (x:ByteArray):joinT [x]=x:=rfl
theorem joinT_from:∀ (r:List ByteArray) (M:Nat) (a:ByteArray),(∀ s∈r,s.size≤M)→(r.foldl (fun s x=>(s ++ ⟨#[32]⟩) ++ x) a).size≤a.size+r.length * (M+1)
 | [],_,a,_=>by simp
 | b :: r,M,a,h=>by
  have h1:=joinT_from r M ((a ++ ⟨#[32]⟩) ++ b) fun s hs=>h s (by simp [hs])
  have h2:=h b (by simp)
  rw [ByteArray.size_append,ByteArray.size_append,sz1] at h1
  simp only [List.foldl_cons,List.length_cons,Nat.add_mul] at *
  omega
theorem joinT_size (l:List ByteArray) (M:Nat) (h:∀ s∈l,s.size≤M):(joinT l).size≤l.length * (M+1):=by
 cases l with
 | nil=>simp [joinT];rfl
 | cons a r =>
  have:=joinT_from r M a fun s hs=>h s (by simp [hs])
  have h2:=h a (by simp)
  simp only [joinT,List.length_cons,Nat.add_mul] at *
  omega
theorem Adds.after {B b:Nat} {bs:List Value} {s:ByteArray} {w w1 w2:World} (h:Adds B b bs s w w1) (hb:Below w1.heap.size w1 w2) (hB:B≤w.heap.size):Adds B b bs s w w2 :=
 ⟨h.bd.below hb,h.bl.trans (below_mono (by have:=h.bl.size;omega) hb),h.kt.trans h.bl.size (KT.of_below hb)⟩
structure KT2 (ss:List ByteArray) (w wr:World) (k:Nat):Prop where
 bd:IsB w.heap.size w.heap.size (Lib.strCells (joinT (ss.take k))) wr
 bl:Below w.heap.size w wr
 lt:w.heap.size < wr.heap.size
theorem tok_a (tt:ByteArray) (tl tc:Nat):(tt ++ ⟨#[64]⟩ ++ (decT tl) ++ ⟨#[58]⟩ ++ (decT tc))=tokT ⟨tt,tl,tc⟩:=by
 apply ByteArray.ext
 simp [tokT,ByteArray.data_append,Array.append_assoc]
theorem tok_b (j tt:ByteArray) (tl tc:Nat):j ++ (⟨#[32]⟩ ++ tt ++ ⟨#[64]⟩ ++ (decT tl) ++ ⟨#[58]⟩ ++ (decT tc))=(j ++ ⟨#[32]⟩) ++ tokT ⟨tt,tl,tc⟩:=by
 apply ByteArray.ext
 simp [tokT,ByteArray.data_append,Array.append_assoc]
theorem joinT_take0 (ss:List ByteArray) (k:Nat) (hk:k < ss.length) (h0:k=0):joinT (ss.take (k+1))=joinT (ss.take k) ++ ss[k]:=by
 subst h0
 rw [take_succ_get ss 0 hk,List.take_zero,List.nil_append,joinT_one]
 apply ByteArray.ext
 simp [joinT,ByteArray.data_append]
theorem joinT_takeS (ss:List ByteArray) (k:Nat) (hk:k < ss.length) (h0:k≠0):joinT (ss.take (k+1))=(joinT (ss.take k) ++ ⟨#[32]⟩) ++ ss[k]:=by
 rw [take_succ_get ss k hk,joinT_snoc]
 intro e
 have:=congrArg List.length e
 rw [List.length_take,List.length_nil] at this
 omega
theorem writeTokens_any (toks:List Tok) (hn:toks.length≤401) (hsz:∀ (i:Nat) (t:Tok),toks[i]? = some t→t.text.size≤400∧t.line≤1000∧t.col≤1000) (tb c:Nat) (w:World)
 (ht:∃ cur,w.heap[tb]? = some (.cells cur 170)∧cur.toList.take (3 * toks.length)=tokCells toks) (hp:PT w.heap.size w) :
 Calls Tryz.prog 71 #[.slice (some ⟨tb,0,none⟩) toks.length c] w fun e w'=>e = .returned (.string (joinT (toks.map tokT)))∧Below w.heap.size w w':=by
 obtain ⟨cur,htb,hcur⟩:=ht
 have HTB:=hid htb
 have HCUR:=hid hcur
 have HSZ:=hid hsz
 have HP:=hid hp
 obtain ⟨ss,hss⟩:∃ ss,ss=toks.map tokT:=⟨_,rfl⟩
 have hlen:ss.length=toks.length:=by rw [hss];simp
 have HGET:Hid (∀ k (h:k < toks.length),ss[k]'(by omega)=tokT toks[k]):=hid (fun k h=>by subst hss;simp)
 have HS1:Hid (∀ s∈ss,s.size≤3000):=hid (fun s hs=>by
  subst hss
  obtain ⟨t,ht,rfl⟩:=List.mem_map.1 hs
  obtain ⟨k,hk,rfl⟩:=List.getElem_of_mem ht
  obtain ⟨h1,h2,h3⟩:=hsz k _ (List.getElem?_eq_getElem hk)
  have d1:=decT_size toks[k].line
  have d2:=decT_size toks[k].col
  simp only [tokT,ByteArray.size_append,sz1];omega)
 have HW0:Hid (KT2 ss w (w.alloc (.cells #[.pointer none, .slice none 0 0] 168)) 0):=hid
  ⟨.inl ⟨by omega, .slice none 0 0,new_heap _ _,World.ownsRow_nil _ _ _ _,by simp [Value.ownBlock]⟩,(Below.refl _ _).alloc (Nat.le_refl _) _,by simp⟩
 rw [←hss]
 clear htb hcur hsz hp hss
 go_enter Tryz.func71,Tryz.ntmps71
 go_wp2
 go_loopg [8] toks.length (fun f v9 wr => ∃ k,k+f=toks.length∧v9 = .int .i64 (k:Nat)∧KT2 ss w wr k)
 case atStart=>exact ⟨0,by omega,rfl,HW0.out⟩
 case round =>
  clear HW0
  obtain ⟨k,hk,rfl,hwt⟩:=hrel
  have HWT:=hid hwt
  clear hwt
  by_cases hlt:k < toks.length
  · have hi:=List.getElem?_eq_getElem hlt
    have HG:=hid (HGET.out k hlt)
    have HJ0:=hid (joinT_take0 ss k (by omega))
    have HJS:=hid (joinT_takeS ss k (by omega))
    generalize htt:toks[k]=tk at hi HG
    obtain ⟨tt,tl,tc⟩:=tk
    obtain ⟨hz1,hz2,hz3⟩:=HSZ.out k _ hi
    simp only at hz1 hz2 hz3
    have z:=tokCells_get toks k _ hi
    have h1:=below_heap HWT.out.bl (heap_lt HTB.out) HTB.out
    have z0:wr.cell? ⟨tb,k * 3,none⟩=some (.string tt):=by
     rw [heap_cell h1,←Array.getElem?_toList,Nat.mul_comm];exact take_get HCUR.out z.1
    have z1:wr.cell? ⟨tb,k * 3+1,none⟩=some (.int .i64 tl):=by
     rw [heap_cell h1,←Array.getElem?_toList,Nat.mul_comm];exact take_get HCUR.out z.2.1
    have z2:wr.cell? ⟨tb,k * 3+2,none⟩=some (.int .i64 tc):=by
     rw [heap_cell h1,←Array.getElem?_toList,Nat.mul_comm];exact take_get HCUR.out z.2.2
    have hlt2:(k:Int) < (toks.length:Int):=by omega
    have hkc:(0:Int)≤(k:Int):=by omega
    have HB:=hid (HWT.out.bd.below (below_new wr (.cells #[.string tt, .int .i64 (tl:Nat), .int .i64 (tc:Nat)] 170)))
    have HB1:Hid (w.heap.size≤(wr.alloc (.cells #[.string tt, .int .i64 (tl:Nat), .int .i64 (tc:Nat)] 170)).heap.size):=hid (by have:=HWT.out.lt;simp;omega)
    have HP:=hid (HP.out.on (HWT.out.bl.alloc (by have:=HWT.out.lt;omega) (.cells #[.string tt, .int .i64 (tl:Nat), .int .i64 (tc:Nat)] 170)))
    have HN:=hid (new_heap wr (.cells #[.string tt, .int .i64 (tl:Nat), .int .i64 (tc:Nat)] 170))
    have hne:wr.heap.size≠w.heap.size:=Nat.ne_of_gt HWT.out.lt
    have HD1:=decT_size tl
    have HD2:=decT_size tc
    have HLN:Hid ((Lib.strCells (joinT (ss.take k))).length≤2000000):=hid (by
     have h1:=joinT_size (ss.take k) 3000 (fun s hs=>HS1.out s (List.mem_of_mem_take hs))
     simp only [List.length_take] at h1
     simp only [Lib.strCells_length]
     omega)
    clear htt z h1 hi
    by_cases hk0:k=0
    · subst hk0
      simp only [Nat.zero_mul,Nat.zero_add] at z0 z1 z2
      have HJ1:=hid (HJ0.out rfl)
      clear HJ0
      go_wp2_with fail
      refine (bWriteString w.heap.size w.heap.size (Lib.strCells (joinT (ss.take 0))) tt _ HB.out (by have:=HLN.out;simp only [List.length_append,Lib.strCells_length,ByteArray.size_append,sz1,LIM] at *;omega) HB1.out).mono ?_
      rintro e w1 ⟨rfl,h1,h2,h3⟩
      have hadd:=Adds.mk h1 h2 h3
      clear h1 h2 h3
      have HA:=hid hadd
      clear hadd
      have hk:=HA.out.kt.get HN.out hne (by decide)
      have k1_0:World.cell? _ ⟨wr.heap.size,0,none⟩=some (.string tt):=heap_cell (i:=0) hk
      have k1_1:World.cell? _ ⟨wr.heap.size,1,none⟩=some (.int .i64 (tl:Nat)):=heap_cell (i:=1) hk
      have k1_2:World.cell? _ ⟨wr.heap.size,2,none⟩=some (.int .i64 (tc:Nat)):=heap_cell (i:=2) hk
      clear hk
      go_wp2_with fail
      refine (bWriteByte w.heap.size w.heap.size (Lib.strCells (joinT (ss.take 0)) ++ Lib.strCells (tt)) 64 _ HA.out.bd (by have:=HLN.out;simp only [List.length_append,Lib.strCells_length,ByteArray.size_append,sz1,LIM] at *;omega) (Nat.le_trans HB1.out HA.out.bl.size)).mono ?_
      rintro e w2 ⟨rfl,hadd⟩
      have hadd:=Adds.byte (c:=64) hadd
      have HA:=hid (HA.out.trans hadd)
      clear hadd
      have hk:=HA.out.kt.get HN.out hne (by decide)
      have k2_0:World.cell? _ ⟨wr.heap.size,0,none⟩=some (.string tt):=heap_cell (i:=0) hk
      have k2_1:World.cell? _ ⟨wr.heap.size,1,none⟩=some (.int .i64 (tl:Nat)):=heap_cell (i:=1) hk
      have k2_2:World.cell? _ ⟨wr.heap.size,2,none⟩=some (.int .i64 (tc:Nat)):=heap_cell (i:=2) hk
      clear hk
      go_wp2_with fail
      refine (Tryz.strconv_Itoa (tl:Int) (by omega) (by omega) _ (Lib.TabBelow.here (HP.out.on HA.out.bl))).mono ?_
      rintro e w3 ⟨rfl,kk,os,hw⟩
      rw [itoa_nat]
      have hg:Below w2.heap.size w2 w3:=by rw [hw];exact below_growN _ _ _
      have HA:=hid (HA.out.after hg HB1.out)
      clear hw hg
      have hk:=HA.out.kt.get HN.out hne (by decide)
      have k3_0:World.cell? _ ⟨wr.heap.size,0,none⟩=some (.string tt):=heap_cell (i:=0) hk
      have k3_1:World.cell? _ ⟨wr.heap.size,1,none⟩=some (.int .i64 (tl:Nat)):=heap_cell (i:=1) hk
      have k3_2:World.cell? _ ⟨wr.heap.size,2,none⟩=some (.int .i64 (tc:Nat)):=heap_cell (i:=2) hk
      clear hk
      go_wp2_with fail
      refine (bWriteString w.heap.size w.heap.size (Lib.strCells (joinT (ss.take 0)) ++ Lib.strCells (tt ++ ⟨#[64]⟩)) (decT tl) _ HA.out.bd (by have:=HLN.out;simp only [List.length_append,Lib.strCells_length,ByteArray.size_append,sz1,LIM] at *;omega) (Nat.le_trans HB1.out HA.out.bl.size)).mono ?_
      rintro e w4 ⟨rfl,h1,h2,h3⟩
      have hadd:=Adds.mk h1 h2 h3
      clear h1 h2 h3
      have HA:=hid (HA.out.trans hadd)
      clear hadd
      have hk:=HA.out.kt.get HN.out hne (by decide)
      have k4_0:World.cell? _ ⟨wr.heap.size,0,none⟩=some (.string tt):=heap_cell (i:=0) hk
      have k4_1:World.cell? _ ⟨wr.heap.size,1,none⟩=some (.int .i64 (tl:Nat)):=heap_cell (i:=1) hk
      have k4_2:World.cell? _ ⟨wr.heap.size,2,none⟩=some (.int .i64 (tc:Nat)):=heap_cell (i:=2) hk
      clear hk
      go_wp2_with fail
      refine (bWriteByte w.heap.size w.heap.size (Lib.strCells (joinT (ss.take 0)) ++ Lib.strCells (tt ++ ⟨#[64]⟩ ++ (decT tl))) 58 _ HA.out.bd (by have:=HLN.out;simp only [List.length_append,Lib.strCells_length,ByteArray.size_append,sz1,LIM] at *;omega) (Nat.le_trans HB1.out HA.out.bl.size)).mono ?_
      rintro e w5 ⟨rfl,hadd⟩
      have hadd:=Adds.byte (c:=58) hadd
      have HA:=hid (HA.out.trans hadd)
      clear hadd
      have hk:=HA.out.kt.get HN.out hne (by decide)
      have k5_0:World.cell? _ ⟨wr.heap.size,0,none⟩=some (.string tt):=heap_cell (i:=0) hk
      have k5_1:World.cell? _ ⟨wr.heap.size,1,none⟩=some (.int .i64 (tl:Nat)):=heap_cell (i:=1) hk
      have k5_2:World.cell? _ ⟨wr.heap.size,2,none⟩=some (.int .i64 (tc:Nat)):=heap_cell (i:=2) hk
      clear hk
      go_wp2_with fail
      refine (Tryz.strconv_Itoa (tc:Int) (by omega) (by omega) _ (Lib.TabBelow.here (HP.out.on HA.out.bl))).mono ?_
      rintro e w6 ⟨rfl,kk,os,hw⟩
      rw [itoa_nat]
      have hg:Below w5.heap.size w5 w6:=by rw [hw];exact below_growN _ _ _
      have HA:=hid (HA.out.after hg HB1.out)
      clear hw hg
      have hk:=HA.out.kt.get HN.out hne (by decide)
      have k6_0:World.cell? _ ⟨wr.heap.size,0,none⟩=some (.string tt):=heap_cell (i:=0) hk
      have k6_1:World.cell? _ ⟨wr.heap.size,1,none⟩=some (.int .i64 (tl:Nat)):=heap_cell (i:=1) hk
      have k6_2:World.cell? _ ⟨wr.heap.size,2,none⟩=some (.int .i64 (tc:Nat)):=heap_cell (i:=2) hk
      clear hk
      go_wp2_with fail
      refine (bWriteString w.heap.size w.heap.size (Lib.strCells (joinT (ss.take 0)) ++ Lib.strCells (tt ++ ⟨#[64]⟩ ++ (decT tl) ++ ⟨#[58]⟩)) (decT tc) _ HA.out.bd (by have:=HLN.out;simp only [List.length_append,Lib.strCells_length,ByteArray.size_append,sz1,LIM] at *;omega) (Nat.le_trans HB1.out HA.out.bl.size)).mono ?_
      rintro e w7 ⟨rfl,h1,h2,h3⟩
      have hadd:=Adds.mk h1 h2 h3
      clear h1 h2 h3
      have HA:=hid (HA.out.trans hadd)
      clear hadd
      have hk:=HA.out.kt.get HN.out hne (by decide)
      have k7_0:World.cell? _ ⟨wr.heap.size,0,none⟩=some (.string tt):=heap_cell (i:=0) hk
      have k7_1:World.cell? _ ⟨wr.heap.size,1,none⟩=some (.int .i64 (tl:Nat)):=heap_cell (i:=1) hk
      have k7_2:World.cell? _ ⟨wr.heap.size,2,none⟩=some (.int .i64 (tc:Nat)):=heap_cell (i:=2) hk
      clear hk
      have HW2:Hid (KT2 ss w w7 (0+1)):=hid ⟨by rw [HJ1.out,HG.out,←tok_a tt tl tc,strCells_append];exact HA.out.bd,(HWT.out.bl.alloc (by have:=HWT.out.lt;omega) _).trans HA.out.bl,by have:=HA.out.bl.size;have:=HWT.out.lt;simp at *;omega⟩
      go_wp2
      go_roundg (toks.length - 1)
      case rel=>exact ⟨1,by omega,by go_num,HW2.out⟩
      case measure=>omega
    · have hk1:((0:Int) < (k:Int)):=by omega
      go_wp2_with fail
      refine (bWriteByte w.heap.size w.heap.size (Lib.strCells (joinT (ss.take k))) 32 _ HB.out (by have:=HLN.out;simp only [List.length_append,Lib.strCells_length,ByteArray.size_append,sz1,LIM] at *;omega) HB1.out).mono ?_
      rintro e w1 ⟨rfl,hadd⟩
      have hadd:=Adds.byte (c:=32) hadd
      have HA:=hid hadd
      clear hadd
      have hk:=HA.out.kt.get HN.out hne (by decide)
      have k1_0:World.cell? _ ⟨wr.heap.size,0,none⟩=some (.string tt):=heap_cell (i:=0) hk
      have k1_1:World.cell? _ ⟨wr.heap.size,1,none⟩=some (.int .i64 (tl:Nat)):=heap_cell (i:=1) hk
      have k1_2:World.cell? _ ⟨wr.heap.size,2,none⟩=some (.int .i64 (tc:Nat)):=heap_cell (i:=2) hk
      clear hk
      go_wp2_with fail
      refine (bWriteString w.heap.size w.heap.size (Lib.strCells (joinT (ss.take k)) ++ Lib.strCells (⟨#[32]⟩)) tt _ HA.out.bd (by have:=HLN.out;simp only [List.length_append,Lib.strCells_length,ByteArray.size_append,sz1,LIM] at *;omega) (Nat.le_trans HB1.out HA.out.bl.size)).mono ?_
      rintro e w2 ⟨rfl,h1,h2,h3⟩
      have hadd:=Adds.mk h1 h2 h3
      clear h1 h2 h3
      have HA:=hid (HA.out.trans hadd)
      clear hadd
      have hk:=HA.out.kt.get HN.out hne (by decide)
      have k2_0:World.cell? _ ⟨wr.heap.size,0,none⟩=some (.string tt):=heap_cell (i:=0) hk
      have k2_1:World.cell? _ ⟨wr.heap.size,1,none⟩=some (.int .i64 (tl:Nat)):=heap_cell (i:=1) hk
      have k2_2:World.cell? _ ⟨wr.heap.size,2,none⟩=some (.int .i64 (tc:Nat)):=heap_cell (i:=2) hk
      clear hk
      go_wp2_with fail
      refine (bWriteByte w.heap.size w.heap.size (Lib.strCells (joinT (ss.take k)) ++ Lib.strCells (⟨#[32]⟩ ++ tt)) 64 _ HA.out.bd (by have:=HLN.out;simp only [List.length_append,Lib.strCells_length,ByteArray.size_append,sz1,LIM] at *;omega) (Nat.le_trans HB1.out HA.out.bl.size)).mono ?_
      rintro e w3 ⟨rfl,hadd⟩
      have hadd:=Adds.byte (c:=64) hadd
      have HA:=hid (HA.out.trans hadd)
      clear hadd
      have hk:=HA.out.kt.get HN.out hne (by decide)
      have k3_0:World.cell? _ ⟨wr.heap.size,0,none⟩=some (.string tt):=heap_cell (i:=0) hk
      have k3_1:World.cell? _ ⟨wr.heap.size,1,none⟩=some (.int .i64 (tl:Nat)):=heap_cell (i:=1) hk
      have k3_2:World.cell? _ ⟨wr.heap.size,2,none⟩=some (.int .i64 (tc:Nat)):=heap_cell (i:=2) hk
      clear hk
      go_wp2_with fail
      refine (Tryz.strconv_Itoa (tl:Int) (by omega) (by omega) _ (Lib.TabBelow.here (HP.out.on HA.out.bl))).mono ?_
      rintro e w4 ⟨rfl,kk,os,hw⟩
      rw [itoa_nat]
      have hg:Below w3.heap.size w3 w4:=by rw [hw];exact below_growN _ _ _
      have HA:=hid (HA.out.after hg HB1.out)
      clear hw hg
      have hk:=HA.out.kt.get HN.out hne (by decide)
      have k4_0:World.cell? _ ⟨wr.heap.size,0,none⟩=some (.string tt):=heap_cell (i:=0) hk
      have k4_1:World.cell? _ ⟨wr.heap.size,1,none⟩=some (.int .i64 (tl:Nat)):=heap_cell (i:=1) hk
      have k4_2:World.cell? _ ⟨wr.heap.size,2,none⟩=some (.int .i64 (tc:Nat)):=heap_cell (i:=2) hk
      clear hk
      go_wp2_with fail
      refine (bWriteString w.heap.size w.heap.size (Lib.strCells (joinT (ss.take k)) ++ Lib.strCells (⟨#[32]⟩ ++ tt ++ ⟨#[64]⟩)) (decT tl) _ HA.out.bd (by have:=HLN.out;simp only [List.length_append,Lib.strCells_length,ByteArray.size_append,sz1,LIM] at *;omega) (Nat.le_trans HB1.out HA.out.bl.size)).mono ?_
      rintro e w5 ⟨rfl,h1,h2,h3⟩
      have hadd:=Adds.mk h1 h2 h3
      clear h1 h2 h3
      have HA:=hid (HA.out.trans hadd)
      clear hadd
      have hk:=HA.out.kt.get HN.out hne (by decide)
      have k5_0:World.cell? _ ⟨wr.heap.size,0,none⟩=some (.string tt):=heap_cell (i:=0) hk
      have k5_1:World.cell? _ ⟨wr.heap.size,1,none⟩=some (.int .i64 (tl:Nat)):=heap_cell (i:=1) hk
      have k5_2:World.cell? _ ⟨wr.heap.size,2,none⟩=some (.int .i64 (tc:Nat)):=heap_cell (i:=2) hk
      clear hk
      go_wp2_with fail
      refine (bWriteByte w.heap.size w.heap.size (Lib.strCells (joinT (ss.take k)) ++ Lib.strCells (⟨#[32]⟩ ++ tt ++ ⟨#[64]⟩ ++ (decT tl))) 58 _ HA.out.bd (by have:=HLN.out;simp only [List.length_append,Lib.strCells_length,ByteArray.size_append,sz1,LIM] at *;omega) (Nat.le_trans HB1.out HA.out.bl.size)).mono ?_
      rintro e w6 ⟨rfl,hadd⟩
      have hadd:=Adds.byte (c:=58) hadd
      have HA:=hid (HA.out.trans hadd)
      clear hadd
      have hk:=HA.out.kt.get HN.out hne (by decide)
      have k6_0:World.cell? _ ⟨wr.heap.size,0,none⟩=some (.string tt):=heap_cell (i:=0) hk
      have k6_1:World.cell? _ ⟨wr.heap.size,1,none⟩=some (.int .i64 (tl:Nat)):=heap_cell (i:=1) hk
      have k6_2:World.cell? _ ⟨wr.heap.size,2,none⟩=some (.int .i64 (tc:Nat)):=heap_cell (i:=2) hk
      clear hk
      go_wp2_with fail
      refine (Tryz.strconv_Itoa (tc:Int) (by omega) (by omega) _ (Lib.TabBelow.here (HP.out.on HA.out.bl))).mono ?_
      rintro e w7 ⟨rfl,kk,os,hw⟩
      rw [itoa_nat]
      have hg:Below w6.heap.size w6 w7:=by rw [hw];exact below_growN _ _ _
      have HA:=hid (HA.out.after hg HB1.out)
      clear hw hg
      have hk:=HA.out.kt.get HN.out hne (by decide)
      have k7_0:World.cell? _ ⟨wr.heap.size,0,none⟩=some (.string tt):=heap_cell (i:=0) hk
      have k7_1:World.cell? _ ⟨wr.heap.size,1,none⟩=some (.int .i64 (tl:Nat)):=heap_cell (i:=1) hk
      have k7_2:World.cell? _ ⟨wr.heap.size,2,none⟩=some (.int .i64 (tc:Nat)):=heap_cell (i:=2) hk
      clear hk
      go_wp2_with fail
      refine (bWriteString w.heap.size w.heap.size (Lib.strCells (joinT (ss.take k)) ++ Lib.strCells (⟨#[32]⟩ ++ tt ++ ⟨#[64]⟩ ++ (decT tl) ++ ⟨#[58]⟩)) (decT tc) _ HA.out.bd (by have:=HLN.out;simp only [List.length_append,Lib.strCells_length,ByteArray.size_append,sz1,LIM] at *;omega) (Nat.le_trans HB1.out HA.out.bl.size)).mono ?_
      rintro e w8 ⟨rfl,h1,h2,h3⟩
      have hadd:=Adds.mk h1 h2 h3
      clear h1 h2 h3
      have HA:=hid (HA.out.trans hadd)
      clear hadd
      have hk:=HA.out.kt.get HN.out hne (by decide)
      have k8_0:World.cell? _ ⟨wr.heap.size,0,none⟩=some (.string tt):=heap_cell (i:=0) hk
      have k8_1:World.cell? _ ⟨wr.heap.size,1,none⟩=some (.int .i64 (tl:Nat)):=heap_cell (i:=1) hk
      have k8_2:World.cell? _ ⟨wr.heap.size,2,none⟩=some (.int .i64 (tc:Nat)):=heap_cell (i:=2) hk
      clear hk
      have HW2:Hid (KT2 ss w w8 (k+1)):=hid ⟨by rw [HJS.out hk0,HG.out,←tok_b (joinT (ss.take k)) tt tl tc,strCells_append];exact HA.out.bd,(HWT.out.bl.alloc (by have:=HWT.out.lt;omega) _).trans HA.out.bl,by have:=HA.out.bl.size;have:=HWT.out.lt;simp at *;omega⟩
      go_wp2
      go_roundg (toks.length - (k+1))
      case rel=>exact ⟨k+1,by omega,by go_num,HW2.out⟩
      case measure=>omega
  · have hke:k=toks.length:=by omega
    subst hke
    have HC2:=hid (show ss.take toks.length=ss by rw [←hlen,List.take_length])
    have hb0:=HWT.out.bd
    rw [HC2.out] at hb0
    have HB0:=hid hb0
    clear hb0
    go_wp2_with fail
    refine (builder_text HB0.out (by have:=HWT.out.lt;omega)).mono ?_
    rintro e w2 ⟨rfl,hb2⟩
    have HB2:=hid (HWT.out.bl.trans hb2)
    clear hb2
    go_wp2
    go_ret
    exact ⟨rfl,HB2.out⟩
end Go.Proofs.YtoagooclaphdbaaGreatDoor
namespace Go.Proofs.YtoagooclaphdbaaGreatDoor
open Go.RowKit
theorem len64_0 (w:World):Calls Tryz.prog 155 #[.int .u64 0] w fun e w'=>e = .returned (.int .i64 0)∧w'=w:=by
 go_enter Tryz.func155,Tryz.ntmps155
 go_wp2
 go_ret
 refine ⟨ret_int ?_,rfl⟩
 have h8:Lib.len8 0=0:=by decide +kernel
 rw [h8];simp [wrap64]
theorem len_0 (w:World):Calls Tryz.prog 210 #[.int .u64 0] w fun e w'=>e = .returned (.int .i64 0)∧w'=w:=by
 go_enter Tryz.func210,Tryz.ntmps210
 go_wp2_with fail
 refine (len64_0 _).mono ?_
 rintro e w1 ⟨rfl,rfl⟩
 go_wp2
 go_ret
 exact ⟨rfl,rfl⟩
theorem ins_0 (w:World):Calls Tryz.prog 229 #[.slice none 0 0, .int .i64 0, .int .i64 0] w fun e w'=>e = .returned (.tuple #[])∧w'=w:=by
 go_enter Tryz.func229,Tryz.ntmps229
 go_wp2
 refine wp_loop_rounds 1 ?_
 rw [rounds_succ]
 go_wp2
 go_end0
 exact ⟨rfl,rfl⟩
theorem pdq_0 (w:World):Calls Tryz.prog 209 #[.slice none 0 0, .int .i64 0, .int .i64 0, .int .i64 0] w fun e w'=>e = .returned (.tuple #[])∧w'=w:=by
 go_enter Tryz.func209,Tryz.ntmps209
 go_wp2
 refine wp_loop_rounds 1 ?_
 rw [rounds_succ]
 go_wp2_with fail
 refine (ins_0 _).mono ?_
 rintro e w1 ⟨rfl,rfl⟩
 go_wp2
 refine bodyPost_ret (results_none rfl _ _ _) rfl ?_
 exact ⟨rfl,rfl⟩
theorem sort_nil (w:World):Calls Tryz.prog 172 #[.slice none 0 0] w fun e w'=>e = .returned (.tuple #[])∧w'=w:=by
 go_enter Tryz.func172,Tryz.ntmps172
 go_wp2_with fail
 refine (len_0 _).mono ?_
 rintro e w1 ⟨rfl,rfl⟩
 go_wp2_with fail
 refine (pdq_0 _).mono ?_
 rintro e w1 ⟨rfl,rfl⟩
 go_wp2
 go_end0
 exact ⟨rfl,rfl⟩
end Go.Proofs.YtoagooclaphdbaaGreatDoor
namespace Go.Proofs.YtoagooclaphdbaaGreatDoor
open Go.RowKit Go.Sort
def pubs (items:List It):List (List UInt8):=(items.filter fun i=>i.kind == 2).map fun i=>i.name.data.toList
def expL (items:List It):List (List UInt8):=Lib.compact ((pubs items).mergeSort fun x y=>decide (x≤y))
theorem pubs_snoc (l:List It) (i:It):pubs (l ++ [i])=pubs l ++ (if i.kind == 2 then [i.name.data.toList] else []):=by
 unfold pubs
 rw [List.filter_append,List.map_append]
 congr 1
 cases h:i.kind == 2 <;> simp [h]
theorem pubs_len (l:List It):(pubs l).length≤l.length:=by
 unfold pubs
 rw [List.length_map]
 exact List.length_filter_le _ _
theorem encStr_name (s:ByteArray):encStr s.data.toList = .string s:=by
 simp [encStr]
theorem infoStr:(Tryz.prog.info? 9).map (fun i=>(i.zero,i.size,i.bytes))=some (some (.string ⟨#[]⟩),1,16):=by kernel_rfl
theorem one_cell (w:World) (b:Nat) (hb:b=w.heap.size) (x:Value) (T:TypeId):∀ j u,[x][j]? = some u→(w.alloc (.cells #[x] T)).cell? ((⟨b,0,none⟩:Addr).add j)=some u:=by
 subst hb;exact cell_one_new w x T
structure EX (items:List It) (ao:Option Addr) (c:Nat) (fault:Value) (w wr:World) (k:Nat) (v:Value):Prop where
 bl:Below w.heap.size w wr
 pr:wr.heap[w.heap.size]? = some (.cells #[.slice ao items.length c,fault] 130)
 own:wr.ownsRow (w.heap.size+1) 9 1 v (pubs (items.take k)).length ((pubs (items.take k)).map encStr)
theorem EX.lt {items:List It} {ao:Option Addr} {c:Nat} {fault:Value} {w wr:World} {k:Nat} {v:Value} (h:EX items ao c fault w wr k v):w.heap.size < wr.heap.size:=heap_lt h.pr
theorem EX.shape {items:List It} {ao:Option Addr} {c:Nat} {fault:Value} {w wr:World} {k:Nat} {v:Value} (h:EX items ao c fault w wr k v):∃ ao m c,v = .slice ao m c:=by
 obtain ⟨_,⟨h,_⟩ | ⟨g,c,_,h,_⟩⟩:=h.own
 · exact ⟨none,0,0,h⟩
 · exact ⟨_,_,_,h⟩
theorem EX.cell {items:List It} {ao:Option Addr} {c g:Nat} {fault:Value} {w wr:World} {k:Nat} {v:Value} (h:EX items ao c fault w wr k v) {cur:Array Value} (hg:w.heap[g]? = some (.cells cur 186 (0,0))) (hc:cur.toList.take (items.length * 5)=items.flatMap itCells) {i:It} (hi:items[k]? = some i) {j:Nat} {u:Value} (hj:(itCells i)[j]? = some u) :
 wr.cell? ⟨g,k * 5+j,none⟩=some u:=by
 have h1:=below_heap h.bl (heap_lt hg) hg
 have hj5:j < 5:=by
  rcases Nat.lt_or_ge j 5 with h5 | h5
  · exact h5
  · simp [itCells,List.getElem?_eq_none (show [Value.int .i64 i.kind, .int .i64 i.num, .string i.name, .string i.typ,i.ex].length≤j by simpa using h5)] at hj
 have h2:=flat5 items k j i hi hj5
 rw [hj] at h2
 have h3:=take_get hc h2
 rw [heap_cell h1,←Array.getElem?_toList,h3]
theorem EX.skip {items:List It} {ao:Option Addr} {c:Nat} {fault:Value} {w wr:World} {k:Nat} {v:Value} (h:EX items ao c fault w wr k v) (hk:k < items.length) {i:It} (hi:items[k]? = some i) (hn:(i.kind == 2)=false) (o:Obj):EX items ao c fault w (wr.alloc o) (k+1) v:=by
 have e:items.take (k+1)=items.take k ++ [i]:=by rw [List.take_add_one,hi];rfl
 refine ⟨h.bl.alloc (Nat.le_of_lt h.lt) _,old_heap _ h.pr,?_⟩
 rw [e,pubs_snoc,hn]
 simpa using h.own.alloc o
theorem EX.put {items:List It} {ao:Option Addr} {c:Nat} {fault:Value} {w wr w':World} {k:Nat} {v v':Value} (h:EX items ao c fault w wr k v) (hk:k < items.length) {i:It} (hi:items[k]? = some i) (hn:(i.kind == 2)=true)
 (hown:w'.ownsRow (w.heap.size+1) 9 1 v' ((pubs (items.take k)).length+1) ((pubs (items.take k)).map encStr ++ [.string i.name])) (hg:wr.grownBy w' v.ownBlock):EX items ao c fault w w' (k+1) v':=by
 have e:items.take (k+1)=items.take k ++ [i]:=by rw [List.take_add_one,hi];rfl
 have hlt:=fun k hk=>(h.own.lt k hk).1
 refine ⟨h.bl.grown hg (Nat.le_of_lt h.lt) (fun k hk=>by have:=hlt k hk;omega),?_,?_⟩
 · exact (hg.block _ h.lt fun e=>by have:=hlt _ e.symm;omega).trans h.pr
 · rw [e,pubs_snoc,hn]
   simpa [encStr_name] using hown
theorem EX.alloc {items:List It} {ao:Option Addr} {c:Nat} {fault:Value} {w wr:World} {k:Nat} {v:Value} (h:EX items ao c fault w wr k v) (o:Obj):EX items ao c fault w (wr.alloc o) k v :=
 ⟨h.bl.alloc (Nat.le_of_lt h.lt) _,old_heap _ h.pr,h.own.alloc _⟩
def ExpPost (E:List (List UInt8)) (w:World):Ending→World→Prop:=fun e w' =>
 Below w.heap.size w w'∧∃ c,(E = []∧e = .returned (.slice none 0 c))∨(∃ g,e = .returned (.slice (some ⟨g,0,none⟩) E.length c)∧E.length≤c∧(w.heap.size≤g∧∃ cs,w'.heap[g]? = some (.cells cs 9))∧∀ (j:Nat) x,E[j]? = some x→w'.cell? ⟨g,j,none⟩=some (.string ⟨x.toArray⟩))
theorem below_grownSome {B g:Nat} {a w w':World} (h:Below B a w) (hg:w.grownBy w' (some g)) (hB:B≤w.heap.size) (hr:B≤g):Below B a w':=h.grown hg hB (fun k hk=>by cases hk;exact hr)
theorem below_putRow {B g:Nat} {a w:World} (h:Below B a w) (hg:B≤g) (q off:Nat) (d:Array (List UInt8)):Below B a (putRow encStr (Sort.ahead w q) g off d):=by
 refine ⟨h.os,h.tape,h.output,by simpa [Sort.ahead] using h.size,fun k hk => ?_⟩
 rw [←h.block k hk]
 have:g≠k:=by omega
 simp [putRow,mapBlock,Sort.ahead,Array.getElem?_modify,this]
theorem mapBlock_at {w:World} {b:Nat} {cs:Array Value} {T:TypeId} (h:w.heap[b]? = some (.cells cs T)) (F:Array Value→Array Value):∃ cs2,(mapBlock w b F).heap[b]? = some (.cells cs2 T):=by
 have hl:=heap_lt h
 refine ⟨F cs,?_⟩
 simp [mapBlock,Array.getElem?_modify,h,onCells]
theorem exports_ao (items:List It) (hn:items.length≤401) (hex:∀ i∈items,i.ex = .nilIface∨∃ T v,i.ex = .iface T v) (fault:Value) (ao:Option Addr) (c:Nat) (w:World)
 (hao:0 < items.length→∃ g cur,ao=some ⟨g,0,none⟩∧w.heap[g]? = some (.cells cur 186 (0,0))∧cur.toList.take (items.length * 5)=items.flatMap itCells) :
 Calls Tryz.prog 141 #[.agg #[.slice ao items.length c,fault]] w (ExpPost (expL items) w):=by
 obtain ⟨i0,hi0,hz0,hz1,hz2⟩:=info_parts infoStr
 have k0:(w.alloc (.cells #[.slice ao items.length c,fault] 130)).cell? ⟨w.heap.size,0,none⟩=some (.slice ao items.length c):=heap_cell (i:=0) (new_heap w _)
 have HAO:=hid hao
 have HEX:=hid hex
 have HE0:Hid (EX items ao c (fault) w (w.alloc (.cells #[.slice ao items.length c,fault] 130)) 0 (.slice none 0 0)):=hid
  ⟨(Below.refl _ _).alloc (Nat.le_refl _) _,new_heap _ _,World.ownsRow_nil _ _ _ _⟩
 clear hao hex
 go_enter Tryz.func141,Tryz.ntmps141
 go_wp2
 go_loopg [3,9] items.length (fun f v v8 wr => ∃ k,k+f=items.length∧v8 = .int .i64 (k:Nat)∧EX items ao c (fault) w wr k v)
 case atStart=>exact ⟨0,by omega,rfl,HE0.out⟩
 case round =>
  clear HE0 k0
  obtain ⟨k,hk,rfl,hext⟩:=hrel
  obtain ⟨no,nm,nc,rfl⟩:=hext.shape
  have HT:=hid hext
  clear hext
  by_cases hlt:k < items.length
  · obtain ⟨g,cur,rfl,hg,hc⟩:=HAO.out (by omega)
    have hi:=List.getElem?_eq_getElem hlt
    have hexi:=HEX.out items[k] (List.getElem_mem hlt)
    generalize hii:items[k]=i at hi hexi
    obtain ⟨ik,inum,inm,ity,iex⟩:=i
    simp only at hexi
    have z0:=HT.out.cell hg hc hi (j:=0) rfl
    have z1:=HT.out.cell hg hc hi (j:=1) rfl
    have z2:=HT.out.cell hg hc hi (j:=2) rfl
    have z3:=HT.out.cell hg hc hi (j:=3) rfl
    have z4:=HT.out.cell hg hc hi (j:=4) rfl
    rw [Nat.add_zero] at z0
    have hlt2:(k:Int) < (items.length:Int):=by omega
    have hkc:(0:Int)≤(k:Int):=by omega
    have HI:=hid hi
    clear hg hc hi hii
    have hown0:=HT.out.own
    have HLEN:=hid (pubs_len (items.take k))
    rcases hexi with rfl | ⟨T,u,rfl⟩
    all_goals
     cases h2:(ik == 2) with
     | false =>
      have hi2:¬ ((ik:Int)=2):=by
       rw [beq_eq_false_iff_ne] at h2;omega
      have hb2:((ik:Int) == 2)=false:=by rw [beq_eq_false_iff_ne];exact hi2
      have HN2:=hid h2
      clear h2 hown0
      go_wp2
      go_roundg (items.length - (k+1))
      case rel=>exact ⟨k+1,by omega,by go_num,HT.out.skip hlt HI.out HN2.out _⟩
      case measure=>omega
     | true =>
      have hi2:((ik:Int)=2):=by
       rw [beq_iff_eq] at h2;omega
      have hb2:((ik:Int) == 2)=true:=by rw [beq_iff_eq];exact hi2
      have HN2:=hid h2
      have HOB:=HT.out.lt
      clear h2
      go_wp2_with (at_builtin;go_must (refine wpList_append_own _ rfl _ _ 24 rfl (w.heap.size+1) 9 i0 (.string ⟨#[]⟩) 1 16 Tryz.underlying24 hi0 hz0 hz1 hz2 rfl (by decide) _ _ _ rfl ((hown0.alloc _).alloc _) ⟨_,0,none⟩ 1 1 [.string inm] rfl rfl (one_cell _ _ (by simp) _ _) ?c2 ?c3 ?c4 ?c5 ?_))
      case c2=>rfl
      case c3=>have:=HLEN.out;simp only [List.length_take] at this;unfold maxLen;omega
      case c4=>have:=HLEN.out;simp only [List.length_take] at this;omega
      case c5=>first | omega | (simp;omega)
      intro v' w4 hown' hgrow _
      have ht4:=((HT.out.alloc _).alloc _).put hlt HI.out HN2.out hown' hgrow
      obtain ⟨ao',m',c',rfl⟩:=ht4.shape
      have HT4:=hid ht4
      clear ht4 hown' hgrow hown0
      go_wp2
      go_roundg (items.length - (k+1))
      case rel=>exact ⟨k+1,by omega,by go_num,HT4.out⟩
      case measure=>omega
  · have hke:k=items.length:=by omega
    subst hke
    have hown:=HT.out.own
    rw [List.take_length] at hown
    have HBL:=hid HT.out.bl
    have HLT:=HT.out.lt
    have HPL:=hid (pubs_len items)
    obtain ⟨hl,⟨hv,h0⟩ | ⟨g,cap,cur,hv,hB,hg,h1,h2,h3,h4⟩⟩:=hown
    · have e1:=(Value.slice.inj hv).1
      have e2:=(Value.slice.inj hv).2.1
      have e3:=(Value.slice.inj hv).2.2
      subst e1;subst e2;subst e3
      have hE:expL items = []:=by
       have:pubs items = []:=List.eq_nil_of_length_eq_zero h0
       unfold expL;rw [this,List.mergeSort_nil];rfl
      have HEE:=hid hE
      clear hv hl h0 hE HT
      go_wp2_with fail
      refine (sort_nil _).mono ?_
      rintro e w1 ⟨rfl,rfl⟩
      go_wp2_with fail
      refine (Tryz.slices_Compact_string_empty none 0 _).mono ?_
      rintro e w2 ⟨rfl,rfl⟩
      go_wp2
      go_ret
      exact ⟨HBL.out,0, .inl ⟨HEE.out,rfl⟩⟩
    · have e1:=(Value.slice.inj hv).1
      have e2:=(Value.slice.inj hv).2.1
      have e3:=(Value.slice.inj hv).2.2
      subst e1;subst e2;subst e3
      have hH:=holds_of_block (ss:=pubs items) hg (by simpa using h4)
      have HH:=hid hH
      have HG:=hid hg
      have HOS:=hid (fun (n:Nat) (os:Array Obj) (ts:List (List UInt8)) (hts:ts.length=(pubs items).length)=>ownsRow_sorted (w:=wr) (base:=w.heap.size+1) (n:=n) (os:=os) (ts:=ts) hts hB hg h1 h2 h3)
      have hglt:=heap_lt hg
      have hle:(pubs items).length≤nc:=h1
      have HGB:=hid hB
      clear hv hl h2 h3 h4 hH hg hB HT h1
      go_wp2_with fail
      refine (Tryz.slices_Sort_string g 0 nc (pubs items) _ HH.out hglt (by have:=HPL.out;omega)).mono ?_
      rintro e w1 ⟨rfl,n,os,hw1⟩
      have hSl:((pubs items).mergeSort fun x y=>decide (x≤y)).length=(pubs items).length:=List.length_mergeSort _
      have hown1:=HOS.out n os _ hSl
      rw [←hw1] at hown1
      have hgb1:wr.grownBy w1 (some g):=by rw [hw1];exact grownBy_sorted _
      have HB1:=hid (below_grownSome HBL.out hgb1 (Nat.le_of_lt HLT) (by have:=HGB.out;omega))
      obtain ⟨S,hS⟩:∃ S,S=(pubs items).mergeSort fun x y=>decide (x≤y):=⟨_,rfl⟩
      rw [←hS] at hown1 hSl
      have hE:expL items=Lib.compact S:=by rw [hS];rfl
      obtain ⟨_,⟨hv1,_⟩ | ⟨g1,cap1,cur1,hv1,_,hg1,_,_,_,h41⟩⟩:=hown1
      · cases hv1
      · have q1:=(Addr.mk.inj (Option.some.inj (Value.slice.inj hv1).1)).1
        have q2:=(Value.slice.inj hv1).2.2
        subst q1;subst q2
        have HH1:=hid (holds_of_block (ss:=S) hg1 (by rw [hSl];simpa using h41))
        have hglt1:=heap_lt hg1
        have HG1:=hid hg1
        have HEE:=hid hE
        clear hw1 hgb1 hv1 hg1 h41 hE hS HH HG HOS
        rw [←hSl] at hle
        go_wp2_with fail
        rw [←hSl]
        refine (Tryz.slices_Compact_string g 0 nc S _ HH1.out (by have:=HPL.out;omega) hle).mono ?_
        rintro e w2 ⟨rfl,q,hw2⟩
        have hcl:=Lib.compact_length_le S
        have HW2:=hid hw2
        clear hw2
        go_wp2
        go_ret
        rw [HEE.out]
        refine ⟨?_,nc, .inr ⟨g,rfl,by omega,?_,?_⟩⟩
        · rw [HW2.out]
          exact below_putRow HB1.out (by have:=HGB.out;omega) _ _ _
        · refine ⟨by have:=HGB.out;omega,?_⟩
          rw [HW2.out]
          exact mapBlock_at (w:=Sort.ahead w1 q) HG1.out _
        · intro j x hx
          have hj:j < (Lib.compact S).length:=(List.getElem?_eq_some_iff.1 hx).1
          have hxe:=(List.getElem?_eq_some_iff.1 hx).2
          have hsize:(Lib.compact S ++ List.replicate (S.length - (Lib.compact S).length) []).toArray.size=S.toArray.size:=by simp;omega
          have:=cell?_putRow encStr (Sort.ahead w1 q) g 0 S.toArray (Lib.compact S ++ List.replicate (S.length - (Lib.compact S).length) []).toArray HH1.out hsize j (by rw [hsize];simp;omega)
          rw [HW2.out]
          rw [Nat.zero_add] at this
          rw [this,getElem!_pos _ j (by rw [hsize];simp;omega)]
          simp [encStr,List.getElem_append_left hj,hxe]
end Go.Proofs.YtoagooclaphdbaaGreatDoor
namespace Go.Proofs.YtoagooclaphdbaaGreatDoor
open Go.RowKit
theorem pubs_itOf:∀ its:List Itx,pubs (its.map itOf)=pubsX its
 | []=>rfl
 | i :: l=>by
  have ih:=pubs_itOf l
  unfold pubs pubsX at ih ⊢
  rw [List.map_cons,List.filter_cons,List.filter_cons]
  show (if (i.kind == 2)=true then _ else _:List It).map _=_
  cases i.kind == 2
  · simpa using ih
  · simp only [if_true,List.map_cons]
    rw [ih]
    rfl
theorem expL_itOf (its:List Itx):(expL (its.map itOf)).map (fun x=>(⟨x.toArray⟩:ByteArray))=expX its:=by
 unfold expL expX
 rw [pubs_itOf]
theorem toList_take_of {cs:Array Value} {xs:List Value} (h:∀ (j:Nat) x,xs[j]? = some x→cs[j]? = some x):cs.toList.take xs.length=xs:=by
 apply List.ext_getElem?
 intro j
 by_cases hj:j < xs.length
 · rw [List.getElem?_take_of_lt hj,Array.getElem?_toList,h j _ (List.getElem?_eq_getElem hj),List.getElem?_eq_getElem hj]
 · rw [List.getElem?_eq_none (by omega:xs.length≤j),List.getElem?_eq_none]
   rw [List.length_take]
   omega
theorem workExportsC {W0:World} {B bs lb:Nat} {fm:Value} {st:St V} {L:Lay} {w:World} {E:Eng V} (hE:Eng0 W0 E bs fm) (hW:WS W0 B bs lb fm st L w st L [] w) (h00:W0.heap.size≤w.heap.size) {f nm:ByteArray} {nc:Bool} {out:Out (V × List Lk)} {st':St V} (hr:run E nc (getR f fun its _ => .ret (.x (expX its))) [] st=some (out,st')) :
 Calls Tryz.prog 112 #[ptr bs,ptr lb, .agg #[.int .i64 4, .string f, .string nm]] w (WkPost B st L bs lb fm 4 out st' w):=by
 obtain ⟨its,fl,lk',st1,hm,hr⟩:=run_getR hr
 obtain ⟨rfl,rfl⟩:=run_ret hr
 have HB0:=hid (below_newK w (.cells #[.int .i64 4, .string f, .string nm] 150))
 have hA:=new_heap w (.cells #[.int .i64 4, .string f, .string nm] 150)
 have a1:=heap_cell (i:=1) hA
 obtain ⟨z,hz⟩:∃ z,faultV fl = .int .i64 z:=by cases fl <;> exact ⟨_,rfl⟩
 have htr:=treeW hE (hW.below HB0.out) (by simp) h00 hm
 rw [hz] at htr
 have HTR:=hid htr
 clear hE hW hm hr hA htr
 go_enter Tryz.func112,Tryz.ntmps112
 go_wp2_with fail
 refine HTR.out.mono ?_
 rintro e w1 ⟨ao,c,rfl,L',hg,hrow,s,hs,hits⟩
 have hn:=its_len hs hits
 have hex:=exports_ao (its.map itOf) (by simpa using hn) (fun i hi=>by
  obtain ⟨j,_,rfl⟩:=List.mem_map.1 hi
  exact exV_shape j) (.int .i64 z) ao c w1 (by simpa using trow_at hrow)
 rw [List.length_map] at hex
 have HX:=hid hex
 have HS:=hid hg.s
 have HSZ:=hid (And.intro hs hits)
 clear hg hrow hs hn hits hex HTR
 go_wp2_with fail
 refine HX.out.mono ?_
 rintro e w2 ⟨hb,c2,hh⟩
 have hd:∃ ao2,e = .returned (.slice ao2 (expX its).length c2)∧Row L'.own w2 9 (.slice ao2 (expX its).length c2) (expX its).length ((expX its).map .string):=by
  have hlen:(expX its).length=(expL (its.map itOf)).length:=by rw [←expL_itOf,List.length_map]
  rcases hh with ⟨h1,rfl⟩ | ⟨g,rfl,h2,⟨h3,cs,h4⟩,h5⟩
  · rw [h1] at hlen
    have h0:expX its = []:=List.eq_nil_of_length_eq_zero hlen
    rw [h0]
    exact ⟨none,rfl,none,c2,rfl,Nat.zero_le _,fun h=>absurd h (by simp)⟩
  · rw [←hlen] at h2 ⊢
    refine ⟨some ⟨g,0,none⟩,rfl,some ⟨g,0,none⟩,c2,rfl,h2,fun _=>⟨g,cs,rfl,HS.out.e.lt h3,h4,toList_take_of fun j x hx => ?_⟩⟩
    rw [List.getElem?_map] at hx
    obtain ⟨y,hy,rfl⟩:=Option.map_eq_some_iff.1 hx
    rw [←expL_itOf,List.getElem?_map] at hy
    obtain ⟨u,hu,rfl⟩:=Option.map_eq_some_iff.1 hy
    have:=h5 j u hu
    rw [heap_cell h4] at this
    exact this
 obtain ⟨ao2,rfl,hrow⟩:=hd
 have HD:=hid ((HS.out.below hb).done (kind:=4) (v := .x (expX its)) (vs:=[.slice ao2 (expX its).length c2]) ⟨⟨rfl,s,HSZ.out.1,by rw [←HSZ.out.2]⟩,_,rfl,hrow⟩)
 clear hb hh hrow
 obtain ⟨n,hn⟩:∃ n,n=(expX its).length:=⟨_,rfl⟩
 rw [←hn] at HD ⊢
 clear hn
 go_wp2
 go_ret
 exact HD.out
end Go.Proofs.YtoagooclaphdbaaGreatDoor
