/- Joined: NormMembers, Union. -/
import Derived.Test.YtgmpfnfomgadeaaGreatMas
import Derived.Test.YtgmpfnfomgadeaaGreatMax
import Derived.Test.YtgmpfnfomgadeaaGreatMau
import Derived.Test.YtgmpfnfomgadeaaGreatMag
import Derived.Test.YtgmpfnfomgadeaaGreatProg
import Derived.Test.YtgmpfnfomgadeaaGreatMaa
import Derived.RegionTactic
import Derived.BigRegion
import Derived.LoopN
/- norm.members: what stands in place of nodes of a kind, all the way down. -/
set_option linter.unusedSimpArgs false
set_option linter.unusedVariables false
set_option maxHeartbeats 16000000
set_option maxRecDepth 100000
namespace Go.Proofs.YtgmpfnfomgadeaaGreat
open Go.RowKit Go.Maps
def seenOf:Result Value→Bool
  | .ok (.tuple ⟨[_,.bool b]⟩) _=>b
  | _=>false
noncomputable def seenB (w:World) (m:Nat) (x:Int):Bool:=seenOf ((Instr.lookup 124 (.map (some m)) (.int .i64 x) true).run Tryz.prog w)
theorem seenB_is {w:World} {m n:Nat} {s:List Int} {x:Int} (h:SeenAt w m n s) (hx:I64 x):seenB w m x=decide (x∈s):=by
  unfold seenB
  have e:=h.look hx
  rw[e]
  rfl
theorem unseen_is {w:World} {m n N:Nat} {s:List Int} (h:SeenAt w m n s) (hN:N≤1000000):unseen N (seenB w m)=unseen N (fun y=>decide (y∈s)):=by
  unfold unseen
  refine congrArg List.length (List.filter_congr (fun j hj=>?_))
  rw[seenB_is h (by have:=List.mem_range.1 hj;unfold I64;omega)]
section
variable {AA:World→Value→List Nd→(Nat→Prop)→Prop}
theorem nMembers (S:ArenaMid AA) {w:World} {a v:Value} {ns:List Nd} {F:Nat→Prop} (k:Int) (hk:k=4∨k=5) (l:List Int) (h:AA w a ns F) (hv:ListAt w v l) (hl:l.length≤20000) (hI:∀x∈l,isIn ns x) :
    Calls Tryz.prog 73 #[a,.int .i64 k,v] w fun e w'=>∃v' ms,e=.returned v'∧IdRow w' w.heap.size v' ms∧ms.Nodup∧(∀y,y∈ms↔∃x∈l,y∈mem ns k x)∧Below w.heap.size w w':=by
  have hmx:=S.max h
  have HA:=Lib.hid h
  have HF:=Lib.hid (S.fine h)
  have HI:=Lib.hid hI
  have HK:=Lib.hid hk
  have hB1:Below w.heap.size w (w.alloc (.map #[] 0)):=(Below.refl _ _).alloc (Nat.le_refl _) _
  have HM1:Hid (SeenAt (w.alloc (.map #[] 0)) w.heap.size 0 []):=Lib.hid (SeenAt.made w)
  have HC:=Lib.hid (nClone (hv.next hB1) (by omega))
  have HB1:=Lib.hid hB1
  have hmm:=@run_makeMap Tryz.prog
  obtain ⟨i0,hi0,hi1,hi2,hi3⟩:=info_parts info_intR
  clear h hv hI hk hB1
  go_enter Tryz.func73,Tryz.ntmps73
  go_wp2_with fail
  refine HC.out.mono ?_
  rintro e w1 ⟨v1,rfl,hr1,hb1⟩
  have HR1:Hid (IdRow w1 (w.heap.size+1) v1 l):=Lib.hid (by rw[World.size_alloc] at hr1;exact hr1)
  have HB2:=Lib.hid (HB1.out.trans (hb1.mono (by simp)))
  have HM2:Hid (SeenAt w1 w.heap.size 0 []):=Lib.hid (HM1.out.kept (hb1.block _ (by simp)))
  have HS1:Hid (w.heap.size+1≤w1.heap.size):=Lib.hid (by have:=hb1.size;simpa using this)
  clear hr1 hb1 hmm
  go_wp2_with fail
  go_loopw [7,9] (fun v7 v9 wr=>∃(s T fd:List Int),Hid (MemInv ns k l s T fd)∧Hid (IdRow wr (w.heap.size+1) v7 fd)∧Hid (IdRow wr (w.heap.size+1) v9 T)∧Hid (v7.ownBlock=none∨v7.ownBlock≠v9.ownBlock)∧Hid (SeenAt wr w.heap.size s.length s)∧Hid (Below w.heap.size w wr)∧Hid (w.heap.size+1≤wr.heap.size∧T.length≤20000+s.length∧fd.length≤s.length∧s.length≤ns.length)) (fun v7 v9 wr=>2*unseen ns.length (seenB wr w.heap.size)+lenV v9)
  case atStart=>exact ⟨[],l,[],Lib.hid (MemInv.start HI.out),Lib.hid (IdRow.nil _ _),HR1,Lib.hid (Or.inl rfl),HM2,HB2,Lib.hid ⟨HS1.out,by simpa using hl,Nat.le_refl _,Nat.zero_le _⟩⟩
  case round =>
    clear HR1 HB2 HM2 HS1 HC HM1 HB1
    obtain ⟨s,T,fd,HV,HR7,HR9,HAp,HS,HB,HZ⟩:=hrel
    rcases List.eq_nil_or_concat T with rfl | ⟨T',x,rfl⟩
    · obtain ⟨A9,c9,rfl⟩:=HR9.out.len
      have hb:(decide ((0:Int)<(([]:List Int).length:Int)))=false:=rfl
      go_wp2_with fail
      go_ret
      have hd:=MemInv.done HF.out HK.out HV.out
      exact ⟨_,fd,rfl,HR7.out.base (Nat.le_succ _),hd.1,hd.2,HB.out⟩
    · rw[List.concat_eq_append] at HV HR9 HZ
      obtain ⟨p,hp⟩:∃p,p=T'.length:=⟨_,rfl⟩
      have hlen:(T'++[x]).length=p+1:=by rw[List.length_append,hp];rfl
      obtain ⟨g9,cap9,e9,hc9⟩:=HR9.out.form (by rw[hlen];omega)
      rw[hlen] at e9
      have hx9:=hc9 p (by rw[hlen];omega)
      rw[show (T'++[x])[p]'(by rw[hlen];omega)=x by simp[hp]] at hx9
      subst e9
      have HI9:=Lib.hid (HR9.out.init hp.symm)
      have hxi:=HV.out.tin x (by simp)
      have HXi:=Lib.hid hxi
      have hxI:I64 x:=by unfold isIn at hxi;unfold I64;omega
      have hlk:=HS.out.look hxI
      have HP:=Lib.hid hp
      have HpB:Hid (p+1≤20000+s.length∧s.length≤20000):=Lib.hid (by have:=HZ.out;rw[hlen] at this;omega)
      have hpz:(0:Int)<(p:Int)+1:=by omega
      have hpn:(p:Int)<(p:Int)+1:=by omega
      have hpb:p+1≤1000000:=by have:=HpB.out;omega
      have HMu:Hid (∀wq sq,SeenAt wq w.heap.size sq.length sq→unseen ns.length (seenB wq w.heap.size)=unseen ns.length (fun y=>decide (y∈sq))):=Lib.hid (fun wq sq hq=>unseen_is hq (by omega))
      have hcp:(p:Int)≤(cap9:Int):=by have:=HI9.out.cap;omega
      clear hc9 hxi hp hlen
      by_cases hs:x∈s
      · rw[decide_eq_true hs] at hlk
        have HXs:=Lib.hid hs
        clear hs
        have hal:Below wr.heap.size wr (wr.alloc (.cells #[] 100)):=(Below.refl _ _).alloc (Nat.le_refl _) _
        have HS2:=Lib.hid (HS.out.kept (hal.block _ HS.out.lt))
        have HAl:=Lib.hid hal
        clear hal
        go_wp2_with fail
        refine ⟨⟨s,T',fd,Lib.hid (HV.out.skip HXs.out),Lib.hid (HR7.out.next HAl.out),Lib.hid (HI9.out.next HAl.out),HAp,HS2,Lib.hid (HB.out.trans (HAl.out.mono HB.out.size)),Lib.hid ⟨by have:=HAl.out.size;have:=HZ.out;omega,by have:=HpB.out;have:=HP.out;omega,HZ.out.2.2⟩⟩,?_⟩
        rw[HMu.out _ _ HS2.out,HMu.out _ _ HS.out]
        show _+p<_+(p+1)
        omega
      · rw[decide_eq_false hs] at hlk
        have HXs:=Lib.hid hs
        clear hs
        have hal:Below wr.heap.size wr (wr.alloc (.cells #[] 100)):=(Below.refl _ _).alloc (Nat.le_refl _) _
        obtain ⟨w3,hup,hs3,hg3⟩:=(HS.out.kept (hal.block _ HS.out.lt)).store hxI (by have:=HpB.out;omega)
        have HS3:=Lib.hid hs3
        have HG3:Hid (wr.grownBy w3 (some w.heap.size)):=Lib.hid ⟨hg3.os.trans hal.os,hg3.tape.trans hal.tape,hg3.output.trans hal.output,Nat.le_trans hal.size hg3.size,fun b hb hn=>(hg3.block b (Nat.lt_of_lt_of_le hb hal.size) hn).trans (hal.block b hb)⟩
        have hB3:Below w.heap.size w w3:=⟨HG3.out.os.trans HB.out.os,HG3.out.tape.trans HB.out.tape,HG3.out.output.trans HB.out.output,Nat.le_trans HB.out.size HG3.out.size,fun b hb=>(HG3.out.block b (Nat.lt_of_lt_of_le hb HB.out.size) (fun e=>by injection e with e;omega)).trans (HB.out.block b hb)⟩
        have HB3:=Lib.hid hB3
        have HR73:Hid (IdRow w3 (w.heap.size+1) u7 fd):=Lib.hid (HR7.out.grown HG3.out (fun c e q=>by injection e with e;have:=(HR7.out.lt q).1;omega))
        have HI93:Hid (IdRow w3 (w.heap.size+1) (.slice (some ⟨g9,0,none⟩) p cap9) T'):=Lib.hid (HI9.out.grown HG3.out (fun c e q=>by injection e with e;have:=(HI9.out.lt q).1;omega))
        have HN:=Lib.hid (S.nodeIn x (S.next HA.out hB3) hxI)
        have hdx:decide (0≤x∧x<(ns.length:Int))=true:=decide_eq_true HXi.out
        clear hal hs3 hg3 hB3
        go_wp2_with fail
        refine HN.out.mono ?_
        rintro e w4 ⟨u,rfl,hu,hb4⟩
        have hu:=hu HXi.out
        rw[hdx]
        have HKx:Hid (kd ns x=u.kind∧ka ns x=u.a∧kb ns x=u.b):=Lib.hid ⟨by unfold kd;rw[←hu],by unfold ka;rw[←hu],by unfold kb;rw[←hu]⟩
        have HXb:=Lib.hid (boxN_at w4 u)
        have hb5:=hb4.trans ((boxN_next w4 u).mono hb4.size)
        have HB5:=Lib.hid (HB3.out.trans (hb5.mono HB3.out.size))
        have HZ5:Hid (w.heap.size+1≤(boxN w4 u).heap.size):=Lib.hid (by have:=HZ.out;have:=HG3.out.size;have:=hb5.size;omega)
        have HR75:=Lib.hid (HR73.out.next hb5)
        have HI95:=Lib.hid (HI93.out.next hb5)
        have HS5:=Lib.hid (HS3.out.kept (hb5.block _ HS3.out.lt))
        obtain ⟨c0,c1,c2,c3,c4,c5,c6,c7⟩:=Nd.cells HXb.out
        clear hu hb4 hb5 hdx hlk hup
        obtain ⟨w5,hw5⟩:∃w5,w5=boxN w4 u:=⟨_,rfl⟩
        have HW5:=Lib.hid hw5
        have hsz:s.length+1=(x::s).length:=rfl
        have hPl:=HpB.out
        have hZ3:=HZ.out.2.2.1
        by_cases hk:u.kind=k
        · have HKk:Hid (kd ns x=k):=Lib.hid (HKx.out.1.trans hk)
          have hkb:(u.kind==k)=true:=by rw[hk];simp
          obtain ⟨w6,hw6⟩:∃w6,w6=(boxN w4 u).alloc (.cells #[.int .i64 u.a,.int .i64 u.b] 3):=⟨_,rfl⟩
          have hb6:Below (boxN w4 u).heap.size (boxN w4 u) w6:=by rw[hw6];exact (Below.refl _ _).alloc (Nat.le_refl _) _
          have HB6:=Lib.hid (HB5.out.trans (hb6.mono HB5.out.size))
          have HZ6:Hid (w.heap.size+1≤w6.heap.size):=Lib.hid (Nat.le_trans HZ5.out hb6.size)
          have HR76:=Lib.hid (HR75.out.next hb6)
          have HRw:=Lib.hid (HI95.out.next hb6)
          have HS6:=Lib.hid (HS5.out.kept (hb6.block _ HS5.out.lt))
          have HW6:=Lib.hid hw6
          rw[hw6] at HRw HZ6
          have hpT:T'.length≤1000000:=by rw[←HP.out];omega
          clear hk hw5 hw6 hb6
          go_wp2_with (first
            | (with_reducible show wpList _ _ _ (⟨none,.store _ _ _,_,_,_,_⟩::_) _ _
               refine wpList_store_row rfl 61 _ _ rfl w4.heap.size u.cs.toArray rfl rfl 61 Nd.zero.cs.toArray (At.new _ _ _) (by kernel_rfl) rfl (Nd.one u) ?_
               first | change wpList _ _ _ _ _ (boxN w4 u) | change Exit.then _ _ _ _ (boxN w4 u))
            | (at_builtin;go_loud (refine wpList_append_own_at _ rfl _ _ _ rfl (w.heap.size+1) 3 i0 _ 1 8 Tryz.underlying73 hi0 hi1 hi2 hi3 rfl (by omega) (.slice (some ⟨g9,0,none⟩) p cap9) _ _ rfl HRw.out ⟨_,0,none⟩ 2 2 [.int .i64 u.a,.int .i64 u.b] rfl rfl ?c1 ?c2 ?c3 ?c4 ?c5 ?_);go_loud (case c1=>exact World.news_of_block (At.new _ _ _));go_loud (case c2=>simp[Value.oneCell']);go_loud (case c3=>unfold maxLen;omega);go_loud (case c4=>omega);go_loud (case c5=>exact HZ6.out);(intro v' w7 hown7 hg7 _ hat7))
            | fail)
          rw[←HW6.out] at hg7 hat7
          have hr9:IdRow w7 (w.heap.size+1) v' (T'++[u.a,u.b]):=by
            unfold IdRow idL
            have:=hown7
            unfold idL at this
            rw[List.length_append,List.map_append]
            exact this
          have hap:u7.ownBlock=none∨u7.ownBlock≠v'.ownBlock:=by
            rcases HAp.out with q | q
            · exact Or.inl q
            · rcases hat7 with z | z
              · rw[z];exact Or.inr q
              · right
                rw[z]
                intro q2
                have:=(HR76.out.lt q2).2
                omega
          have hr7:IdRow w7 (w.heap.size+1) u7 fd:=HR76.out.grown hg7 (fun c e q=>by
            rcases HAp.out with z | z
            · rw[z] at q;cases q
            · exact z (by rw[q];exact e.symm))
          have hs7:SeenAt w7 w.heap.size (x::s).length (x::s):=HS6.out.kept (hg7.block _ HS6.out.lt (fun e=>by have:=(HI95.out.lt (c:=w.heap.size) e.symm).1;omega))
          have hb7:Below w.heap.size w w7:=⟨hg7.os.trans HB6.out.os,hg7.tape.trans HB6.out.tape,hg7.output.trans HB6.out.output,Nat.le_trans HB6.out.size hg7.size,fun b hb=>(hg7.block b (Nat.lt_of_lt_of_le hb HB6.out.size) (fun e=>by have:=(HI95.out.lt (c:=b) e.symm).1;omega)).trans (HB6.out.block b hb)⟩
          have hv7:=HV.out.nodeStep HF.out HK.out HXs.out HKk.out
          rw[HKx.out.2.1,HKx.out.2.2] at hv7
          have hsl:(x::s).length≤ns.length:=nodup_in hv7.nd hv7.sin
          have hz7:w.heap.size+1≤w7.heap.size:=Nat.le_trans (by have:=HZ6.out;rw[←HW6.out] at this;exact this) hg7.size
          obtain ⟨A9',c9',e9'⟩:=hr9.len
          refine ⟨⟨x::s,T'++[u.a,u.b],fd,Lib.hid hv7,Lib.hid hr7,Lib.hid hr9,Lib.hid hap,Lib.hid hs7,Lib.hid hb7,Lib.hid ⟨hz7,by rw[List.length_append];have:=HpB.out;have:=HP.out;simp;omega,by have:=HZ.out;simp;omega,hsl⟩⟩,?_⟩
          rw[HMu.out _ _ hs7,HMu.out _ _ HS.out]
          have hun:=unseen_less (n:=ns.length) HXi.out.1 HXi.out.2 HXs.out
          have hl9:lenV v'=p+2:=by rw[e9'];show (T'++[u.a,u.b]).length=_;rw[List.length_append,←HP.out];rfl
          show _+lenV v'<_+(p+1)
          omega
        · have HKk:Hid (kd ns x≠k):=Lib.hid (fun q=>hk (HKx.out.1.symm.trans q))
          have hkb:=(int_ne hk).1
          obtain ⟨w6,hw6⟩:∃w6,w6=(boxN w4 u).alloc (.cells #[.int .i64 x] 3):=⟨_,rfl⟩
          have hb6:Below (boxN w4 u).heap.size (boxN w4 u) w6:=by rw[hw6];exact (Below.refl _ _).alloc (Nat.le_refl _) _
          have HB6:=Lib.hid (HB5.out.trans (hb6.mono HB5.out.size))
          have HZ6:Hid (w.heap.size+1≤w6.heap.size):=Lib.hid (Nat.le_trans HZ5.out hb6.size)
          have HI96:=Lib.hid (HI95.out.next hb6)
          have HRw:=Lib.hid (HR75.out.next hb6)
          have HR76:=HRw
          have HS6:=Lib.hid (HS5.out.kept (hb6.block _ HS5.out.lt))
          have HW6:=Lib.hid hw6
          rw[hw6] at HRw HZ6
          have hfl:fd.length≤20000:=by have:=HpB.out;omega
          clear hk hw5 hw6 hb6
          go_wp2_with (first
            | (with_reducible show wpList _ _ _ (⟨none,.store _ _ _,_,_,_,_⟩::_) _ _
               refine wpList_store_row rfl 61 _ _ rfl w4.heap.size u.cs.toArray rfl rfl 61 Nd.zero.cs.toArray (At.new _ _ _) (by kernel_rfl) rfl (Nd.one u) ?_
               first | change wpList _ _ _ _ _ (boxN w4 u) | change Exit.then _ _ _ _ (boxN w4 u))
            | (at_builtin
               refine wpList_append_own_at _ rfl _ _ _ rfl (w.heap.size+1) 3 i0 _ 1 8 Tryz.underlying73 hi0 hi1 hi2 hi3 rfl (by omega) u7 _ _ rfl HRw.out ⟨_,0,none⟩ 1 1 [.int .i64 x] rfl rfl (cell_one_new _ _ _) ?c2 ?c3 ?c4 ?c5 ?_
               case c2=>simp[Value.oneCell']
               case c3=>unfold maxLen;omega
               case c4=>omega
               case c5=>exact HZ6.out
               intro v' w7 hown7 hg7 _ hat7)
            | fail)
          rw[←HW6.out] at hg7 hat7
          have hr7:IdRow w7 (w.heap.size+1) v' (fd++[x]):=by
            unfold IdRow idL
            have:=hown7
            unfold idL at this
            simpa using this
          have hap:v'.ownBlock=none∨v'.ownBlock≠(Value.slice (some ⟨g9,0,none⟩) p cap9).ownBlock:=by
            rcases hat7 with z | z
            · rw[z];exact HAp.out
            · right
              rw[z]
              intro q2
              have:=(HI96.out.lt q2.symm).2
              omega
          have hr9:IdRow w7 (w.heap.size+1) (.slice (some ⟨g9,0,none⟩) p cap9) T':=HI96.out.grown hg7 (fun c e q=>by
            rcases HAp.out with z | z
            · rw[z] at e;cases e
            · exact z (by rw[e];exact q.symm))
          have hs7:SeenAt w7 w.heap.size (x::s).length (x::s):=HS6.out.kept (hg7.block _ HS6.out.lt (fun e=>by have:=(HR76.out.lt (c:=w.heap.size) e.symm).1;omega))
          have hb7:Below w.heap.size w w7:=⟨hg7.os.trans HB6.out.os,hg7.tape.trans HB6.out.tape,hg7.output.trans HB6.out.output,Nat.le_trans HB6.out.size hg7.size,fun b hb=>(hg7.block b (Nat.lt_of_lt_of_le hb HB6.out.size) (fun e=>by have:=(HR76.out.lt (c:=b) e.symm).1;omega)).trans (HB6.out.block b hb)⟩
          have hv7:=HV.out.leafStep HXs.out HKk.out
          have hsl:(x::s).length≤ns.length:=nodup_in hv7.nd hv7.sin
          have hz7:w.heap.size+1≤w7.heap.size:=Nat.le_trans (by have:=HZ6.out;rw[←HW6.out] at this;exact this) hg7.size
          refine ⟨⟨x::s,T',fd++[x],Lib.hid hv7,Lib.hid hr7,Lib.hid hr9,Lib.hid hap,Lib.hid hs7,Lib.hid hb7,Lib.hid ⟨hz7,by have:=HpB.out;have:=HP.out;simp;omega,by have:=HZ.out;simp;omega,hsl⟩⟩,?_⟩
          rw[HMu.out _ _ hs7,HMu.out _ _ HS.out]
          have hun:=unseen_less (n:=ns.length) HXi.out.1 HXi.out.2 HXs.out
          show _+p<_+(p+1)
          omega
end
end Go.Proofs.YtgmpfnfomgadeaaGreat

/- What set.Union and Not answer, of any sets. -/
set_option maxHeartbeats 1000000
namespace Go.Proofs.YtgmpfnfomgadeaaGreat
open Go.RowKit
theorem setUnion (s t:St) (hs:s.Ok) (ht:t.Ok) (w:World) :
    Calls Tryz.prog 75 #[.agg #[.int .u64 s.w0,.int .u64 s.w1,.int .u64 s.w2,.int .u64 s.w3],.agg #[.int .u64 t.w0,.int .u64 t.w1,.int .u64 t.w2,.int .u64 t.w3]] w fun e w' =>
      e=.returned (.agg #[.int .u64 (s.or t).w0,.int .u64 (s.or t).w1,.int .u64 (s.or t).w2,.int .u64 (s.or t).w3])∧Below w.heap.size w w':=by
  have b0:=bits_or s.w0 t.w0 hs.o0 ht.o0
  have b1:=bits_or s.w1 t.w1 hs.o1 ht.o1
  have b2:=bits_or s.w2 t.w2 hs.o2 ht.o2
  have b3:=bits_or s.w3 t.w3 hs.o3 ht.o3
  go_enter Tryz.func75,Tryz.ntmps75
  go_wp2
  refine wp_loop_rounds 5 ?_
  iterate 4
    rw[rounds_succ]
    go_wp2
    go_region
    go_wp2
  rw[rounds_succ]
  go_wp2
  refine bodyPost_ret (v:=.agg #[.int .u64 (s.or t).w0,.int .u64 (s.or t).w1,.int .u64 (s.or t).w2,.int .u64 (s.or t).w3]) (by simp[results,Tryz.results75,go_sem,St.or]) rfl ⟨rfl,?_⟩
  repeat (first | exact Below.refl _ _ | refine Below.drew ?_ | refine Below.alloc ?_ (by simp;try omega) _)
theorem setNot (s:St) (hs:s.Ok) (w:World) :
    Calls Tryz.prog 77 #[.agg #[.int .u64 s.w0,.int .u64 s.w1,.int .u64 s.w2,.int .u64 s.w3]] w fun e w' =>
      e=.returned (.agg #[.int .u64 s.not.w0,.int .u64 s.not.w1,.int .u64 s.not.w2,.int .u64 s.not.w3])∧Below w.heap.size w w':=by
  have b0:=bits_not s.w0 hs.o0
  have b1:=bits_not s.w1 hs.o1
  have b2:=bits_not s.w2 hs.o2
  have b3:=bits_not s.w3 hs.o3
  go_enter Tryz.func77,Tryz.ntmps77
  go_wp2
  refine wp_loop_rounds 5 ?_
  iterate 4
    rw[rounds_succ]
    go_wp2
  rw[rounds_succ]
  go_wp2
  refine bodyPost_ret (v:=.agg #[.int .u64 s.not.w0,.int .u64 s.not.w1,.int .u64 s.not.w2,.int .u64 s.not.w3]) (by simp[results,Tryz.results77,go_sem,St.not]) rfl ⟨rfl,?_⟩
  repeat (first | exact Below.refl _ _ | refine Below.drew ?_ | refine Below.alloc ?_ (by simp;try omega) _)
end Go.Proofs.YtgmpfnfomgadeaaGreat
