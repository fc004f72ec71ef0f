/-
  The statements' seat of settings: addresses, names; what its tenants and settings are, in plain numbers.
  Settings as text: the program's reader: an address, a number, a key, a name, a filter.
  A record read (txn.read): the version and the settings that its bytes are.
  Which settings may be: a tenant's error.
  Settings copied (txn.copied): lists of the call's own.
  Names, and whether a change can be staged (isName, fits).
  Settings as text: the program's reader: the first line.
  Which settings may be: settings in a box; the gateway's rules.
-/
import Derived.Test.YtdigofgjhaakmaaGreatDoorV27
import Derived.Test.YtdigofgjhaakmaaGreatDoorV13
import Derived.Test.YtdigofgjhaakmaaGreatDoorV25
import Derived.Test.YtdigofgjhaakmaaGreatDoorV21
import Derived.Test.YtdigofgjhaakmaaGreatDoorV26
set_option linter.unusedVariables false
set_option linter.unusedSimpArgs false
set_option maxRecDepth 20000
set_option maxHeartbeats 40000000
namespace Go.Proofs.YtdigofgjhaakmaaGreatDoor
open Go.RowKit
open La
open Ad
open Sm (IsBytes)
namespace La
def adr (a b c d:Int):Int:=a * 16777216+b * 65536+c * 256+d
theorem adr_range {a b c d:Int} (ha:0≤a∧a≤255) (hb:0≤b∧b≤255) (hc:0≤c∧c≤255) (hd:0≤d∧d≤255):R32 (adr a b c d):=by unfold R32 adr;omega
def mkS (i:Nat) (p2 st tw:Bool) (lo hi fi se qu ra bu:Int):Ten :=
 ⟨⟨#[UInt8.ofNat (97+i)]⟩,100+(i:Int),[(i:Int)+1,0,0,0,0,0,0,0],adr 10 9 0 ((i:Int)+1),[2,9,(i:Int),0,0,0],[2,7,(i:Int),0,0,0],
  if p2 then [adr 5 5 i 1,adr 5 5 i 2] else [adr 5 5 i 1],lo,hi,fi,if st then [(adr 10 0 0 9,adr 5 6 i 9)] else [],if tw then [(adr 192 168 0 5,adr 8 8 8 8),(adr 192 168 0 6,adr 5 5 i 1)] else [],se,qu,ra,bu⟩
structure SRg (lo hi fi se qu ra bu:Int):Prop where
 lo:0≤lo∧lo≤9999
 hi:0≤hi∧hi≤9999
 fi:0≤fi∧fi≤2
 se:0≤se∧se≤99
 qu:0≤qu∧qu≤99
 ra:0≤ra∧ra≤99
 bu:0≤bu∧bu≤99
def SeatT (i:Nat) (t:Ten):Prop:=∃ p2 st tw lo hi fi se qu ra bu,t=mkS i p2 st tw lo hi fi se qu ra bu∧SRg lo hi fi se qu ra bu
def SeatC (n:Nat) (c:Cgf):Prop:=∃ (d:Int) (ts:List Ten),0≤d∧d≤7∧c=⟨adr 10 9 0 200,[2,1,0,0,0,0],[2,2,0,0,0,0],[2,3,0,0,0,0],[200,0,0,0,0,0,0,0],d,ts⟩∧ts.length=n∧n≤4∧∀ i t,ts[i]? = some t→SeatT i t
theorem dec_le {n:Int} (k:Nat) (h:n.toNat < 10 ^ (k+1)):(dec n).length≤k+1:=by
 have:∀ k n,n < 10 ^ (k+1)→(Lib.decDigits n).length≤k+1:=by
  intro k
  induction k with
  | zero=>intro n h;rw [dec_small (by omega)];simp
  | succ k ih =>
   intro n h
   by_cases h10:n < 10
   ·rw [dec_small h10];simp
   ·rw [dec_big h10,List.length_append]
    have:=ih (n / 10) (by rw [Nat.pow_succ] at h;omega)
    simp only [List.length_cons,List.length_nil];omega
 exact this k _ h
theorem ipx_le {n:Int} (h:R32 n):(ipx n).length≤15:=by
 unfold ipx ipt
 have d:∀ m:Nat,m < 1000→(Lib.decDigits m).length≤3:=fun m hm=>by
  have:=dec_le (n:=(m:Int)) 2 (by simpa using hm)
  simpa [dec] using this
 have h1:=d (n.toNat / 16777216) (by have:=h.2;omega)
 have h2:=d (n.toNat / 65536 % 256) (by omega)
 have h3:=d (n.toNat / 256 % 256) (by omega)
 have h4:=d (n.toNat % 256) (by omega)
 simp only [Lib.join_cons,Lib.joinTail,List.length_append,List.length_cons,List.length_nil]
 simp [Lib.joinTail]
 omega
theorem mact_six {l:List Int} (h:l.length=6):(mact l).length=17:=by
 obtain ⟨a,b,c,d,e,f,rfl⟩:=six h
 simp [mact,Lib.join_cons,Lib.joinTail,hex2]
theorem spc_le (b:List UInt8):∀ xs:List (List UInt8),(spc (b::xs)).length=b.length+(xs.map (fun x=>x.length+1)).sum+1:=by
 intro xs
 have:∀ (xs:List (List UInt8)) (b:List UInt8),(Lib.join (b::xs) [32]).length=b.length+(xs.map (fun x=>x.length+1)).sum:=by
  intro xs
  induction xs with
  | nil=>intro b;simp [Lib.join_one]
  | cons x xs ih =>
   intro b
   have e:Lib.join (b::x::xs) [32]=b++(32::Lib.join (x::xs) [32]):=by
    rw [Lib.join_cons,Lib.join_cons];simp [Lib.joinTail]
   rw [e,List.length_append,List.length_cons,ih x,List.map_cons,List.sum_cons]
   omega
 unfold spc
 rw [List.length_append,this xs b]
 rfl
theorem SeatT.len {i:Nat} {t:Ten} (h:SeatT i t) (hi:i < 4):((txtT t).flatMap spc).length≤340:=by
 obtain ⟨p2,st,tw,lo,hi2,fi,se,qu,ra,bu,rfl,r⟩:=h
 have A:∀ a b c d:Int,0≤a∧a≤255→0≤b∧b≤255→0≤c∧c≤255→0≤d∧d≤255→(ipx (adr a b c d)).length≤15:=fun a b c d h1 h2 h3 h4=>ipx_le (adr_range h1 h2 h3 h4)
 have a1:=A 10 9 0 ((i:Int)+1) (by omega) (by omega) (by omega) (by omega)
 have a2:=A 5 5 i 1 (by omega) (by omega) (by omega) (by omega)
 have a3:=A 5 5 i 2 (by omega) (by omega) (by omega) (by omega)
 have a4:=A 10 0 0 9 (by omega) (by omega) (by omega) (by omega)
 have a5:=A 5 6 i 9 (by omega) (by omega) (by omega) (by omega)
 have a6:=A 192 168 0 5 (by omega) (by omega) (by omega) (by omega)
 have a7:=A 8 8 8 8 (by omega) (by omega) (by omega) (by omega)
 have a8:=A 192 168 0 6 (by omega) (by omega) (by omega) (by omega)
 have d1:=dec_le (n:=100+(i:Int)) 2 (by omega)
 have d2:=dec_le (n:=lo) 3 (by have:=r.lo;omega)
 have d3:=dec_le (n:=hi2) 3 (by have:=r.hi;omega)
 have d4:=dec_le (n:=se) 1 (by have:=r.se;omega)
 have d5:=dec_le (n:=qu) 1 (by have:=r.qu;omega)
 have d6:=dec_le (n:=ra) 1 (by have:=r.ra;omega)
 have d7:=dec_le (n:=bu) 1 (by have:=r.bu;omega)
 have m1:(mact [2,9,(i:Int),0,0,0]).length=17:=mact_six rfl
 have m2:(mact [2,7,(i:Int),0,0,0]).length=17:=mact_six rfl
 have k1:(keyt [(i:Int)+1,0,0,0,0,0,0,0]).length=16:=by rw [keyt_len];rfl
 have f1:(fw fi).length≤7:=by
  have:=r.fi
  have:fi=0∨fi=1∨fi=2:=by omega
  rcases this with rfl | rfl | rfl <;> decide
 have hp:((txtP (mkS i p2 st tw lo hi2 fi se qu ra bu)).flatMap spc).length≤37:=by
  cases p2
  ·show ((if [adr 5 5 i 1]=[] then [] else [wPool::[adr 5 5 i 1].map ipx]).flatMap spc).length≤37
   rw [if_neg (by simp)]
   simp only [List.flatMap_cons,List.flatMap_nil,List.append_nil,spc_le,List.map_cons,List.map_nil,List.sum_cons,List.sum_nil]
   have:wPool.length=4:=rfl
   omega
  ·show ((if [adr 5 5 i 1,adr 5 5 i 2]=[] then [] else [wPool::[adr 5 5 i 1,adr 5 5 i 2].map ipx]).flatMap spc).length≤37
   rw [if_neg (by simp)]
   simp only [List.flatMap_cons,List.flatMap_nil,List.append_nil,spc_le,List.map_cons,List.map_nil,List.sum_cons,List.sum_nil]
   have:wPool.length=4:=rfl
   omega
 have hs:((txtS wStatic (mkS i p2 st tw lo hi2 fi se qu ra bu).stat).flatMap spc).length≤39:=by
  cases st
  ·show ((txtS wStatic []).flatMap spc).length≤39
   decide
  ·show ((txtS wStatic [(adr 10 0 0 9,adr 5 6 i 9)]).flatMap spc).length≤39
   simp only [txtS,List.flatMap_cons,List.flatMap_nil,List.append_nil,spc_le,List.map_cons,List.map_nil,List.sum_cons,List.sum_nil]
   have:wStatic.length=6:=rfl
   omega
 have ht:((txtS wTwice (mkS i p2 st tw lo hi2 fi se qu ra bu).twi).flatMap spc).length≤76:=by
  cases tw
  ·show ((txtS wTwice []).flatMap spc).length≤76
   decide
  ·show ((txtS wTwice [(adr 192 168 0 5,adr 8 8 8 8),(adr 192 168 0 6,adr 5 5 i 1)]).flatMap spc).length≤76
   simp only [txtS,List.flatMap_cons,List.flatMap_nil,List.append_nil,spc_le,List.map_cons,List.map_nil,List.sum_cons,List.sum_nil,List.length_append]
   have:wTwice.length=5:=rfl
   omega
 unfold txtT txtR
 rw [List.flatMap_cons,List.flatMap_append,List.flatMap_cons,List.flatMap_cons,List.flatMap_append,List.flatMap_append]
 simp only [List.length_append,List.flatMap_cons,List.flatMap_nil,List.append_nil,List.length_nil]
 have q1:(spc (txtH (mkS i p2 st tw lo hi2 fi se qu ra bu))).length≤108:=by
  show (spc [wTenant,[UInt8.ofNat (97+i)],wVni,dec (100+(i:Int)),wKey,keyt [(i:Int)+1,0,0,0,0,0,0,0],wVtep,ipx (adr 10 9 0 ((i:Int)+1)),mact [2,9,(i:Int),0,0,0],wHost,mact [2,7,(i:Int),0,0,0]]).length≤108
  rw [spc_le]
  simp only [List.map_cons,List.map_nil,List.sum_cons,List.sum_nil,List.length_cons,List.length_nil,wTenant,wVni,wKey,wVtep,wHost]
  omega
 have q2:(spc [wPorts,dec lo,dec hi2]).length≤16:=by
  rw [spc_le];simp only [List.map_cons,List.map_nil,List.sum_cons,List.sum_nil,wPorts,List.length_cons,List.length_nil];omega
 have q3:(spc [wFilter,fw fi]).length≤15:=by
  rw [spc_le];simp only [List.map_cons,List.map_nil,List.sum_cons,List.sum_nil,wFilter,List.length_cons,List.length_nil];omega
 have q4:(spc [wQuota,dec se,dec qu]).length≤12:=by
  rw [spc_le];simp only [List.map_cons,List.map_nil,List.sum_cons,List.sum_nil,wQuota,List.length_cons,List.length_nil];omega
 have q5:(spc [wRate,dec ra,dec bu]).length≤11:=by
  rw [spc_le];simp only [List.map_cons,List.map_nil,List.sum_cons,List.sum_nil,wRate,List.length_cons,List.length_nil];omega
 have e1:(mkS i p2 st tw lo hi2 fi se qu ra bu).lo=lo:=rfl
 have e2:(mkS i p2 st tw lo hi2 fi se qu ra bu).hi=hi2:=rfl
 have e3:(mkS i p2 st tw lo hi2 fi se qu ra bu).filter=fi:=rfl
 have e4:(mkS i p2 st tw lo hi2 fi se qu ra bu).sess=se:=rfl
 have e5:(mkS i p2 st tw lo hi2 fi se qu ra bu).queue=qu:=rfl
 have e6:(mkS i p2 st tw lo hi2 fi se qu ra bu).rate=ra:=rfl
 have e7:(mkS i p2 st tw lo hi2 fi se qu ra bu).burst=bu:=rfl
 rw [e1,e2,e3,e4,e5,e6,e7]
 omega
theorem SeatC.len {n:Nat} {c:Cgf} (h:SeatC n c):(txt c).length≤110+340 * n:=by
 obtain ⟨d,ts,h0,h1,rfl,hl,hn,ht⟩:=h
 unfold txt lnsOf
 rw [List.flatMap_cons,List.length_append]
 have q:(spc (txtG ⟨adr 10 9 0 200,[2,1,0,0,0,0],[2,2,0,0,0,0],[2,3,0,0,0,0],[200,0,0,0,0,0,0,0],d,ts⟩)).length≤110:=by
  show (spc [wGateway,ipx (adr 10 9 0 200),mact [2,1,0,0,0,0],mact [2,2,0,0,0,0],mact [2,3,0,0,0,0],keyt [200,0,0,0,0,0,0,0],wDrain,dec d]).length≤110
  have a1:(ipx (adr 10 9 0 200)).length≤15:=ipx_le (adr_range (by omega) (by omega) (by omega) (by omega))
  have m1:(mact [2,1,0,0,0,0]).length=17:=mact_six rfl
  have m2:(mact [2,2,0,0,0,0]).length=17:=mact_six rfl
  have m3:(mact [2,3,0,0,0,0]).length=17:=mact_six rfl
  have k1:(keyt [200,0,0,0,0,0,0,0]).length=16:=by rw [keyt_len];rfl
  have d1:=dec_le (n:=d) 0 (by omega)
  rw [spc_le]
  simp only [List.map_cons,List.map_nil,List.sum_cons,List.sum_nil,wGateway,wDrain,List.length_cons,List.length_nil]
  omega
 have key:∀ (k:Nat) (us:List Ten),(∀ i t,us[i]? = some t→SeatT (k+i) t)→k+us.length≤4→((us.flatMap txtT).flatMap spc).length≤340 * us.length:=by
  intro k us
  induction us generalizing k with
  | nil=>intro _ _;simp
  | cons t us ih =>
   intro hu hk
   rw [List.flatMap_cons,List.flatMap_append,List.length_append,List.length_cons]
   have h1:=(hu 0 t rfl).len (by simp at hk;omega)
   have h2:=ih (k+1) (fun i t ht=>by have:=hu (i+1) t ht;rw [show k+(i+1)=k+1+i by omega] at this;exact this) (by simp at hk;omega)
   omega
 have:=key 0 ts (fun i t hh=>by rw [Nat.zero_add];exact ht i t hh) (by omega)
 rw [hl] at this
 show (spc (txtG ⟨adr 10 9 0 200,[2,1,0,0,0,0],[2,2,0,0,0,0],[2,3,0,0,0,0],[200,0,0,0,0,0,0,0],d,ts⟩)).length+((ts.flatMap txtT).flatMap spc).length≤_
 omega
end La
theorem addr_any (w:World) (a b c d:Int) (ha:0≤a∧a≤255) (hb:0≤b∧b≤255) (hc:0≤c∧c≤255) (hd:0≤d∧d≤255) :
  Calls Tryz.prog 66 #[.int .u8 a,.int .u8 b,.int .u8 c,.int .u8 d] w fun e w'=>e=.returned (.int .u32 (adr a b c d))∧w=w':=by
 have o1:bits .or .u32 (a * 16777216) (b * 65536)=a * 16777216+b * 65536 :=
  bits_join .u32 32 (by decide) wraps_u32 24 (a * 16777216) (b * 65536) (by omega) (by omega) (by omega) (by omega) (by omega) (by omega)
 have o2:bits .or .u32 (a * 16777216+b * 65536) (c * 256)=a * 16777216+b * 65536+c * 256 :=
  bits_join .u32 32 (by decide) wraps_u32 16 (a * 16777216+b * 65536) (c * 256) (by omega) (by omega) (by omega) (by omega) (by omega) (by omega)
 have o3:bits .or .u32 (a * 16777216+b * 65536+c * 256) d=a * 16777216+b * 65536+c * 256+d :=
  bits_join .u32 32 (by decide) wraps_u32 8 (a * 16777216+b * 65536+c * 256) d (by omega) (by omega) (by omega) (by omega) (by omega) (by omega)
 have v1:=wrap32_small a ha.1 (by omega)
 have v2:=wrap32_small b hb.1 (by omega)
 have v3:=wrap32_small c hc.1 (by omega)
 have v4:=wrap32_small d hd.1 (by omega)
 have u1:=wrap32_small (a * 16777216) (by omega) (by omega)
 have u2:=wrap32_small (b * 65536) (by omega) (by omega)
 have u3:=wrap32_small (c * 256) (by omega) (by omega)
 clear ha hb hc hd
 go_enter Tryz.func66,Tryz.ntmps66
 go_wp2
 go_ret
 exact ⟨rfl,rfl⟩
end Go.Proofs.YtdigofgjhaakmaaGreatDoor
namespace Go.Proofs.YtdigofgjhaakmaaGreatDoor
open Go.RowKit
open La
open Ad
section
variable {w V:World} {g:Nat} {post:List Value} {T:TypeId} {σ:Sg} {W K:List (Nat×Obj)}
end
end Go.Proofs.YtdigofgjhaakmaaGreatDoor
namespace Go.Proofs.YtdigofgjhaakmaaGreatDoor
open Go.RowKit
open Sm
open Cf
def s0A:Array Value:=(.int .u64 0::cz.toList).toArray
theorem s0A_one:s0A.all (·.oneCell')=true:=by kernel_rfl
theorem st_one {c:Cgf} {u:Value} (ver:Int) (hu:u.oneCell'=true):(Value.int .u64 ver::cc c u).toArray.all (·.oneCell')=true:=by
 have:=cc_one c hu
 rw [Array.all_eq_true_iff_forall_mem] at this ⊢
 intro x hx
 simp only [List.mem_toArray,List.mem_cons] at hx
 rcases hx with rfl | hx
 ·rfl
 ·exact this x (by simpa using hx)
theorem cv_u {V:World} {c:Cgf} {v:Value} (h:CV V v c):∃ u,v=.agg (cc c u).toArray∧u.oneCell'=true:=by
 obtain ⟨-,u,e,h⟩:=h
 exact ⟨u,e,h.one⟩
theorem set0_eq {cl:List Value} (ver x:Int):(Value.int .u64 ver::cl).toArray.setIfInBounds 0 (.int .u64 x)=(Value.int .u64 x::cl).toArray:=by simp
def RdP (w:World) (ver:Int) (c:Cgf) (e:Ending) (V:World):Prop:=∃ u K,e=.returned (.tuple #[.agg (.int .u64 ver::cc c u).toArray,.int .i64 0])∧Mem w V K∧∀ w1:World,w1.heap.size≤w.heap.size→On w1 K (fun X=>CV X (.agg (cc c u).toArray) c)
theorem rd_any {w:World} {a:Option Addr} {l:List Int} {cp n:Nat} (hS:Sl w a l cp) (hn:l.length=n) (h8:8≤n) {c:Cgf} (hd:cdec (l.drop 8)=some c) :
 Calls Tryz.prog 71 #[.slice a n cp] w (RdP w (num (l.take 8)) c):=by
 obtain ⟨ad,rfl⟩:∃ ad,a=some ad:=by
  cases a with
  | none=>have:=hS.nil rfl;have:=hS.le;omega
  | some ad=>exact ⟨ad,rfl⟩
 rcases hS.row.cells with e | ⟨b,off,e,hc⟩
 ·rw [e] at hn;simp at hn;omega
 simp only [Option.some.injEq] at e
 subst e
 have hcap:=hS.le
 have hbig:=hS.big
 obtain ⟨g2,hg2⟩:∃ g,w.heap.size=g:=⟨_,rfl⟩
 have HCL:Hid (∀ V,Below w.heap.size w V→∀ i,i < 8→V.cell? ⟨b,off+i,none⟩=some (.int .u8 (l.getD i 0))):=fun V hV i hi=>by
  have h:=hc i (by omega)
  rw [hV.cell (p:=⟨b,off+i,none⟩) (cell_lt h)];exact h
 have HB:Hid (IsBytes l):=hS.row.bytes
 have HOC:Hid (∀ V,Below w.heap.size w V→Calls Tryz.prog 98 #[.slice (if cp=8 then some ⟨b,off,none⟩ else some ⟨b,off+8,none⟩) (n - 8) (cp - 8)] V (OPC V (some c))):=by
  intro V hV
  have hs:Sl V (if cp=8 then some ⟨b,off,none⟩ else some ⟨b,off+8,none⟩) (l.drop 8) (cp - 8):=by
   have hl:(l.drop 8).length=n - 8:=by rw [List.length_drop,hn]
   refine ⟨⟨fun i=>?_,by have:=hS.row.len;omega,?_⟩,by omega,by omega,fun e=>by split at e <;> cases e⟩
   ·have:(l.drop 8).getD i 0=l.getD (8+i) 0:=by simp [List.getD]
    rw [this];exact hS.row.bytes _
   ·by_cases h0:n=8
    ·left;exact List.eq_nil_of_length_eq_zero (by omega)
    ·right
     refine ⟨b,off+8,by rw [if_neg (by omega)],fun i hi=>?_⟩
     have h:=hc (8+i) (by omega)
     have e2:(l.drop 8).getD i 0=l.getD (8+i) 0:=by simp [List.getD]
     rw [e2,hV.cell (p:=⟨b,off+8+i,none⟩) (by rw [Nat.add_assoc];exact cell_lt h),Nat.add_assoc]
     exact h
  have:=openConfig_any hs
  rw [hd,List.length_drop,hn] at this
  exact this
 obtain ⟨N,hN⟩:∃ N,num (l.take 8)=N:=⟨_,rfl⟩
 rw [hN]
 have HN:Hid (∀ i,i < 8→num (l.take (i+1))=num (l.take i) * 256+l.getD i 0∧0≤num (l.take i)∧num (l.take i) < 72057594037927936):=by
  intro i hi
  refine ⟨num_take l i (by omega),?_⟩
  have hr:=num_range (bytes_tk HB.out i)
  rw [List.length_take,Nat.min_eq_left (by omega)] at hr
  have hp:(256:Int) ^ i≤256 ^ 7:=by
   match i,hi with
   | 0,_=>decide
   | 1,_=>decide
   | 2,_=>decide
   | 3,_=>decide
   | 4,_=>decide
   | 5,_=>decide
   | 6,_=>decide
   | 7,_=>decide
  have e6:(256:Int) ^ 7=72057594037927936:=by decide
  omega
 have HNN:Hid (num (l.take 8)=N):=hN
 clear hc hS hd hN
 have h8n:(8:Int)≤n:=by omega
 have h8c:(8:Int)≤cp:=by omega
 have hnc:(n:Int)≤cp:=by omega
 have h8l:¬ ((n:Int) < 8):=by omega
 have hi30:(Tryz.prog.info? stS).map (·.size)=some s0A.size:=by kernel_rfl
 have h30:s0A.size=s0A.size:=rfl
 have hM0:Mem w (w.alloc (.cells s0A stS)) [(g2,.cells s0A stS (0,0))]:=(Mem.nil w).push1 hg2.symm
 go_enter Tryz.func71,Tryz.ntmps71
 go_upto_region 1 with fail
 refine wp_letter (fun X=>Mem w X [(g2,.cells s0A stS (0,0))]) (by exact hM0) ?_
 intro V0 hM
 try simp only [hg2]
 clear hM0 hg2
 obtain ⟨g4,hg4⟩:∃ g,V0.heap.size=g:=⟨_,rfl⟩
 have hk1:(V0.alloc (.cells s0A stS)).heap[g4]? = some (.cells s0A stS (0,0)):=by rw [←hg4];exact heap_alloc_new _ _
 have HM1:Hid (Mem w ((V0.alloc (.cells s0A stS)).setRow g4 s0A) [(g4,.cells s0A stS (0,0)),(g2,.cells s0A stS (0,0))]):=by
  rw [←hg4,World.setRow_alloc_new];exact hM.front _ rfl
 clear hM
 go_upto_region 4 with (refine wpList_store_row rfl stS (.tmp 4) (.tmp 13) (by with_reducible rfl) g4 s0A (by simp [Act.eval];try exact hg4) (by first | rfl | simp [Act.eval]) stS s0A hk1 hi30 rfl s0A_one ?_)
 refine wp_letter (fun X=>Mem w X [(g4,.cells s0A stS (0,0)),(g2,.cells s0A stS (0,0))]) (by exact HM1.out) ?_
 intro V1 hM
 try simp only [hg4]
 clear HM1 hg4 hk1
 have HM:Hid (Mem w V1 [(g4,.cells (Value.int .u64 (num (l.take 0))::cz.toList).toArray stS (0,0)),(g2,.cells s0A stS (0,0))]):=hM
 clear hM
 go_wp2_with fail
 go_loopw [17] (fun u17 w'=>∃ i:Nat,i≤8∧u17=.int .i64 i∧Hid (Mem w w' [(g4,.cells (Value.int .u64 (num (l.take i))::cz.toList).toArray stS (0,0)),(g2,.cells s0A stS (0,0))])) (fun u17 w'=>8 - (intOf u17).toNat)
 case atStart=>exact ⟨0,Nat.zero_le _,rfl,HM⟩
 case round =>
  obtain ⟨i,hi,rfl,HR⟩:=hrel
  clear HM
  by_cases hlt:i < 8
  ·have h1:(i:Int) < 8:=by omega
   have hcell:=HCL.out _ HR.out.below i hlt
   have hb:=HB.out i
   obtain ⟨hnt,hx0,hx1⟩:=HN.out i hlt
   have c0:wr.cell? ⟨g4,0,none⟩=some (.int .u64 (num (l.take i))):=by rw [HR.out.cell 0 rfl];rfl
   have f0:=HR.out.free 0 rfl 0
   have hS2:=HR.out.set 0 rfl 0 (.int .u64 (num (l.take (i+1))))
   simp only [List.set_cons_zero] at hS2
   rw [set0_eq,hnt] at hS2
   have HT:Hid (num (l.take (i+1))=num (l.take i) * 256+l.getD i 0):=hnt
   clear hnt
   generalize num (l.take i)=x at *
   generalize l.getD i 0=y at *
   have e1:IntKind.u64.wrap (x * 256)=x * 256:=by rw [wrapu64];omega
   have e2:IntKind.u64.wrap y=y:=by rw [wrapu64];omega
   have e3:=join_byte x y ⟨hx0,hx1⟩ hb
   have e4:x * 256 % 18446744073709551616=x * 256:=by omega
   have e5:y % 18446744073709551616=y:=by omega
   have HS2:Hid (Mem w (wr.setCell ⟨g4,0,none⟩ (.int .u64 (x * 256+y))) [(g4,.cells (Value.int .u64 (x * 256+y)::cz.toList).toArray stS (0,0)),(g2,.cells s0A stS (0,0))]):=hS2
   clear hS2 HCL HOC HN HR
   go_wp2_with fail
   go_roundw
   case rel=>exact ⟨i+1,by omega,by go_num,by rw [HT.out];exact HS2⟩
   case measure=>simp [intOf];omega
  ·have h1:¬ ((i:Int) < 8):=by omega
   obtain rfl:i=8:=by omega
   have hM:=HR.out
   rw [HNN.out] at hM
   clear HR HN HCL HNN
   have C:=HOC.out wr hM.below
   have HM:Hid (Mem w wr [(g4,.cells (Value.int .u64 N::cz.toList).toArray stS (0,0)),(g2,.cells s0A stS (0,0))]):=hM
   clear hM HOC
   obtain ⟨ta,hta⟩:∃ ta,(if cp=8 then some (⟨b,off,none⟩:Addr) else some ⟨b,off+8,none⟩)=ta:=⟨_,rfl⟩
   rw [hta] at C
   go_wp2_with fail
   refine C.mono ?_
   rintro e V2 hO
   obtain ⟨hb2,v,rfl,hcv⟩:=hO
   have hon0:=HM.out.below.size
   have hon:∀ w1:World,w1.heap.size≤w.heap.size→On w1 (nws wr.heap.size V2) (fun X=>CV X v c):=fun w1 h1=>hcv.on (Nat.le_trans h1 hon0)
   have hM2:=HM.out.more (nws_mem hb2)
   have hcv2:=hon w (Nat.le_refl _) V2 hM2.below (fun x hx=>(nws_out hx).2)
   obtain ⟨u,rfl,hu⟩:=cv_u hcv2
   have hcl:=hcv2.1
   obtain ⟨A,hA⟩:∃ A,(cc c u).toArray=A:=⟨_,rfl⟩
   have hsz:A.size=29:=by rw [←hA,List.size_toArray];exact cc_len hcl _
   have hone:A.all (·.oneCell')=true:=by rw [←hA];exact cc_one c hu
   have i29:(Tryz.prog.info? 39).map (·.size)=some A.size:=by rw [hsz];kernel_rfl
   obtain ⟨K,hK⟩:∃ K,nws wr.heap.size V2=K:=⟨_,rfl⟩
   rw [hK] at hon hM2
   have HON:Hid ((∀ w1:World,w1.heap.size≤w.heap.size→On w1 K (fun X=>CV X (.agg (cc c u).toArray) c))∧(cc c u).toArray=A∧(st_one (c:=c) (u:=u) N hu=st_one (c:=c) (u:=u) N hu)):=⟨hon,hA,rfl⟩
   obtain ⟨g7,hg7⟩:∃ g,V2.heap.size=g:=⟨_,rfl⟩
   have hk7:(V2.alloc (.cells cz 39)).heap[g7]? = some (.cells cz 39):=by rw [←hg7];exact heap_alloc_new _ _
   have HM3:Hid (Mem w ((V2.alloc (.cells cz 39)).setRow g7 A) ((g7,.cells A 39)::(K++[(g4,.cells (Value.int .u64 N::cz.toList).toArray stS (0,0)),(g2,.cells s0A stS (0,0))]))):=by
    rw [←hg7,World.setRow_alloc_new];exact hM2.front _ rfl
   rw [hA]
   have hz29:(cz:Array Value).size=A.size:=by rw [hsz];rfl
   have hAS:(Value.int .u64 N::A.toList).toArray.size=30:=by simp [hsz]
   have hAO:(Value.int .u64 N::A.toList).toArray.all (·.oneCell')=true:=by rw [←hA];exact st_one N hu
   clear hM2 hcv hcv2 hon C HM hA hK hb2
   go_upto_region 10 with (refine wpList_store_row rfl 39 (.tmp 7) (.tmp 33) (by with_reducible rfl) g7 A (by simp [Act.eval];try exact hg7) (by first | rfl | simp [Act.eval]) 39 cz hk7 i29 hz29 hone ?_)
   refine wp_letter (fun X=>Mem w X ((g7,.cells A 39)::(K++[(g4,.cells (Value.int .u64 N::cz.toList).toArray stS (0,0)),(g2,.cells s0A stS (0,0))]))) (by exact HM3.out) ?_
   intro V3 hM3
   try simp only [hg7]
   clear HM3 hk7 hg7 hz29
   have k7:=hM3.get 0 rfl
   have hM4:Mem w V3 ((g4,.cells (([Value.int .u64 N])++(cz.toList++[])).toArray stS (0,0))::(g2,.cells s0A stS (0,0))::(g7,.cells A 39)::K):=hM3.perm (by
    classical
    rw [List.perm_iff_count]
    intro z
    simp only [List.count_append,List.count_cons,List.count_nil,List.append_nil,List.singleton_append]
    omega)
   have hth:V3.there g4 1 A.size:=mem_there hM4 (by rw [hsz];exact Nat.le_refl 30)
   have hM5:=mem_mid A.toList cz.toList [Value.int .u64 N] V3 (by rw [Array.length_toList,Array.length_toList,hsz];rfl) hM4
   rw [List.append_nil,List.singleton_append,List.length_singleton] at hM5
   have HM5:Hid (Mem w (V3.setCells g4 1 A.toList) ((g4,.cells (Value.int .u64 N::A.toList).toArray stS (0,0))::(g2,.cells s0A stS (0,0))::(g7,.cells A 39)::K)):=hM5
   clear hM3 hM4 hM5
   have CF:=failed_any 0 V3
   go_wp2_with fail
   refine CF.mono ?_
   rintro e _ ⟨rfl,rfl⟩
   have hz0:((0:Int) != 0)=false:=rfl
   go_upto_region 13 with (first | (refine wpList_load_row rfl 39 (.tmp 7) (by with_reducible rfl) g7 (by first | rfl | simp [Act.eval]) 39 A (0,0) _ k7 Tryz.underlying39 rfl i29 ?_) | (refine wpList_store_mid rfl 39 (.tmp 41) (.tmp 40) (by with_reducible rfl) g4 1 A (by first | rfl | simp [Act.eval]) (by first | rfl | simp [Act.eval]) hth i29 hone ?_) | fail)
   refine wp_letter (fun X=>Mem w X ((g4,.cells (Value.int .u64 N::A.toList).toArray stS (0,0))::(g2,.cells s0A stS (0,0))::(g7,.cells A 39)::K)) (by exact HM5.out) ?_
   intro V4 hM
   clear HM5 hth k7
   have k4:=hM.get 0 rfl
   have k2:=hM.get 1 rfl
   have hM6:=hM.wrote 1 rfl (wrote_setRow V4 g2 _ (Value.int .u64 N::A.toList).toArray _ k2)
   have hR:RdP w N c (.returned (.tuple #[.agg (Value.int .u64 N::A.toList).toArray,.int .i64 0])) (V4.setRow g2 (Value.int .u64 N::A.toList).toArray):=by
    refine ⟨u,K,by rw [←HON.out.2.1],hM6.sub.sub.sub,HON.out.1⟩
   have k6:(V4.setRow g2 (Value.int .u64 N::A.toList).toArray).heap[g2]? = some (.cells (Value.int .u64 N::A.toList).toArray stS (0,0)):=hM6.get 1 rfl
   generalize hB:(Value.int .u64 N::A.toList).toArray=B at *
   have j30:(Tryz.prog.info? stS).map (·.size)=some B.size:=by rw [hAS];kernel_rfl
   have z30:s0A.size=B.size:=by rw [hAS];rfl
   have HRR:Hid (RdP w N c (.returned (.tuple #[.agg B,.int .i64 0])) (V4.setRow g2 B)):=hR
   clear hM hM6 HON hR hB
   go_wp2_with (first | (refine wpList_load_row rfl stS (.tmp 4) (by with_reducible rfl) g4 (by first | rfl | simp [Act.eval]) stS B (0,0) _ k4 Tryz.underlying96 rfl j30 ?_) | (refine wpList_store_row rfl stS (.tmp 2) (.tmp 42) (by with_reducible rfl) g2 B (by first | rfl | simp [Act.eval]) (by first | rfl | simp [Act.eval]) stS s0A k2 j30 z30 hAO ?_) | fail)
   refine bodyPost_ret (v:=.tuple #[.agg B,.int .i64 0]) ?_ rfl HRR.out
   exact results_two' (p:=2) (q:=3) (ty:=stS) rfl _ _ g2 _ rfl (run_loadVar_row _ _ stS stS _ (0,0) _ k6 Tryz.underlying96 rfl j30)
end Go.Proofs.YtdigofgjhaakmaaGreatDoor
namespace Go.Proofs.YtdigofgjhaakmaaGreatDoor
open Go.RowKit
open Va
open Ad (nam)
theorem tenant14_any {W:World} {v:Value} {t:Ten} (hv:Vs W) (h:TV W v t) (hm:TSm t):Calls Tryz.prog 101 #[v] W fun e V=>e=.returned (.int .i64 (tchk t))∧Below W.heap.size W V:=by
 obtain ⟨tl,pa,sa,qa,pc,sc,qc,rfl,hx⟩:=h.tb
 obtain ⟨g,hg⟩:∃ g,W.heap.size=g:=⟨_,rfl⟩
 have hM0:Mem W (W.alloc (.cells tl.toArray 46)) [(g,.cells tl.toArray 46)]:=(Mem.nil W).push1 hg.symm
 have HM0:Hid (Mem W (W.alloc (.cells tl.toArray 46)) [(g,.cells tl.toArray 46)]):=hM0
 have HC:Hid (∀ X,Below W.heap.size W X→Calls Tryz.prog 134 #[.agg tl.toArray] X (Rls X (Va.trs t))):=fun X hX=>trules_any (hv.below hX) (hx.later hX).tv hm
 have i33:=i33_of hx.len
 have HL:Hid ((Va.trs t).length=17):=rfl
 unfold tchk
 clear hv h hm hx hM0
 generalize Va.trs t=ES at *
 generalize tl.toArray=A at *
 go_enter Tryz.func101,Tryz.ntmps101
 go_upto_region 1 with fail
 refine wp_letter (fun X=>Mem W X [(g,.cells A 46)]) (by exact HM0.out) ?_
 intro V hM
 try simp only [hg]
 clear HM0 hg
 have hk:=hM.get 0 rfl
 have C:=HC.out V hM.below
 have HB:Hid (Below W.heap.size W V):=hM.below
 clear HC hM
 go_wp2_with (refine wpList_load_row rfl 46 (.tmp 1) (by with_reducible rfl) g (by first | rfl | simp [Act.eval]) 46 A (0,0) _ hk Tryz.underlying46 rfl i33 ?_)
 refine C.mono ?_
 rintro _ X ⟨gl,rfl,h1,h2⟩
 have C2:=first_any rfl (by rw [HL.out];omega) h1
 have HB2:Hid (Below W.heap.size W X):=HB.out.trans (h2.mono HB.out.size)
 clear C h1 h2 HB
 go_wp2_with fail
 refine C2.mono ?_
 rintro _ X2 ⟨rfl,hb⟩
 go_wp2_with fail
 go_ret
 exact ⟨rfl,HB2.out.trans (hb.mono HB2.out.size)⟩
end Go.Proofs.YtdigofgjhaakmaaGreatDoor
namespace Go.Proofs.YtdigofgjhaakmaaGreatDoor
open Go.RowKit
open Sm
open Cf
open Df
section
variable {w V:World} {t:Ten} {p s q:Value} {g:Nat} {K:List (Nat×Obj)}
theorem cp1 (hl:TLen t) (r1:Rw w 1 p (ux t.pool)) (f1:t.pool.length≤1000000) (hV:Mem w V ((g,.cells (tc t p s q).toArray 46)::K)) :
 V.cell? ⟨g,23,none⟩=some p∧∃ a m c V' B,(Builtin.append_ #[43,43] 43 #[.slice none 0 0,p]).run Tryz.prog V=.ok (.slice a m c) V'∧V'.frozen? ⟨g,23,none⟩=false∧V'.cell? ⟨g,23,none⟩=some p ∧
  OwB 33 1 (.slice a m c) t.pool.length (ux t.pool).flatten B∧Mem w (V'.setCell ⟨g,23,none⟩ (.slice a m c)) ((g,.cells (tc t (.slice a m c) s q).toArray 46)::(B++K)):=by
 have u1:(ux t.pool).length=t.pool.length:=by simp [ux]
 obtain ⟨v',V',hrun,hO⟩:=append_none_g (ty:=43) hV Tryz.underlying43 infoU rfl (by decide) (r1.below ux_ne hV.below (Nat.le_refl _)) ux_sz ux_oc (by unfold maxLen;omega) (by omega)
 rw [u1] at hO
 obtain ⟨B,hB,hM⟩:=hO.owb
 obtain ⟨a,m,c,rfl⟩:=owb_slice hB
 have hM2:Mem w V' ((g,.cells (tc t p s q).toArray 46)::(B++K)):=hM.perm List.perm_middle
 have:=mem_set_in hM 23 (.slice a m c)
 rw [tc_set23 hl] at this
 exact ⟨by rw [hV.cell 0 rfl];exact (tc_at hl p s q).2.1,a,m,c,V',B,hrun,hM2.free 0 rfl 23,by rw [hM2.cell 0 rfl];exact (tc_at hl p s q).2.1,hB,this⟩
theorem cp2 (hl:TLen t) (r1:Rw w 2 s (px t.stat)) (f1:t.stat.length≤1000000) (hV:Mem w V ((g,.cells (tc t p s q).toArray 46)::K)) :
 V.cell? ⟨g,27,none⟩=some s∧∃ a m c V' B,(Builtin.append_ #[44,44] 44 #[.slice none 0 0,s]).run Tryz.prog V=.ok (.slice a m c) V'∧V'.frozen? ⟨g,27,none⟩=false∧V'.cell? ⟨g,27,none⟩=some s ∧
  OwB 122 2 (.slice a m c) t.stat.length (px t.stat).flatten B∧Mem w (V'.setCell ⟨g,27,none⟩ (.slice a m c)) ((g,.cells (tc t p (.slice a m c) q).toArray 46)::(B++K)):=by
 have u1:(px t.stat).length=t.stat.length:=by simp [px]
 obtain ⟨v',V',hrun,hO⟩:=append_none_g (ty:=44) hV Tryz.underlying44 infoP rfl (by decide) (r1.below px_ne hV.below (Nat.le_refl _)) px_sz px_oc (by unfold maxLen;omega) (by omega)
 rw [u1] at hO
 obtain ⟨B,hB,hM⟩:=hO.owb
 obtain ⟨a,m,c,rfl⟩:=owb_slice hB
 have hM2:Mem w V' ((g,.cells (tc t p s q).toArray 46)::(B++K)):=hM.perm List.perm_middle
 have:=mem_set_in hM 27 (.slice a m c)
 rw [tc_set27 hl] at this
 exact ⟨by rw [hV.cell 0 rfl];exact (tc_at hl p s q).2.2.1,a,m,c,V',B,hrun,hM2.free 0 rfl 27,by rw [hM2.cell 0 rfl];exact (tc_at hl p s q).2.2.1,hB,this⟩
theorem cp3 (hl:TLen t) (r1:Rw w 2 q (px t.twi)) (f1:t.twi.length≤1000000) (hV:Mem w V ((g,.cells (tc t p s q).toArray 46)::K)) :
 V.cell? ⟨g,28,none⟩=some q∧∃ a m c V' B,(Builtin.append_ #[44,44] 44 #[.slice none 0 0,q]).run Tryz.prog V=.ok (.slice a m c) V'∧V'.frozen? ⟨g,28,none⟩=false∧V'.cell? ⟨g,28,none⟩=some q ∧
  OwB 122 2 (.slice a m c) t.twi.length (px t.twi).flatten B∧Mem w (V'.setCell ⟨g,28,none⟩ (.slice a m c)) ((g,.cells (tc t p s (.slice a m c)).toArray 46)::(B++K)):=by
 have u1:(px t.twi).length=t.twi.length:=by simp [px]
 obtain ⟨v',V',hrun,hO⟩:=append_none_g (ty:=44) hV Tryz.underlying44 infoP rfl (by decide) (r1.below px_ne hV.below (Nat.le_refl _)) px_sz px_oc (by unfold maxLen;omega) (by omega)
 rw [u1] at hO
 obtain ⟨B,hB,hM⟩:=hO.owb
 obtain ⟨a,m,c,rfl⟩:=owb_slice hB
 have hM2:Mem w V' ((g,.cells (tc t p s q).toArray 46)::(B++K)):=hM.perm List.perm_middle
 have:=mem_set_in hM 28 (.slice a m c)
 rw [tc_set28 hl] at this
 exact ⟨by rw [hV.cell 0 rfl];exact (tc_at hl p s q).2.2.2,a,m,c,V',B,hrun,hM2.free 0 rfl 28,by rw [hM2.cell 0 rfl];exact (tc_at hl p s q).2.2.2,hB,this⟩
end
theorem cc_28 {c:Cgf} (h:CLen c) (u:Value):(cc c u).toArray[28]? = some u:=by
 obtain ⟨A,hA,e⟩:∃ A:List Value,A.length=28∧∀ u,cc c u=A++[u]:=⟨.int .u32 c.ip::(c.mac.map (Value.int .u8)++(c.omac.map (Value.int .u8)++(c.nmac.map (Value.int .u8)++(c.key.map (Value.int .u8)++[.int .u32 c.drain])))),by simp [h.mac,h.omac,h.nmac,h.key],fun u=>by simp [cc]⟩
 rw [e,List.getElem?_toArray,List.getElem?_append_right (by omega),hA];rfl
theorem cc_set28 {c:Cgf} (h:CLen c) (u v:Value):(cc c u).toArray.setIfInBounds 28 v=(cc c v).toArray:=by
 obtain ⟨A,hA,e⟩:∃ A:List Value,A.length=28∧∀ u,cc c u=A++[u]:=⟨.int .u32 c.ip::(c.mac.map (Value.int .u8)++(c.omac.map (Value.int .u8)++(c.nmac.map (Value.int .u8)++(c.key.map (Value.int .u8)++[.int .u32 c.drain])))),by simp [h.mac,h.omac,h.nmac,h.key],fun u=>by simp [cc]⟩
 rw [e,e]
 simp [List.set_append_right,hA]
theorem cop_any {w:World} {c:Cgf} {u:Value} {zs:List Tv} (hcl:CLen c) (hz:ZV w u zs) (hf:∀ z∈zs,TFew z.1) (hm:zs.length≤1000) :
 Calls Tryz.prog 51 #[.agg (cc c u).toArray] w fun e V=>∃ u',e=.returned (.agg (cc c u').toArray)∧∃ B C,TsB u' (zs.map Prod.fst) B C∧Mem w V (B++C):=by
 obtain ⟨sa,sc,rfl,hlc,hcb,hx⟩:=hz.parts
 obtain ⟨N,hN⟩:∃ N,zs.length=N:=⟨_,rfl⟩
 have HX:Hid (∀ i (hi:i < zs.length),(∃ b off,sa=some ⟨b,off,none⟩∧∀ V,Below w.heap.size w V→V.rangeAt b (off+i * 33) (zc zs[i]))∧TLen zs[i].1∧(zc zs[i]).toArray.all (·.oneCell')=true∧TFew zs[i].1∧∀ V,Below w.heap.size w V→Rws V zs[i]):=by
  intro i hi
  have hm:=List.getElem_mem hi
  exact ⟨hx i hi,(hz.each _ hm).1,zc_all (hz.each _ hm).2,hf _ hm,fun V hV=>Rws.at_ (hz.each _ hm).2 hV⟩
 have HT:Hid (∀ j (hj:j < zs.length),(zs.map Prod.fst).take (j+1)=(zs.map Prod.fst).take j++[zs[j].1]):=by
  intro j hj
  rw [List.take_add_one,List.getElem?_map,List.getElem?_eq_getElem hj]
  rfl
 have HTE:Hid ((zs.map Prod.fst).take zs.length=zs.map Prod.fst):=by show _=_;rw [List.take_of_length_le (by simp)]
 obtain ⟨g,hg⟩:∃ g,w.heap.size=g:=⟨_,rfl⟩
 obtain ⟨A,hA⟩:∃ A,(cc c (.slice sa zs.length sc)).toArray=A:=⟨_,rfl⟩
 have hA28:A[28]? = some (.slice sa zs.length sc):=by rw [←hA];exact cc_28 hcl _
 have hAsz:A.size=29:=by rw [←hA,List.size_toArray];exact cc_len hcl _
 have HAS:Hid (∀ v,A.setIfInBounds 28 v=(cc c v).toArray):=by intro v;rw [←hA];exact cc_set28 hcl _ _
 have HM0:Hid (Mem w ((w.alloc (.cells A 39)).alloc (.cells cz 39)) [(g,.cells A 39),(g+1,.cells cz 39)]):=by
  have:=two_blocks' w (.cells A 39) (.cells cz 39)
  rw [hg] at this
  exact this.perm (List.Perm.swap _ _ _)
 rw [hA]
 rw [hN] at hA28 hlc hm HTE
 simp only [hN] at HX HT
 clear hz hf hx hA
 go_enter Tryz.func51,Tryz.ntmps51
 go_upto_region 1 with fail
 refine wp_letter (fun X=>Mem w X [(g,.cells A 39),(g+1,.cells cz 39)]) (by exact HM0.out) ?_
 intro V0 hM0
 try simp only [hg]
 clear HM0 hg
 have c28:V0.cell? ⟨g,28,none⟩=some (.slice sa N sc):=by rw [hM0.cell 0 rfl];exact hA28
 have H0:Hid (Ow w V0 46 33 (.slice none 0 0) ([]:List Tv).length ((([]:List Tv)).map zc).flatten [(g,.cells A 39),(g+1,.cells cz 39)]):=Ow.nil hM0
 clear hM0
 go_wp2_with fail
 go_loopw [3,9] (fun u3 u9 w'=>∃ (j:Nat) (a:Option Addr) (m c:Nat) (xs:List Tv) (C:List (Nat×Obj)),j≤N∧u9=.int .i64 j∧u3=.slice a m c∧Hid (Ow w w' 46 33 (.slice a m c) xs.length (xs.map zc).flatten ((g,.cells A 39)::(g+1,.cells cz 39)::C)∧(∀ z∈xs,ZB z C)∧xs.map Prod.fst=(zs.map Prod.fst).take j∧xs.length=j)) (fun u3 u9 w'=>N - (intOf u9).toNat)
 case atStart=>exact ⟨0,none,0,0,[],[],Nat.zero_le _,rfl,rfl,H0.out,by simp,by simp,rfl⟩
 case round =>
  obtain ⟨j,a,m,c',xs,C,hj,rfl,rfl,HR⟩:=hrel
  clear H0
  by_cases hlt:j < N
  ·have h1:(j:Int) < N:=by omega
   obtain ⟨⟨b,off,rfl,hV⟩,hl,ho,hfw,hrr⟩:=HX.out j hlt
   obtain ⟨hO,hZB,hfst,hxl⟩:=HR.out
   have hbW:=hO.mem.below
   have hra:=hV _ hbW
   have hT:=HT.out j hlt
   have hr:=hrr _ hbW
   clear hV HX HT HTE HR hrr
   have hjM:j < zs.length:=by omega
   generalize zs[j]'hjM=z at *
   obtain ⟨t,p,s,q⟩:=z
   obtain ⟨r1,r2,r3⟩:=hr
   obtain ⟨f1,f2,f3⟩:=hfw
   simp only at hl r1 r2 r3 f1 f2 f3
   have hi33:(Tryz.prog.info? 46).map (·.size)=some (zc (t,p,s,q)).length:=by rw [show (zc (t,p,s,q)).length=33 from tc_len hl _ _ _];kernel_rfl
   have hj33:(Tryz.prog.info? 46).map (·.size)=some (zc (t,p,s,q)).toArray.size:=by rw [List.size_toArray];exact hi33
   have hs33:(tz:Array Value).size=(zc (t,p,s,q)).toArray.size:=by rw [show (zc (t,p,s,q)).toArray.size=33 by rw [List.size_toArray];exact tc_len hl _ _ _];rfl
   obtain ⟨g5,hg5⟩:∃ g,wr.heap.size=g:=⟨_,rfl⟩
   have hk5:(wr.alloc (.cells tz 46)).heap[g5]? = some (.cells tz 46):=by rw [←hg5];exact heap_alloc_new _ _
   have HF0:Hid (Mem wr ((wr.alloc (.cells tz 46)).setRow g5 (zc (t,p,s,q)).toArray) [(g5,.cells (tc t p s q).toArray 46)]):=by
    rw [←hg5,World.setRow_alloc_new];exact (Mem.nil wr).push1 rfl
   have HF:Hid (∀ (z':Tv) (C':List (Nat×Obj)) (V:World),z'.1=t→ZB z' C'→Mem wr V C'→(Instr.buildSlice 37 1 #[(0,tv z')]).run Tryz.prog V=.ok (.slice (some ⟨V.heap.size,0,none⟩) 1 1) (V.alloc (.cells (zc z').toArray 46)) ∧
    ∃ a' m' d' V',(Builtin.append_ #[37,37] 37 #[.slice a m c',.slice (some ⟨V.heap.size,0,none⟩) 1 1]).run Tryz.prog (V.alloc (.cells (zc z').toArray 46))=.ok (.slice a' m' d') V' ∧
    Ow w V' 46 33 (.slice a' m' d') (xs++[z']).length ((xs++[z']).map zc).flatten ((g,.cells A 39)::(g+1,.cells cz 39)::(C++C'))∧(∀ z∈xs++[z'],ZB z (C++C'))∧(xs++[z']).map Prod.fst=(zs.map Prod.fst).take (j+1)∧(xs++[z']).length=j+1):=by
    intro z' C' V k1 k2 k3
    refine ⟨bsliceT z' k2.1 V,?_⟩
    obtain ⟨a',m',d',V',e1,e2,e3⟩:=ow_ten hO (fun z h=>(hZB z h).more fun x hx=>by simp [hx]) k3 k2 (by omega) rfl
    refine ⟨a',m',d',V',e1,e2,fun y hy=>?_,?_,by rw [List.length_append,hxl];rfl⟩
    ·rcases List.mem_append.1 hy with hy | hy
     ·exact (hZB y hy).more fun x hx=>by simp [hx]
     ·rw [List.mem_singleton] at hy
      subst hy
      exact k2.more fun x hx=>by simp [hx]
    ·rw [hT,List.map_append,hfst,List.map_singleton,k1]
   clear hO hZB hfst hxl hbW hT
   go_upto_region 5 with (first | (refine wpList_load_mid rfl 46 (.tmp 11) (by with_reducible rfl) b (off+j * 33) (by simp [Act.eval]) (zc (t,p,s,q)) _ hra Tryz.underlying46 rfl hi33 ?_) | (refine wpList_store_row rfl 46 (.tmp 5) (.tmp 12) (by with_reducible rfl) g5 (zc (t,p,s,q)).toArray (by simp [Act.eval];try exact hg5) (by first | rfl | simp [Act.eval]) 46 tz hk5 hj33 hs33 ho ?_) | fail)
   refine wp_letter (fun X=>Mem wr X [(g5,.cells (tc t p s q).toArray 46)]) (by exact HF0.out) ?_
   intro V1 hM1
   try simp only [hg5]
   clear HF0 hk5 hra hi33 hj33 hs33 ho hg5
   obtain ⟨c1,a1,m1,d1,V2,B1,hr1,hf1,hc1,hB1,hM2⟩:=cp1 hl r1 f1 hM1
   clear hM1
   go_upto_region 6 with (first | (at_builtin;refine wpList_append_run _ (.tmp 14) 43 43 (by with_reducible rfl) hr1 rfl rfl (by first | rfl | simp [Act.eval]) (by first | rfl | simp [Act.eval]) ?_) | fail)
   clear hr1 c1 hf1 hc1
   generalize V2.setCell ⟨g5,23,none⟩ (.slice a1 m1 d1)=V3 at *
   obtain ⟨c2,a2,m2,d2,V4,B2,hr2,hf2,hc2,hB2,hM3⟩:=cp2 hl r2 f2 hM2
   clear hM2
   go_upto_region 7 with (first | (at_builtin;refine wpList_append_run _ (.tmp 18) 44 44 (by with_reducible rfl) hr2 rfl rfl (by first | rfl | simp [Act.eval]) (by first | rfl | simp [Act.eval]) ?_) | fail)
   clear hr2 c2 hf2 hc2
   generalize V4.setCell ⟨g5,27,none⟩ (.slice a2 m2 d2)=V5 at *
   obtain ⟨c3,a3,m3,d3,V6,B3,hr3,hf3,hc3,hB3,hM4⟩:=cp3 hl r3 f3 hM3
   clear hM3
   go_upto_region 8 with (first | (at_builtin;refine wpList_append_run _ (.tmp 22) 44 44 (by with_reducible rfl) hr3 rfl rfl (by first | rfl | simp [Act.eval]) (by first | rfl | simp [Act.eval]) ?_) | fail)
   clear hr3 c3 hf3 hc3
   generalize V6.setCell ⟨g5,28,none⟩ (.slice a3 m3 d3)=V7 at *
   have k5:=hM4.get 0 rfl
   obtain ⟨hbs,a',m',d',V8,hr8,hOF⟩:=HF.out (t,.slice a1 m1 d1,.slice a2 m2 d2,.slice a3 m3 d3) ((g5,.cells (tc t (.slice a1 m1 d1) (.slice a2 m2 d2) (.slice a3 m3 d3)).toArray 46)::(B3++(B2++(B1++[])))) V7 rfl ⟨hl,B1,B2,B3,fun x hx=>by rw [List.append_nil];exact List.mem_cons_of_mem _ hx,hB1,hB2,hB3⟩ hM4
   obtain ⟨A3,hA3⟩:∃ A,(tc t (.slice a1 m1 d1) (.slice a2 m2 d2) (.slice a3 m3 d3)).toArray=A:=⟨_,rfl⟩
   have hsz:A3.size=33:=by rw [←hA3,List.size_toArray];exact tc_len hl _ _ _
   have i33:(Tryz.prog.info? 46).map (·.size)=some A3.size:=by rw [hsz];kernel_rfl
   have eT:tv (t,.slice a1 m1 d1,.slice a2 m2 d2,.slice a3 m3 d3)=.agg A3:=by rw [←hA3];rfl
   rw [eT] at hbs
   rw [hA3] at k5
   generalize hzz:((t,.slice a1 m1 d1,.slice a2 m2 d2,.slice a3 m3 d3):Tv)=z' at *
   have HO2:Hid (∃ (j':Nat) (a:Option Addr) (m c:Nat) (xs:List Tv) (C:List (Nat×Obj)),j'≤N∧Value.int .i64 ((j+1:Nat):Int)=.int .i64 j'∧Value.slice a' m' d'=.slice a m c∧Hid (Ow w V8 46 33 (.slice a m c) xs.length (xs.map zc).flatten ((g,.cells A 39)::(g+1,.cells cz 39)::C)∧(∀ z∈xs,ZB z C)∧xs.map Prod.fst=(zs.map Prod.fst).take j'∧xs.length=j')):=⟨j+1,a',m',d',xs++[z'],_,by omega,rfl,rfl,hOF⟩
   clear hOF hM4 hB1 hB2 hB3 HF hA3 r1 r2 r3 hzz eT hsz
   go_wp2_with (first | (refine wpList_load_row rfl 46 (.tmp 5) (by with_reducible rfl) g5 (by first | rfl | simp [Act.eval]) 46 A3 (0,0) _ k5 Tryz.underlying46 rfl i33 ?_) | (refine wpList_bsl rfl 37 1 #[(0,.tmp 26)] (by with_reducible rfl) hbs (by simp [Act.eval,Act.put]) ?_) | (at_builtin;refine wpList_append_run (.tmp 25) (.tmp 27) 37 37 (by with_reducible rfl) hr8 rfl rfl (by first | rfl | simp [Act.eval]) (by first | rfl | simp [Act.eval]) ?_) | fail)
   go_roundw
   case rel =>
    obtain ⟨j',b1,b2,b3,b4,b5,b6,b7,b8,b9⟩:=HO2.out
    exact ⟨j',b1,b2,b3,b4,b5,b6,by rw [←b7];go_num,b8,b9⟩
   case measure=>simp [intOf];omega
  ·have h1:¬ ((j:Int) < N):=by omega
   obtain rfl:j=N:=by omega
   obtain ⟨hO,hZB,hfst,hxl⟩:=HR.out
   obtain ⟨B,hB,hM⟩:=hO.owb
   have hM2:Mem w wr ((g,.cells A 39)::(g+1,.cells cz 39)::(B++C)):=hM.perm (by classical rw [List.perm_iff_count];intro z;simp only [List.count_append,List.count_cons];omega)
   have f28:=hM2.free 0 rfl 28
   have d28:wr.cell? ⟨g,28,none⟩=some (.slice sa j sc):=by rw [hM2.cell 0 rfl];exact hA28
   have hM3:=hM2.set 0 rfl 28 (.slice a m c')
   simp only [List.set_cons_zero] at hM3
   rw [HAS.out] at hM3
   obtain ⟨A2,hA2⟩:∃ A2,(cc c (.slice a m c')).toArray=A2:=⟨_,rfl⟩
   have hsz:A2.size=29:=by rw [←hA2,List.size_toArray];exact cc_len hcl _
   have hone:A2.all (·.oneCell')=true:=by rw [←hA2];exact cc_one c rfl
   have i29:(Tryz.prog.info? 39).map (·.size)=some A2.size:=by rw [hsz];kernel_rfl
   have z29:(cz:Array Value).size=A2.size:=by rw [hsz];rfl
   rw [hA2] at hM3
   have HM3:Hid (Mem w (wr.setCell ⟨g,28,none⟩ (.slice a m c')) ((g,.cells A2 39)::(g+1,.cells cz 39)::(B++C))):=hM3
   have HTS:Hid (TsB (.slice a m c') (zs.map Prod.fst) B C∧(cc c (.slice a m c')).toArray=A2):=⟨⟨xs,by rw [hfst,HTE.out],hB,hZB⟩,hA2⟩
   clear hO hZB hfst hxl hM hM2 hM3 HR HX HT HTE hA2 hB HAS
   go_upto_region 11 with fail
   refine wp_letter (fun X=>Mem w X ((g,.cells A2 39)::(g+1,.cells cz 39)::(B++C))) (by exact HM3.out) ?_
   intro V9 hM
   clear HM3 f28 d28
   have k1:=hM.get 0 rfl
   have k2:=hM.get 1 rfl
   have hM6:=hM.wrote 1 rfl (wrote_setRow V9 (g+1) _ A2 _ k2)
   have HQ:Hid ((V9.setRow (g+1) A2).heap[g+1]? = some (.cells A2 39)∧∃ u',Ending.returned (.agg A2)=.returned (.agg (cc c u').toArray)∧∃ B C,TsB u' (zs.map Prod.fst) B C∧Mem w (V9.setRow (g+1) A2) (B++C)) :=
    ⟨hM6.get 1 rfl,.slice a m c',by rw [HTS.out.2],B,C,HTS.out.1,hM6.sub.sub⟩
   clear hM hM6 HTS
   go_wp2_with (first | (refine wpList_load_row rfl 39 (.tmp 1) (by with_reducible rfl) g (by first | rfl | simp [Act.eval]) 39 A2 (0,0) _ k1 Tryz.underlying39 rfl i29 ?_) | (refine wpList_store_row rfl 39 (.tmp 2) (.tmp 32) (by with_reducible rfl) (g+1) A2 (by first | rfl | simp [Act.eval]) (by first | rfl | simp [Act.eval]) 39 cz k2 i29 z29 hone ?_) | fail)
   refine bodyPost_ret (v:=.agg A2) ?_ rfl HQ.out.2
   exact results_cell_row (p:=2) (ty:=39) rfl _ _ (g+1) 39 _ (0,0) _ rfl HQ.out.1 Tryz.underlying39 rfl i29
end Go.Proofs.YtdigofgjhaakmaaGreatDoor
namespace Go.Proofs.YtdigofgjhaakmaaGreatDoor
open Go.RowKit
open Sm
open Cf
open Df
open Va
open Ad
theorem tchk_name (s:ByteArray):(tchk { ten0 with name:=s } == 90)=!(nam s.data.toList):=by
 obtain ⟨R,hR⟩:∃ R,tchk { ten0 with name:=s }=fnz (ul 90 (nam s.data.toList)::ul 91 (wi 0 1 16777215)::R):=⟨_,rfl⟩
 rw [hR]
 generalize nam s.data.toList=r
 cases r <;> rfl
theorem tv_name (w:World) (s:ByteArray):TV w (.agg (tc { ten0 with name:=s } nilV nilV nilV).toArray) { ten0 with name:=s }:=by
 have h:=rws_nil w { ten0 with name:=s } rfl rfl rfl
 exact ⟨⟨rfl,rfl,rfl⟩,nilV,nilV,nilV,rfl,h.1,h.2.1,h.2.2⟩
theorem isName_any {w:World} (hv:Vs w) (s:ByteArray) (hs:s.size≤1000000):Calls Tryz.prog 75 #[.string s] w fun e V=>e=.returned (.bool (nam s.data.toList))∧Below w.heap.size w V:=by
 have C:=tenant14_any hv (tv_name w s) ⟨hs,Nat.zero_le _,Nat.zero_le _,Nat.zero_le _⟩
 have hk:=tchk_name s
 generalize nam s.data.toList=r at hk ⊢
 generalize tchk { ten0 with name:=s }=k at C hk
 go_enter Tryz.func75,Tryz.ntmps75
 go_wp2_with fail
 refine C.mono ?_
 rintro e V ⟨rfl,hb⟩
 have C2:=isn_any k 90 V
 rw [hk] at C2
 go_wp2_with fail
 refine C2.mono ?_
 rintro e _ ⟨rfl,rfl⟩
 go_wp2_with fail
 go_ret
 exact ⟨rfl,hb⟩
def ftsB (ts:List Ten) (h:Chg):Bool:=nam h.name.data.toList && (if h.put then (h.name.toList == h.t.name.toList) else (Df.look nk h.name.data.toList ts).isSome)
theorem fits_any16 {w:World} (hv:Vs w) {v:Value} {zs:List Tv} (hz:ZV w v zs) (hzn:∀ z∈zs,Nf z.1) (hm:zs.length≤1000) {y:Hv} (hl:TLen y.1.t) (hr:Rws w (yz y)) (hs:y.1.name.size≤1000000) :
 Calls Tryz.prog 54 #[.agg (yc y).toArray,v] w fun e V=>e=.returned (.bool (ftsB (zs.map Prod.fst) y.1))∧Below w.heap.size w V:=by
 obtain ⟨g,hg⟩:∃ g,w.heap.size=g:=⟨_,rfl⟩
 obtain ⟨A,hA⟩:∃ A,(yc y).toArray=A:=⟨_,rfl⟩
 have hM0:Mem w (w.alloc (.cells A 48)) [(g,.cells A 48)]:=(Mem.nil w).push1 hg.symm
 have HC:Hid (∀ V,Mem w V [(g,.cells A 48)]→V.cell? ⟨g,0,none⟩=some (.bool y.1.put)∧V.cell? ⟨g,1,none⟩=some (.string y.1.name)∧V.cell? ⟨g,2,none⟩=some (.string y.1.t.name)):=by
  intro V hV
  refine ⟨?_,?_,?_⟩ <;> · rw [hV.cell 0 rfl,← hA];rfl
 have HF:Hid (∀ V,Below w.heap.size w V→Calls Tryz.prog 76 #[v,.string y.1.name] V fun e X=>∃ A,e=.returned (.tuple #[.agg A,.bool (Df.look nk y.1.name.data.toList (zs.map Prod.fst)).isSome])∧TV X (.agg A) (fnd (zs.map Prod.fst) y.1.name.data.toList)∧Below V.heap.size V X):=fun V hV=>find_any (hz.at_ hV) hzn y.1.name hm
 have HI:Hid (∀ V,Below w.heap.size w V→Calls Tryz.prog 75 #[.string y.1.name] V fun e X=>e=.returned (.bool (nam y.1.name.data.toList))∧Below V.heap.size V X):=fun V hV=>isName_any (hv.below hV) _ hs
 have c:=HC.out _ hM0
 have CI:=HI.out _ hM0.below
 rw [hA]
 obtain ⟨R,hR⟩:∃ R,ftsB (zs.map Prod.fst) y.1=R:=⟨_,rfl⟩
 rw [hR]
 unfold ftsB at hR
 have HM0:Hid (Mem w (w.alloc (.cells A 48)) [(g,.cells A 48)]):=hM0
 generalize nam y.1.name.data.toList=nr at *
 generalize (Df.look nk y.1.name.data.toList (zs.map Prod.fst)).isSome=fr at *
 clear hz hzn hl hr hs hM0 HI hA
 obtain ⟨c0,c1,c2⟩:=c
 go_enter Tryz.func54,Tryz.ntmps54
 go_wp2_with fail
 refine CI.mono ?_
 rintro e V ⟨rfl,hb⟩
 have hM1:=HM0.out.after hb
 obtain ⟨d0,d1,d2⟩:=HC.out _ hM1
 have HM1:Hid (Mem w V [(g,.cells A 48)]):=hM1
 have CF:=HF.out _ hM1.below
 clear CI HM0 c0 c1 c2 hb HC HF hM1
 cases nr
 ·go_wp2_with fail
  go_ret
  exact ⟨by rw [←hR];rfl,HM1.out.below⟩
 ·cases hp:y.1.put
  ·rw [hp] at d0 hR
   go_wp2_with fail
   refine CF.mono ?_
   rintro e X ⟨B,rfl,hT,hb⟩
   obtain ⟨hlB,p,s,q,e,hq⟩:=hT
   simp only [Value.agg.injEq] at e
   have hsz:B.size=33:=by rw [e,List.size_toArray];exact tc_len hlB _ _ _
   have hone:B.all (·.oneCell')=true:=by rw [e];exact tc_one2 _ (rw_one hq.1) (rw_one hq.2.1) (rw_one hq.2.2)
   have i33:(Tryz.prog.info? 46).map (·.size)=some B.size:=by rw [hsz];kernel_rfl
   obtain ⟨g5,hg5⟩:∃ g,X.heap.size=g:=⟨_,rfl⟩
   have hk5:(X.alloc (.cells tz 46)).heap[g5]? = some (.cells tz 46):=by rw [←hg5];exact heap_alloc_new _ _
   have hbb:Below w.heap.size w X:=HM1.out.below.trans (hb.mono HM1.out.below.size)
   have HE:Hid (Below w.heap.size w ((X.alloc (.cells tz 46)).setRow g5 B)):=by
    rw [←hg5,World.setRow_alloc_new];exact hbb.alloc hbb.size _
   have hz33:(tz:Array Value).size=B.size:=by rw [hsz];rfl
   clear e hq hb hbb HM1 CF d0 d1 d2
   go_wp2_with (refine wpList_store_row rfl 46 (.tmp 5) (.tmp 24) (by with_reducible rfl) g5 B (by simp [Act.eval];try exact hg5) (by first | rfl | simp [Act.eval]) 46 tz hk5 i33 hz33 hone ?_)
   go_ret
   exact ⟨by rw [←hR];rfl,HE.out⟩
  ·rw [hp] at d0 hR
   simp only [if_true,Bool.true_and] at hR
   go_wp2_with fail
   go_ret
   exact ⟨by rw [←hR];simp <;> rfl,HM1.out.below⟩
end Go.Proofs.YtdigofgjhaakmaaGreatDoor
namespace Go.Proofs.YtdigofgjhaakmaaGreatDoor
open Go.RowKit
open La
open Ad
end Go.Proofs.YtdigofgjhaakmaaGreatDoor
namespace Go.Proofs.YtdigofgjhaakmaaGreatDoor
open Go.RowKit
open Va
structure CBx (w:World) (cl:List Value) (c:Cgf) (ta:Option Addr) (tp:Nat):Prop where
 len:cl.length=29
 one:cl.toArray.all (·.oneCell')=true
 ip:cl[0]? = some (.int .u32 c.ip)
 drain:cl[27]? = some (.int .u32 c.drain)
 ten:cl[28]? = some (.slice ta c.ten.length tp)
 cv:CV w (.agg cl.toArray) c
 ts:TSV w (.slice ta c.ten.length tp) c.ten
theorem CV.tb {w:World} {v:Value} {c:Cgf} (h:CV w v c):∃ cl ta tp,v=.agg cl.toArray∧CBx w cl c ta tp:=by
 have h0:=h
 obtain ⟨hl,u,rfl,hu⟩:=h
 have hu0:=hu
 obtain ⟨ta,tp,rfl,-⟩:=hu.parts
 refine ⟨_,ta,tp,rfl,cc_len hl _,cc_one c rfl,?_,?_,?_,h0,hu0⟩
 all_goals
  obtain ⟨ip,m1,m2,m3,ky,dr,ts⟩:=c
  obtain ⟨h1,h2,h3,h4⟩:=hl
  obtain ⟨a,b,c,d,f,g,x,y,rfl⟩:=eight8 h4
  obtain ⟨a1,b1,c1,d1,f1,g1,rfl⟩:=six6 h1
  obtain ⟨a2,b2,c2,d2,f2,g2,rfl⟩:=six6 h2
  obtain ⟨a3,b3,c3,d3,f3,g3,rfl⟩:=six6 h3
  rfl
theorem CBx.later {w V:World} {cl:List Value} {c:Cgf} {ta:Option Addr} {tp:Nat} (h:CBx w cl c ta tp) (hb:Below w.heap.size w V):CBx V cl c ta tp :=
 { h with cv:=h.cv.at_ hb (Nat.le_refl _),ts:=h.ts.at_ hb (Nat.le_refl _) }
def CBo (W:World) (g:Nat) (c:Cgf):Prop:=∃ cl ta tp,W.heap[g]? = some (.cells cl.toArray 39)∧CBx W cl c ta tp
theorem CBo.later {W V:World} {g:Nat} {c:Cgf} (h:CBo W g c) (hb:Below W.heap.size W V):CBo V g c:=by
 obtain ⟨cl,ta,tp,h1,h2⟩:=h
 exact ⟨cl,ta,tp,by rw [hb.block g (Array.getElem?_eq_some_iff.mp h1).1];exact h1,h2.later hb⟩
theorem i29_of {cl:List Value} (h:cl.length=29):(Tryz.prog.info? 39).map (·.size)=some cl.toArray.size:=by rw [List.size_toArray,h];kernel_rfl
theorem cell_later {W V:World} (hb:Below W.heap.size W V) {g j:Nat} {v:Value} (h:W.cell? ⟨g,j,none⟩=some v):V.cell? ⟨g,j,none⟩=some v:=by rw [hb.cell (p:=⟨g,j,none⟩) (cell_lt h)];exact h
theorem TSV.head {w:World} {a:Option Addr} {n c:Nat} {ts:List Ten} (h:TSV w (.slice a n c) ts) (i:Nat) (hi:i≤ts.length):TSV w (.slice a i c) (ts.take i):=by
 obtain ⟨zs,h1,h2,h3⟩:=h
 have hl:(zs.map zc).length=ts.length:=by rw [←h1];simp
 refine ⟨zs.take i,by rw [List.map_take,h1],?_,fun z hz=>h3 z (List.mem_of_mem_take hz)⟩
 rw [List.map_take]
 exact h2.head i (by omega)
theorem gq1 {W:World} {g:Nat} {c:Cgf} (h:CBo W g c):Ask W 106 #[.pointer (some ⟨g,0,none⟩)] (c.ip != 0):=by
 refine ⟨enters_of Tryz.func106 (by kernel_rfl) rfl,fun V hV=>?_⟩
 obtain ⟨cl,ta,tp,hg,hx⟩:=h.later hV
 have c0:=cell_tl hg hx.ip
 clear h hg hx
 simp only [List.append_toArray,List.cons_append,List.nil_append,Array.empty_append]
 generalize c.ip=x at *
 go_enter Tryz.func106,Tryz.ntmps106
 go_wp2_with fail
 go_ret
 exact ⟨rfl,Below.refl _ _⟩
theorem gq2 {W:World} {g:Nat} {c:Cgf} (h:CBo W g c):Ask W 107 #[.pointer (some ⟨g,0,none⟩)] (decide (c.drain≤1000)):=by
 refine ⟨enters_of Tryz.func107 (by kernel_rfl) rfl,fun V hV=>?_⟩
 obtain ⟨cl,ta,tp,hg,hx⟩:=h.later hV
 have c0:=cell_tl hg hx.drain
 clear h hg hx
 simp only [List.append_toArray,List.cons_append,List.nil_append,Array.empty_append]
 generalize c.drain=x at *
 go_enter Tryz.func107,Tryz.ntmps107
 go_wp2_with fail
 go_ret
 exact ⟨rfl,Below.refl _ _⟩
theorem gq3 {W:World} {g:Nat} {c:Cgf} (h:CBo W g c):Ask W 108 #[.pointer (some ⟨g,0,none⟩)] (decide ((c.ten.length:Int)≤16)):=by
 refine ⟨enters_of Tryz.func108 (by kernel_rfl) rfl,fun V hV=>?_⟩
 obtain ⟨cl,ta,tp,hg,hx⟩:=h.later hV
 have c0:=cell_tl hg hx.ten
 clear h hg hx
 simp only [List.append_toArray,List.cons_append,List.nil_append,Array.empty_append]
 generalize c.ten.length=x at *
 go_enter Tryz.func108,Tryz.ntmps108
 go_wp2_with fail
 go_ret
 exact ⟨rfl,Below.refl _ _⟩
theorem grules_any {W:World} {v:Value} {c:Cgf} (h:CV W v c):Calls Tryz.prog 83 #[v] W (Rls W (grs c)):=by
 obtain ⟨cl,ta,tp,rfl,hx⟩:=h.tb
 have hmf:=mkf
 obtain ⟨g,hg⟩:∃ g,W.heap.size=g:=⟨_,rfl⟩
 have hM0:Mem W (W.alloc (.cells cl.toArray 39)) [(g,.cells cl.toArray 39)]:=(Mem.nil W).push1 hg.symm
 have HM0:Hid (Mem W (W.alloc (.cells cl.toArray 39)) [(g,.cells cl.toArray 39)]):=hM0
 have HX:Hid (∀ X,Mem W X [(g,.cells cl.toArray 39)]→CBo X g c):=fun X hX=>⟨cl,ta,tp,hX.get 0 rfl,hx.later hX.below⟩
 have HE:Hid (grs c=[ul 96 (c.ip != 0),ul 96 (decide (c.drain≤1000)),ul 96 (decide ((c.ten.length:Int)≤16))]):=rfl
 clear hM0 h hx
 generalize grs c=ES at *
 generalize cl.toArray=A at *
 go_enter Tryz.func83,Tryz.ntmps83
 go_upto_region 1 with fail
 refine wp_letter (fun X=>Mem W X [(g,.cells A 39)]) (by exact HM0.out) ?_
 intro V0 hM1
 try simp only [hg]
 clear HM0 hg
 have H0:Hid (CBo V0 g c∧Below W.heap.size W V0):=⟨HX.out V0 hM1,hM1.below⟩
 clear HX hM1
 go_wp2_with fail
 refine (unless_any (gq1 H0.out.1) 96).mono ?_
 rintro _ X0 ⟨k0,cs0,rfl,hr,hb⟩
 have H1:Hid (CBo X0 g c∧Below W.heap.size W X0∧RlsL X0 _ _):=⟨H0.out.1.later hb,H0.out.2.trans (hb.mono H0.out.2.size),.cons hr .nil⟩
 clear H0 hr hb
 go_wp2_with fail
 refine (unless_any (gq2 H1.out.1) 96).mono ?_
 rintro _ X1 ⟨k1,cs1,rfl,hr,hb⟩
 have H2:Hid (CBo X1 g c∧Below W.heap.size W X1∧RlsL X1 _ _):=⟨H1.out.1.later hb,H1.out.2.1.trans (hb.mono H1.out.2.1.size),(H1.out.2.2.later hb).snoc hr⟩
 clear H1 hr hb
 go_wp2_with fail
 refine (unless_any (gq3 H2.out.1) 96).mono ?_
 rintro _ X2 ⟨k2,cs2,rfl,hr,hb⟩
 have H3:Hid (Below W.heap.size W X2∧RlsL X2 _ _):=⟨H2.out.2.1.trans (hb.mono H2.out.2.1.size),(H2.out.2.2.later hb).snoc hr⟩
 clear H2 hr hb
 obtain ⟨gl,hgl⟩:∃ gl,X2.heap.size=gl:=⟨_,rfl⟩
 have hF:=rls_of (cs:=#[.func (.func k0) #[] cs0,.func (.func k1) #[] cs1,.func (.func k2) #[] cs2]) H3.out.2 H3.out.1 hgl rfl
 have HF:Hid ((∀ i,i < ES.length→∃ k c,(X2.alloc (.cells #[.func (.func k0) #[] cs0,.func (.func k1) #[] cs1,.func (.func k2) #[] cs2] 173)).cell? ⟨gl,i,none⟩=some (.func (.func k) #[] c)∧Rul (X2.alloc (.cells #[.func (.func k0) #[] cs0,.func (.func k1) #[] cs1,.func (.func k2) #[] cs2] 173)) k c (ES.getD i 0))∧Below W.heap.size W (X2.alloc (.cells #[.func (.func k0) #[] cs0,.func (.func k1) #[] cs1,.func (.func k2) #[] cs2] 173))∧ES.length=3):=by
  rw [HE.out];exact ⟨hF.1,hF.2,rfl⟩
 clear H3 HE hF
 go_wp2_with fail
 go_ret
 refine ⟨gl,?_,HF.out.1,HF.out.2.1⟩
 rw [HF.out.2.2,← hgl]
 rfl
end Go.Proofs.YtdigofgjhaakmaaGreatDoor
