import PyProof.Rows.All
import Wide.All
import OpenK.AllK
import Wide.FinOn
import PyProof.EqAt
import PyProof.EqKinds
import PyProof.TupleCall
import KE.BitLaws
import Open.SpecLaws
import KE.OsHead
import KE.OsGo
import KE.KMinKey
import PyProof.ZipIter
import PyProof.TupleIter
import PySem.Challenge.RW_cardclaims_s01_answers
section
namespace Cc
open Vbbraf (Pos)
theorem sub_bit {x c:Nat} (h:x.testBit c = true) (j:Nat):(x - 2 ^ c).testBit j = (x.testBit j && decide (j ≠ c)):=by
 have e:x / 2 ^ c % 2 = 1:=by simpa [Nat.testBit_eq_decide_div_mod_eq] using h
 have pos:0 < 2 ^ c:=Nat.two_pow_pos c
 have e1:(x - 2 ^ c) / 2 ^ c = x / 2 ^ c - 1:=by
  have:=Nat.sub_mul_div x (2 ^ c) 1
  simpa using this
 rcases Nat.lt_trichotomy j c with hj | hj | hj
 ·obtain ⟨k,rfl⟩:∃ k,c = j + 1 + k:=⟨c - j - 1,by omega⟩
  have e2:2 ^ (j + 1 + k) = 2 ^ j * (2 * 2 ^ k):=by rw [Nat.pow_add,Nat.pow_add,Nat.pow_one,Nat.mul_assoc]
  have e3:(x - 2 ^ (j + 1 + k)) / 2 ^ j = x / 2 ^ j - 2 * 2 ^ k:=by rw [e2]; exact Nat.sub_mul_div x (2 ^ j) (2 * 2 ^ k)
  have le:2 * 2 ^ k ≤ x / 2 ^ j:=by
   rw [Nat.le_div_iff_mul_le (Nat.two_pow_pos j)]
   have h1:1 ≤ x / 2 ^ (j + 1 + k):=by
    revert e
    generalize x / 2 ^ (j + 1 + k) = q
    intro e
    omega
   rw [Nat.le_div_iff_mul_le pos,e2,Nat.one_mul,Nat.mul_comm] at h1
   exact h1
  rw [Nat.testBit_eq_decide_div_mod_eq,Nat.testBit_eq_decide_div_mod_eq,e3]
  have ne:j ≠ j + 1 + k:=by omega
  rw [decide_eq_true ne,Bool.and_true]
  congr 1
  apply propext
  omega
 ·subst hj
  rw [Nat.testBit_eq_decide_div_mod_eq,e1]
  simp
  omega
 ·obtain ⟨k,rfl⟩:∃ k,j = c + 1 + k:=⟨j - c - 1,by omega⟩
  rw [Nat.testBit_eq_decide_div_mod_eq,Nat.testBit_eq_decide_div_mod_eq]
  have e2:∀ y:Nat,y / 2 ^ (c + 1 + k) = y / 2 ^ c / 2 / 2 ^ k:=fun y=>by
   rw [Nat.pow_add,Nat.pow_add,Nat.pow_one,← Nat.div_div_eq_div_mul,← Nat.div_div_eq_div_mul]
  have e3:(x / 2 ^ c - 1) / 2 = x / 2 ^ c / 2:=by
   revert e
   generalize x / 2 ^ c = q
   intro e
   omega
  rw [e2,e2,e1,e3]
  have ne:c + 1 + k ≠ c:=by omega
  rw [decide_eq_true ne,Bool.and_true]
structure Deal where
 hands:List (List Nat)
 trump:Nat
 leader:Nat
structure MP where
 left:Nat
 seat:Nat
 count:Nat
 led:Nat
 best:Nat
 winner:Nat
def hand (d:Deal) (m:MP) (s:Nat):List Nat:=(d.hands.getD s []).filter fun c=>m.left.testBit c
def may (d:Deal) (m:MP):List Nat:=
 if m.count = 0 then hand d m m.seat
 else if ((hand d m m.seat).filter fun c=>c / 13 == m.led).isEmpty = true then hand d m m.seat else (hand d m m.seat).filter fun c=>c / 13 == m.led
def between (left leader:Nat):MP:=⟨left,leader,0,0,0,leader⟩
def bestN (d:Deal) (m:MP) (c:Nat):Nat:=if m.count = 0 ∨ Vbbraf.over d.trump m.best c = true then c else m.best
def winN (d:Deal) (m:MP) (c:Nat):Nat:=if m.count = 0 ∨ Vbbraf.over d.trump m.best c = true then m.seat else m.winner
def behind (d:Deal) (m:MP) (c:Nat):MP:=
 if m.count = 3 then between (m.left - 2 ^ c) (winN d m c)
 else ⟨m.left - 2 ^ c,(m.seat + 1) % 4,m.count + 1,if m.count = 0 then c / 13 else m.led,bestN d m c,winN d m c⟩
def won (m:MP) (side:Nat):Nat:=if m.count = 0 ∧ m.seat % 2 = side then 1 else 0
def bestOf (t:Nat):List Nat → Nat → Nat
 | [],b=>b
 | c :: r,b=>bestOf t r (if Vbbraf.over t b c = true then c else b)
theorem bestOf_snoc (t:Nat):∀ (r:List Nat) (b c:Nat),bestOf t (r ++ [c]) b = if Vbbraf.over t (bestOf t r b) c = true then c else bestOf t r b
 | [],b,c=>rfl
 | x :: r,b,c=>by
  show bestOf t (r ++ [c]) _ = _
  rw [bestOf_snoc t r]
  rfl
theorem winsAt_snoc (t:Nat):∀ (r:List Nat) (i b k c:Nat),Vbbraf.winsAt t (r ++ [c]) i b k = if Vbbraf.over t (bestOf t r b) c = true then i + r.length else Vbbraf.winsAt t r i b k
 | [],i,b,k,c=>by
  show (if _ then Vbbraf.winsAt t [] (i + 1) c i else Vbbraf.winsAt t [] (i + 1) b k) = _
  rfl
 | x :: r,i,b,k,c=>by
  show (if _ then Vbbraf.winsAt t (r ++ [c]) (i + 1) x i else Vbbraf.winsAt t (r ++ [c]) (i + 1) b k) = _
  by_cases h:Vbbraf.over t b x = true
  ·rw [if_pos h,winsAt_snoc t r]
   show _ = if Vbbraf.over t (bestOf t r (if _ then x else b)) c = true then _ else Vbbraf.winsAt t (x :: r) i b k
   rw [if_pos h]
   show _ = if _ then _ else (if _ then _ else _)
   rw [if_pos h,List.length_cons]
   congr 1
   omega
  ·rw [if_neg h,winsAt_snoc t r]
   show _ = if Vbbraf.over t (bestOf t r (if _ then x else b)) c = true then _ else Vbbraf.winsAt t (x :: r) i b k
   rw [if_neg h]
   show _ = if _ then _ else (if _ then _ else _)
   rw [if_neg h,List.length_cons]
   congr 1
   omega
structure DealOk (d:Deal):Prop where
 len:d.hands.length = 4
 lead:d.leader < 4
 trump:d.trump ≤ 4
 lt:∀ h ∈ d.hands,∀ c ∈ h,c < 52
 inc:∀ h ∈ d.hands,h.Pairwise (· < ·)
 apart:∀ (i j:Nat) (h k:List Nat),d.hands[i]? = some h → d.hands[j]? = some k → i ≠ j → ∀ c ∈ h,c ∉ k
 even:∃ n,n ≤ 4 ∧ ∀ h ∈ d.hands,h.length = n
structure Rel (d:Deal) (m:MP) (p:Pos):Prop where
 hands:p.hands = d.hands.map fun h=>h.filter fun c=>m.left.testBit c
 trump:p.trump = d.trump
 leader:p.leader < 4
 cnt:p.trick.length = m.count
 c3:m.count ≤ 3
 seat:m.seat = (p.leader + m.count) % 4
 empty:p.trick = [] → m.led = 0 ∧ m.best = 0 ∧ m.winner = m.seat
 begun:∀ c r,p.trick = c :: r → m.led = c / 13 ∧ m.best = bestOf d.trump r c ∧ m.winner = (p.leader + Vbbraf.winsAt d.trump r 1 c 0) % 4
 own:m.count ≠ 0 → m.best ∈ d.hands.getD m.winner []
 bits:∀ c,m.left.testBit c = true → ∃ h ∈ d.hands,c ∈ h
 even:∃ n,n ≤ 4 ∧ ∀ s,s < 4 → (hand d m s).length + (if (s + 4 - p.leader) % 4 < m.count then 1 else 0) = n
theorem getD_map {α β:Type} (f:List α → List β) (hf:f [] = []):∀ (l:List (List α)) (i:Nat),(l.map f).getD i [] = f (l.getD i [])
 | [],i=>by simp [hf]
 | a :: r,0=>by simp
 | a :: r,i + 1=>by
  have:=getD_map f hf r i
  simpa using this
variable {d:Deal} {m:MP} {p:Pos}
theorem Rel.handOf (R:Rel d m p) (s:Nat):Vbbraf.handOf p s = hand d m s:=by
 unfold Vbbraf.handOf hand
 rw [R.hands,getD_map _ rfl]
theorem Rel.turn (R:Rel d m p):Vbbraf.turnOf p = m.seat:=by
 unfold Vbbraf.turnOf
 rw [R.cnt,R.seat]
theorem Rel.seat4 (R:Rel d m p):m.seat < 4:=by
 rw [R.seat]
 exact Nat.mod_lt _ (by decide)
theorem Rel.win4 (R:Rel d m p):m.winner < 4:=by
 cases e:p.trick with
 | nil=>
  rw [(R.empty e).2.2]
  exact R.seat4
 | cons c r=>
  rw [(R.begun c r e).2.2]
  exact Nat.mod_lt _ (by decide)
theorem Rel.legal (R:Rel d m p):Vbbraf.legal p = may d m:=by
 unfold Vbbraf.legal may
 cases e:p.trick with
 | nil=>
  have h0:m.count = 0:=by rw [← R.cnt,e]; rfl
  rw [if_pos h0]
  show Vbbraf.handOf p (Vbbraf.turnOf p) = _
  rw [R.handOf,R.turn]
 | cons c r=>
  have h0:¬ m.count = 0:=by rw [← R.cnt,e,List.length_cons]; omega
  rw [if_neg h0]
  show (if ((Vbbraf.handOf p (Vbbraf.turnOf p)).filter fun x=>Vbbraf.suitOf x == Vbbraf.suitOf c).isEmpty = true then Vbbraf.handOf p (Vbbraf.turnOf p) else (Vbbraf.handOf p (Vbbraf.turnOf p)).filter fun x=>Vbbraf.suitOf x == Vbbraf.suitOf c) = _
  rw [R.handOf,R.turn,(R.begun c r e).1]
  rfl
theorem mem_hand {s c:Nat}:c ∈ hand d m s ↔ c ∈ d.hands.getD s [] ∧ m.left.testBit c = true:=by
 unfold hand
 rw [List.mem_filter]
theorem may_sub {c:Nat} (h:c ∈ may d m):c ∈ hand d m m.seat:=by
 unfold may at h
 split at h
 ·exact h
 ·split at h
  ·exact h
  ·exact (List.mem_filter.mp h).1
theorem may_filter:may d m = if m.count = 0 then hand d m m.seat
 else if ((hand d m m.seat).filter fun c=>c / 13 == m.led).isEmpty = true then hand d m m.seat else (hand d m m.seat).filter fun c=>c / 13 == m.led:=rfl
theorem getD_some {α:Type} {l:List (List α)} {s:Nat} (h:s < l.length):l[s]? = some (l.getD s []):=by
 simp [List.getD,h]
theorem hand_inc (O:DealOk d) {s:Nat} (hs:s < 4):(hand d m s).Pairwise (· < ·):=by
 have e:=getD_some (l:=d.hands) (s:=s) (by rw [O.len]; exact hs)
 exact (O.inc _ (List.mem_of_getElem? e)).filter _
theorem may_inc (O:DealOk d) (hs:m.seat < 4):(may d m).Pairwise (· < ·):=by
 unfold may
 split
 ·exact hand_inc O hs
 ·split
  ·exact hand_inc O hs
  ·exact (hand_inc O hs).filter _
theorem setAt_map (l:List (List Nat)) (s:Nat) (f:List Nat → List Nat) (g:List Nat → List Nat) (h:List Nat)
  (h1:∀ i x,l[i]? = some x → i ≠ s → g x = f x) (h2:∀ x,l[s]? = some x → g x = h):Vbbraf.setAt (l.map f) s h = l.map g:=by
 unfold Vbbraf.setAt
 apply List.ext_getElem?
 intro i
 rw [List.getElem?_map,List.getElem?_zipIdx,List.getElem?_map,List.getElem?_map]
 cases e:l[i]? with
 | none=>rfl
 | some x=>
  simp only [Option.map_some,Nat.zero_add]
  by_cases hi:i = s
  ·subst hi
   rw [if_pos rfl,h2 x e]
  ·rw [if_neg hi,h1 i x e hi]
theorem behind_left (c:Nat):(behind d m c).left = m.left - 2 ^ c:=by
 unfold behind
 split <;> rfl
theorem filter_without {l:List Nat} {x c:Nat} (h:x.testBit c = true):(l.filter fun e=>(x - 2 ^ c).testBit e) = Vbbraf.without c (l.filter fun e=>x.testBit e):=by
 unfold Vbbraf.without
 rw [List.filter_filter]
 apply List.filter_congr
 intro e _
 rw [sub_bit h]
 by_cases he:e = c
 ·simp [he]
 ·simp [he]
theorem filter_same {l:List Nat} {x c:Nat} (h:x.testBit c = true) (hc:c ∉ l):(l.filter fun e=>(x - 2 ^ c).testBit e) = l.filter fun e=>x.testBit e:=by
 apply List.filter_congr
 intro e he
 rw [sub_bit h]
 have:e ≠ c:=fun q=>hc (q ▸ he)
 simp [this]
theorem Rel.hands_behind (O:DealOk d) (R:Rel d m p) {c:Nat} (hc:c ∈ hand d m m.seat):
  Vbbraf.setAt p.hands (Vbbraf.turnOf p) (Vbbraf.without c (Vbbraf.handOf p (Vbbraf.turnOf p))) = d.hands.map fun h=>h.filter fun e=>(m.left - 2 ^ c).testBit e:=by
 obtain ⟨h1,h2⟩:=mem_hand.mp hc
 have es:=getD_some (l:=d.hands) (s:=m.seat) (by rw [O.len]; exact R.seat4)
 rw [R.handOf,R.turn,R.hands]
 refine setAt_map _ _ _ _ _ (fun i x hi ne=>?_) fun x hx=>?_
 ·refine filter_same h2 fun hcx=>?_
  exact O.apart i m.seat x _ hi es ne c hcx h1
 ·rw [es] at hx
  cases hx
  rw [filter_without h2]
  rfl
end Cc
end
section
namespace Cc
open Vbbraf (Pos)
variable {d:Deal} {m:MP} {p:Pos}
theorem len_without {c:Nat}:∀ {l:List Nat},l.Pairwise (· < ·) → c ∈ l → (Vbbraf.without c l).length + 1 = l.length
 | [],_,h=>by simp at h
 | a :: r,hp,h=>by
  obtain ⟨h1,h2⟩:=List.pairwise_cons.mp hp
  unfold Vbbraf.without
  by_cases e:a = c
  ·subst e
   have hn:∀ x ∈ r,(x != a) = true:=fun x hx=>by
    have:=h1 x hx
    simp
    omega
   rw [List.filter_cons,if_neg (by simp),List.filter_eq_self.mpr hn,List.length_cons]
  ·have hr:c ∈ r:=by
    rcases List.mem_cons.mp h with q | q
    ·exact absurd q.symm e
    ·exact q
   have ih:=len_without h2 hr
   unfold Vbbraf.without at ih
   rw [List.filter_cons,if_pos (by simp [e]),List.length_cons,List.length_cons,ih]
theorem hand_behind (O:DealOk d) {c s:Nat} (h4:m.seat < 4) (hc:c ∈ hand d m m.seat) (hs:s < 4):hand d (behind d m c) s = if s = m.seat then Vbbraf.without c (hand d m s) else hand d m s:=by
 obtain ⟨h1,h2⟩:=mem_hand.mp hc
 unfold hand
 rw [behind_left]
 split
 ·exact filter_without h2
 ·rename_i ne
  refine filter_same h2 fun hx=>?_
  exact O.apart s m.seat _ _ (getD_some (by rw [O.len]; exact hs)) (getD_some (by rw [O.len]; exact h4)) ne c hx h1
theorem snoc_ne {α:Type} (l:List α) (c:α):l ++ [c] ≠ []:=by simp
theorem Rel.winner (R:Rel d m p) (c:Nat):Vbbraf.winner p (p.trick ++ [c]) = winN d m c:=by
 unfold winN
 cases e:p.trick with
 | nil=>
  have h0:m.count = 0:=by rw [← R.cnt,e]; rfl
  rw [if_pos (.inl h0),R.seat,h0]
  rfl
 | cons x r=>
  have h0:m.count = r.length + 1:=by rw [← R.cnt,e]; rfl
  obtain ⟨h1,h2,h3⟩:=R.begun x r e
  show (p.leader + Vbbraf.winsAt p.trump (r ++ [c]) 1 x 0) % 4 = _
  rw [winsAt_snoc,R.trump,← h2]
  by_cases q:Vbbraf.over d.trump m.best c = true
  ·rw [if_pos q,if_pos (.inr q),R.seat,h0,Nat.add_comm 1]
  ·rw [if_neg q,if_neg (by rintro (z | z); omega; exact q z),h3]
theorem winN4 (R:Rel d m p) (c:Nat):winN d m c < 4:=by
 unfold winN
 split
 ·exact R.seat4
 ·exact R.win4
theorem Rel.own_behind (O:DealOk d) (R:Rel d m p) {c:Nat} (hc:c ∈ hand d m m.seat):bestN d m c ∈ d.hands.getD (winN d m c) []:=by
 unfold bestN winN
 by_cases q:m.count = 0 ∨ Vbbraf.over d.trump m.best c = true
 ·rw [if_pos q,if_pos q]
  exact (mem_hand.mp hc).1
 ·rw [if_neg q,if_neg q]
  exact R.own fun z=>q (.inl z)
theorem Rel.bits_behind (R:Rel d m p) {c:Nat} (hc:c ∈ hand d m m.seat):∀ x,(behind d m c).left.testBit x = true → ∃ h ∈ d.hands,x ∈ h:=fun x hx=>by
 rw [behind_left,sub_bit (mem_hand.mp hc).2] at hx
 exact R.bits x (by simp at hx; exact hx.1)
theorem Rel.len_behind (O:DealOk d) (R:Rel d m p) {c s:Nat} (hc:c ∈ hand d m m.seat) (hs:s < 4):(hand d (behind d m c) s).length + (if s = m.seat then 1 else 0) = (hand d m s).length:=by
 rw [hand_behind O R.seat4 hc hs]
 split
 ·rename_i e
  subst e
  exact len_without (hand_inc O hs) hc
 ·rfl
theorem Rel.step (O:DealOk d) (R:Rel d m p) {c:Nat} (hc:c ∈ hand d m m.seat):Rel d (behind d m c) (Vbbraf.behind p c).1:=by
 have hh:=R.hands_behind O hc
 have hlen:(p.trick ++ [c]).length = m.count + 1:=by rw [List.length_append,R.cnt]; rfl
 have hl4:=R.leader
 have h3:=R.c3
 have hst:=R.seat
 obtain ⟨n,hn4,hn⟩:=R.even
 by_cases q:m.count = 3
 ·have e:Vbbraf.behind p c = (⟨Vbbraf.setAt p.hands (Vbbraf.turnOf p) (Vbbraf.without c (Vbbraf.handOf p (Vbbraf.turnOf p))),p.trump,Vbbraf.winner p (p.trick ++ [c]),[]⟩,some (Vbbraf.winner p (p.trick ++ [c]))):=by
   show (if (p.trick ++ [c]).length = 4 then _ else _) = _
   rw [if_pos (by rw [hlen,q])]
  have e2:behind d m c = between (m.left - 2 ^ c) (winN d m c):=by
   unfold behind
   rw [if_pos q]
  have w4:=winN4 R c
  have lb:=fun s hs=>R.len_behind O (c:=c) (s:=s) hc hs
  have bb:=R.bits_behind hc
  rw [e]
  rw [e2] at lb bb ⊢
  refine ⟨hh,R.trump,?_,rfl,Nat.zero_le _,?_,fun _=>⟨rfl,rfl,rfl⟩,fun x r z=>?_,fun z=>absurd rfl z,bb,n - 1,by omega,fun s hs=>?_⟩
  ·show Vbbraf.winner p (p.trick ++ [c]) < 4
   rw [R.winner]
   exact w4
  ·show winN d m c = (Vbbraf.winner p (p.trick ++ [c]) + 0) % 4
   rw [R.winner,Nat.add_zero,Nat.mod_eq_of_lt w4]
  ·have z':([]:List Nat) = x :: r:=z
   cases z'
  ·have h1:=lb s hs
   have h2:=hn s hs
   rw [if_neg (show ¬ (_ % 4 < (between (m.left - 2 ^ c) (winN d m c)).count) from Nat.not_lt_zero _)]
   by_cases es:s = m.seat
   ·rw [if_pos es] at h1
    rw [if_neg (by omega)] at h2
    omega
   ·rw [if_neg es] at h1
    rw [if_pos (by omega)] at h2
    omega
 ·have e:Vbbraf.behind p c = (⟨Vbbraf.setAt p.hands (Vbbraf.turnOf p) (Vbbraf.without c (Vbbraf.handOf p (Vbbraf.turnOf p))),p.trump,p.leader,p.trick ++ [c]⟩,none):=by
   show (if (p.trick ++ [c]).length = 4 then _ else _) = _
   rw [if_neg (by rw [hlen]; omega)]
  have e2:behind d m c = ⟨m.left - 2 ^ c,(m.seat + 1) % 4,m.count + 1,if m.count = 0 then c / 13 else m.led,bestN d m c,winN d m c⟩:=by
   unfold behind
   rw [if_neg q]
  have lb:=fun s hs=>R.len_behind O (c:=c) (s:=s) hc hs
  have bb:=R.bits_behind hc
  rw [e]
  rw [e2] at lb bb ⊢
  refine ⟨hh,R.trump,R.leader,hlen,(by show m.count + 1 ≤ 3; omega),(by show (m.seat + 1) % 4 = (p.leader + (m.count + 1)) % 4; omega),fun z=>absurd z (snoc_ne _ _),fun x r z=>?_,fun _=>R.own_behind O hc,bb,n,hn4,fun s hs=>?_⟩
  ·have z':p.trick ++ [c] = x :: r:=z
   have hw:=R.winner c
   rw [z'] at hw
   show (if m.count = 0 then c / 13 else m.led) = x / 13 ∧ bestN d m c = bestOf d.trump r x ∧ winN d m c = (p.leader + Vbbraf.winsAt d.trump r 1 x 0) % 4
   refine ⟨?_,?_,?_⟩
   ·cases et:p.trick with
    | nil=>
     rw [et] at z'
     cases z'
     rw [if_pos (by rw [← R.cnt,et]; rfl)]
    | cons y t=>
     rw [et] at z'
     cases z'
     rw [if_neg (by rw [← R.cnt,et,List.length_cons]; omega)]
     exact (R.begun x t et).1
   ·unfold bestN
    cases et:p.trick with
    | nil=>
     rw [et] at z'
     cases z'
     rw [if_pos (.inl (by rw [← R.cnt,et]; rfl))]
     rfl
    | cons y t=>
     rw [et] at z'
     cases z'
     obtain ⟨_,h2,_⟩:=R.begun x t et
     have h0:¬ m.count = 0:=by rw [← R.cnt,et,List.length_cons]; omega
     show _ = bestOf d.trump (t ++ [c]) x
     rw [bestOf_snoc,← h2]
     by_cases ov:Vbbraf.over d.trump m.best c = true
     ·rw [if_pos ov,if_pos (.inr ov)]
     ·rw [if_neg ov,if_neg (by rintro (w | w); exact h0 w; exact ov w)]
   ·rw [← hw,← R.trump]
    rfl
  ·have h1:=lb s hs
   have h2:=hn s hs
   show _ + (if (s + 4 - p.leader) % 4 < m.count + 1 then 1 else 0) = n
   by_cases es:s = m.seat
   ·rw [if_pos es] at h1
    rw [if_neg (show ¬ (s + 4 - p.leader) % 4 < m.count by omega)] at h2
    rw [if_pos (show (s + 4 - p.leader) % 4 < m.count + 1 by omega)]
    omega
   ·rw [if_neg es] at h1
    by_cases lt:(s + 4 - p.leader) % 4 < m.count
    ·rw [if_pos lt] at h2
     rw [if_pos (show (s + 4 - p.leader) % 4 < m.count + 1 by omega)]
     omega
    ·rw [if_neg lt] at h2
     rw [if_neg (show ¬ (s + 4 - p.leader) % 4 < m.count + 1 by omega)]
     omega
theorem Rel.gained (R:Rel d m p) (c side:Nat):Vbbrag.gainedBy side (Vbbraf.behind p c).2 = won (behind d m c) side:=by
 have hlen:(p.trick ++ [c]).length = m.count + 1:=by rw [List.length_append,R.cnt]; rfl
 by_cases q:m.count = 3
 ·have e:(Vbbraf.behind p c).2 = some (Vbbraf.winner p (p.trick ++ [c])):=by
   show (if (p.trick ++ [c]).length = 4 then _ else _:Pos × Option Nat).2 = _
   rw [if_pos (by rw [hlen,q])]
  rw [e,R.winner]
  unfold won behind
  rw [if_pos q]
  show (if winN d m c % 2 = side then 1 else 0) = if (0 = 0 ∧ winN d m c % 2 = side) then 1 else 0
  simp
 ·have e:(Vbbraf.behind p c).2 = none:=by
   show (if (p.trick ++ [c]).length = 4 then _ else _:Pos × Option Nat).2 = _
   rw [if_neg (by rw [hlen]; omega)]
  rw [e]
  unfold won behind
  rw [if_neg q]
  show 0 = if (m.count + 1 = 0 ∧ _) then 1 else 0
  rw [if_neg (by omega)]
end Cc
end
section
namespace Cc
open Vbbraf (Pos)
open Vbbrag (Words leastOf)
variable {d:Deal} {m:MP} {p:Pos}
theorem leastOf_congr {f g:Nat → Nat}:∀ {l:List Nat},(∀ c ∈ l,f c = g c) → leastOf f l = leastOf g l
 | [],_=>rfl
 | [c],h=>h c (by simp)
 | a :: b :: r,h=>by
  show (if f a = 0 then 0 else min (f a) (leastOf f (b :: r))) = (if g a = 0 then 0 else min (g a) (leastOf g (b :: r)))
  rw [h a (by simp),leastOf_congr (l:=b :: r) fun c hc=>h c (by simp at hc ⊢; right; exact hc)]
theorem leastOf_cons (f:Nat → Nat) (a:Nat) {r:List Nat} (h:r ≠ []):leastOf f (a :: r) = min (f a) (leastOf f r):=by
 cases r with
 | nil=>exact absurd rfl h
 | cons b r=>
  show (if f a = 0 then 0 else min (f a) (leastOf f (b :: r))) = _
  split
  ·rename_i e
   rw [e,Nat.zero_min]
  ·rfl
theorem leastOf_snoc (f:Nat → Nat) (c:Nat):∀ {l:List Nat},l ≠ [] → leastOf f (l ++ [c]) = min (leastOf f l) (f c)
 | [],h=>absurd rfl h
 | [a],_=>leastOf_cons f a (by simp)
 | a :: b :: r,_=>by
  show leastOf f (a :: (b :: r ++ [c])) = _
  rw [leastOf_cons f a (by simp),leastOf_snoc f c (l:=b :: r) (by simp),leastOf_cons f a (by simp),Nat.min_assoc]
theorem leastOf_app (f:Nat → Nat) {l:List Nat} (hl:l ≠ []) (h:leastOf f l = 0):∀ r:List Nat,leastOf f (l ++ r) = 0
 | []=>by rw [List.append_nil]; exact h
 | c :: r=>by
  have e:l ++ c :: r = (l ++ [c]) ++ r:=by simp
  rw [e]
  exact leastOf_app f (by simp) (by rw [leastOf_snoc f c hl,h,Nat.zero_min]) r
theorem leastOf_le (f:Nat → Nat):∀ {l:List Nat} {c:Nat},c ∈ l → leastOf f l ≤ f c
 | [],_,h=>by simp at h
 | [a],c,h=>by
  have:c = a:=by simpa using h
  rw [this]
  exact Nat.le_refl _
 | a :: b :: r,c,h=>by
  rw [leastOf_cons f a (by simp)]
  rcases List.mem_cons.mp h with q | q
  ·rw [q]
   exact Nat.min_le_left _ _
  ·exact Nat.le_trans (Nat.min_le_right _ _) (leastOf_le f q)
theorem leastOf_mem (f:Nat → Nat):∀ {l:List Nat},l ≠ [] → ∃ c ∈ l,f c = leastOf f l
 | [],h=>absurd rfl h
 | [a],_=>⟨a,by simp,rfl⟩
 | a :: b :: r,_=>by
  rw [leastOf_cons f a (by simp)]
  obtain ⟨c,hc,e⟩:=leastOf_mem f (l:=b :: r) (by simp)
  by_cases h:f a ≤ leastOf f (b :: r)
  ·exact ⟨a,by simp,by rw [Nat.min_eq_left h]⟩
  ·exact ⟨c,by simp at hc ⊢; right; exact hc,by rw [Nat.min_eq_right (by omega)]; exact e⟩
def first (f:Nat → Nat) (l:List Nat):Option Nat:=l.find? fun c=>f c == leastOf f l
theorem first_some {f:Nat → Nat} {l:List Nat} (h:l ≠ []):∃ c,first f l = some c ∧ c ∈ l ∧ f c = leastOf f l:=by
 unfold first
 cases e:l.find? fun c=>f c == leastOf f l with
 | none=>
  obtain ⟨c,hc,ec⟩:=leastOf_mem f h
  have:=List.find?_eq_none.mp e c hc
  simp [ec] at this
 | some c=>
  have h1:=List.find?_some e
  exact ⟨c,rfl,List.mem_of_find?_eq_some e,by simpa using h1⟩
def mlets (w:Words) (d:Deal) (m:MP):List Nat:=
 if m.seat % 2 = w.side then (match w.cards.find? fun c=>(may d m).contains c with
  | some c=>[c]
  | none=>Vbbrag.pare w.way (may d m))
 else may d m
theorem Rel.lets (R:Rel d m p) (w:Words):Vbbrag.lets w p = mlets w d m:=by
 unfold Vbbrag.lets mlets
 rw [R.turn,R.legal]
 rfl
theorem pare_sub {way:Nat} {l:List Nat} {c:Nat} (h:c ∈ Vbbrag.pare way l):c ∈ l:=by
 unfold Vbbrag.pare at h
 split at h
 ·exact (List.mem_filter.mp h).1
 ·split at h
  ·exact (List.mem_filter.mp h).1
  ·exact h
theorem lets_sub {w:Words} {c:Nat} (h:c ∈ mlets w d m):c ∈ may d m:=by
 unfold mlets at h
 split at h
 ·split at h
  ·rename_i x e
   have:=List.find?_some e
   have hx:x ∈ may d m:=by simpa using this
   have:c = x:=by simpa using h
   rw [this]
   exact hx
  ·exact pare_sub h
 ·exact h
def mheld (d:Deal) (m:MP):Nat:=Vbbraf.total (d.hands.map fun h=>(h.filter fun c=>m.left.testBit c).length)
theorem Rel.held (R:Rel d m p):Vbbraf.held p = mheld d m:=by
 unfold Vbbraf.held mheld
 rw [R.hands,List.map_map]
 rfl
theorem four (O:DealOk d):∃ a b c e,d.hands = [a,b,c,e]:=by
 have h:=O.len
 match q:d.hands,h with
 | [a,b,c,e],_=>exact ⟨a,b,c,e,rfl⟩
theorem held_sum (O:DealOk d) (m:MP):mheld d m = (hand d m 0).length + (hand d m 1).length + (hand d m 2).length + (hand d m 3).length:=by
 obtain ⟨a,b,c,e,q⟩:=four O
 unfold mheld hand Vbbraf.total
 rw [q]
 simp
theorem Rel.lens (O:DealOk d) (R:Rel d m p):∃ n,n ≤ 4 ∧ (hand d m m.seat).length = n ∧ mheld d m + m.count = 4 * n ∧ (m.count ≠ 0 → 0 < n) ∧ ∀ s,s < 4 → (hand d m s).length ≤ n:=by
 obtain ⟨n,h4,hn⟩:=R.even
 have hl:=R.leader
 have hs:=R.seat
 have h3:=R.c3
 have s4:=R.seat4
 have h0:=hn 0 (by decide)
 have h1:=hn 1 (by decide)
 have h2:=hn 2 (by decide)
 have h3':=hn 3 (by decide)
 have hh:=held_sum O m
 have hq:=hn m.seat s4
 rw [if_neg (by omega)] at hq
 refine ⟨n,h4,hq,?_,fun hc=>?_,fun s hs4=>?_⟩
 ·have key:∀ a b c e:Nat,(if (0 + 4 - p.leader) % 4 < m.count then 1 else 0) = a → (if (1 + 4 - p.leader) % 4 < m.count then 1 else 0) = b → (if (2 + 4 - p.leader) % 4 < m.count then 1 else 0) = c →
    (if (3 + 4 - p.leader) % 4 < m.count then 1 else 0) = e → a + b + c + e = m.count:=by
   intro a b c e ha hb hc he
   have:p.leader = 0 ∨ p.leader = 1 ∨ p.leader = 2 ∨ p.leader = 3:=by omega
   have:m.count = 0 ∨ m.count = 1 ∨ m.count = 2 ∨ m.count = 3:=by omega
   rcases ‹p.leader = 0 ∨ _› with q | q | q | q <;> rcases this with r | r | r | r <;> rw [q,r] at ha hb hc he <;> simp at ha hb hc he <;> omega
  have:=key _ _ _ _ rfl rfl rfl rfl
  omega
 ·have hq:=hn p.leader hl
  rw [if_pos (by omega)] at hq
  omega
 ·have:=hn s hs4
  omega
theorem Rel.toCome (O:DealOk d) (R:Rel d m p):Vbbraf.toCome p = (hand d m m.seat).length:=by
 obtain ⟨n,_,h1,h2,_,_⟩:=R.lens O
 unfold Vbbraf.toCome
 rw [R.held,R.cnt,h1]
 omega
theorem left_zero (O:DealOk d) (R:Rel d m p):m.left = 0 ↔ mheld d m = 0:=by
 constructor
 ·intro h
  rw [held_sum O]
  unfold hand
  rw [h]
  simp
 ·intro h
  rw [held_sum O] at h
  apply Nat.eq_of_testBit_eq
  intro i
  rw [Nat.zero_testBit]
  cases e:m.left.testBit i with
  | false=>rfl
  | true=>
   obtain ⟨x,hx,hi⟩:=R.bits i e
   obtain ⟨s,hs,es⟩:=List.getElem_of_mem hx
   have s4:s < 4:=by rw [← O.len]; exact hs
   have:i ∈ hand d m s:=mem_hand.mpr ⟨by simp [List.getD,hs,es,hi],e⟩
   have l1:=List.length_pos_of_mem this
   have:s = 0 ∨ s = 1 ∨ s = 2 ∨ s = 3:=by omega
   rcases this with q | q | q | q <;> rw [q] at l1 <;> omega
theorem Rel.held_behind (O:DealOk d) (R:Rel d m p) {c:Nat} (hc:c ∈ hand d m m.seat):mheld d (behind d m c) + 1 = mheld d m:=by
 have s4:=R.seat4
 have h:=fun s hs=>R.len_behind O (c:=c) (s:=s) hc hs
 have h0:=h 0 (by decide)
 have h1:=h 1 (by decide)
 have h2:=h 2 (by decide)
 have h3:=h 3 (by decide)
 rw [held_sum O,held_sum O]
 have:m.seat = 0 ∨ m.seat = 1 ∨ m.seat = 2 ∨ m.seat = 3:=by omega
 rcases this with q | q | q | q <;> rw [q] at h0 h1 h2 h3 <;> simp at h0 h1 h2 h3 <;> omega
theorem Rel.hand_ne (O:DealOk d) (R:Rel d m p) (h:mheld d m ≠ 0):hand d m m.seat ≠ []:=by
 obtain ⟨n,_,h1,h2,_,_⟩:=R.lens O
 have h3:=R.c3
 intro e
 rw [e] at h1
 have:n = 0:=by simpa using h1.symm
 omega
theorem Rel.may_ne (O:DealOk d) (R:Rel d m p) (h:mheld d m ≠ 0):may d m ≠ []:=by
 have:=R.hand_ne O h
 unfold may
 split
 ·exact this
 ·split
  ·exact this
  ·rename_i q
   intro e
   exact q (by rw [e]; rfl)
theorem pare_ne {way:Nat} {l:List Nat} (h:l ≠ []):Vbbrag.pare way l ≠ []:=by
 have h1:∃ c ∈ l,∀ x ∈ l,x ≤ c:=by
  obtain ⟨c,hc,e⟩:=leastOf_mem (fun c=>(l.foldl max 0) - c) h
  have bound:∀ (l:List Nat) (a x:Nat),x ∈ l → x ≤ l.foldl max a:=by
   intro l
   induction l with
   | nil=>intro a x hx; simp at hx
   | cons b r ih=>
    intro a x hx
    have mono:∀ (r:List Nat) (a:Nat),a ≤ r.foldl max a:=by
     intro r
     induction r with
     | nil=>intro a; exact Nat.le_refl _
     | cons b r ih=>intro a; exact Nat.le_trans (Nat.le_max_left a b) (ih _)
    rcases List.mem_cons.mp hx with q | q
    ·rw [q]
     exact Nat.le_trans (Nat.le_max_right a b) (mono r _)
    ·exact ih _ x q
  refine ⟨c,hc,fun x hx=>?_⟩
  have b1:=bound l 0 x hx
  have b2:=bound l 0 c hc
  have b3:leastOf (fun c=>(l.foldl max 0) - c) l ≤ l.foldl max 0 - x:=leastOf_le (fun c=>(l.foldl max 0) - c) hx
  have e:l.foldl max 0 - c = leastOf (fun c=>(l.foldl max 0) - c) l:=e
  omega
 have h2:∃ c ∈ l,∀ x ∈ l,c ≤ x:=by
  obtain ⟨c,hc,e⟩:=leastOf_mem (fun c=>c) h
  refine ⟨c,hc,fun x hx=>?_⟩
  have b3:leastOf (fun c=>c) l ≤ x:=leastOf_le (fun c=>c) hx
  have e:c = leastOf (fun c=>c) l:=e
  omega
 unfold Vbbrag.pare
 split
 ·obtain ⟨c,hc,hx⟩:=h1
  intro e
  have:=List.filter_eq_nil_iff.mp e c hc
  apply this
  simp only [Bool.not_eq_true',List.any_eq_false,Bool.and_eq_true,decide_eq_true_eq,not_and]
  intro x hxl _
  have:=hx x hxl
  omega
 ·split
  ·obtain ⟨c,hc,hx⟩:=h2
   intro e
   have:=List.filter_eq_nil_iff.mp e c hc
   apply this
   simp only [Bool.not_eq_true',List.any_eq_false,Bool.and_eq_true,decide_eq_true_eq,not_and]
   intro x hxl _
   have:=hx x hxl
   omega
  ·exact h
theorem Rel.lets_ne (O:DealOk d) (R:Rel d m p) (w:Words) (h:mheld d m ≠ 0):mlets w d m ≠ []:=by
 unfold mlets
 split
 ·split
  ·simp
  ·exact pare_ne (R.may_ne O h)
 ·exact R.may_ne O h
def jIn (w:Words) (d:Deal):Nat → MP → Nat
 | 0,_=>0
 | n + 1,m=>leastOf (fun c=>won (behind d m c) w.side + jIn w d n (behind d m c)) (mlets w d m)
theorem Rel.judgedIn (O:DealOk d) (w:Words):∀ (n:Nat) {m:MP} {p:Pos},Rel d m p → Vbbrag.judgedIn w n p = jIn w d n m
 | 0,_,_,_=>rfl
 | n + 1,m,p,R=>by
  show leastOf (fun c=>Vbbrag.gainedBy w.side (Vbbraf.behind p c).2 + Vbbrag.judgedIn w n (Vbbraf.behind p c).1) (Vbbrag.lets w p) = _
  rw [R.lets]
  refine leastOf_congr fun c hc=>?_
  rw [R.gained,Rel.judgedIn O w n (R.step O (may_sub (lets_sub hc)))]
def J (w:Words) (d:Deal) (m:MP):Nat:=jIn w d (mheld d m) m
theorem Rel.judged (O:DealOk d) (R:Rel d m p) (w:Words):Vbbrag.judged w p = J w d m:=by
 unfold Vbbrag.judged J
 rw [R.held,R.judgedIn O]
theorem J_zero {w:Words} (h:mheld d m = 0):J w d m = 0:=by
 unfold J
 rw [h]
 rfl
def Jby (w:Words) (d:Deal) (m:MP) (c:Nat):Nat:=won (behind d m c) w.side + J w d (behind d m c)
theorem Rel.J_step (O:DealOk d) (R:Rel d m p) (w:Words) (h:mheld d m ≠ 0):J w d m = leastOf (Jby w d m) (mlets w d m):=by
 obtain ⟨n,e⟩:∃ n,mheld d m = n + 1:=⟨mheld d m - 1,by omega⟩
 show jIn w d (mheld d m) m = _
 rw [e]
 show leastOf _ _ = _
 refine leastOf_congr fun c hc=>?_
 have:=R.held_behind O (may_sub (lets_sub hc))
 unfold Jby J
 rw [show mheld d (behind d m c) = n by omega]
def wIn (w:Words) (d:Deal):Nat → MP → List Nat
 | 0,_=>[]
 | n + 1,m=>match first (Jby w d m) (mlets w d m) with
  | none=>[]
  | some c=>c :: wIn w d n (behind d m c)
theorem find_congr {α:Type} {f g:α → Bool}:∀ {l:List α},(∀ c ∈ l,f c = g c) → l.find? f = l.find? g
 | [],_=>rfl
 | a :: r,h=>by
  rw [List.find?_cons,List.find?_cons,h a (by simp),find_congr fun c hc=>h c (by simp [hc])]
theorem Rel.worstIn (O:DealOk d) (w:Words):∀ (n:Nat) {m:MP} {p:Pos},Rel d m p → mheld d m = n → Vbbrag.worstIn w n p = wIn w d n m
 | 0,_,_,_,_=>rfl
 | n + 1,m,p,R,e=>by
  have e2:((Vbbrag.lets w p).find? fun c=>(let x:=Vbbraf.behind p c; Vbbrag.gainedBy w.side x.2 + Vbbrag.judged w x.1 == Vbbrag.judged w p)) = first (Jby w d m) (mlets w d m):=by
   unfold first
   rw [R.lets,← R.J_step O w (by omega)]
   refine find_congr fun c hc=>?_
   show (Vbbrag.gainedBy w.side (Vbbraf.behind p c).2 + Vbbrag.judged w (Vbbraf.behind p c).1 == Vbbrag.judged w p) = _
   rw [R.gained,(R.step O (may_sub (lets_sub hc))).judged O,R.judged O]
   rfl
  unfold Vbbrag.worstIn wIn
  rw [e2]
  have ne:=R.lets_ne O w (by omega)
  obtain ⟨c,hc,hm,_⟩:=first_some (f:=Jby w d m) ne
  rw [hc]
  show c :: Vbbrag.worstIn w n (Vbbraf.behind p c).1 = c :: wIn w d n (behind d m c)
  have hh:=may_sub (lets_sub hm)
  have:=R.held_behind O hh
  rw [Rel.worstIn O w n (R.step O hh) (by omega)]
def W (w:Words) (d:Deal) (m:MP):List Nat:=wIn w d (mheld d m) m
theorem Rel.worst (O:DealOk d) (R:Rel d m p) (w:Words):Vbbrag.worst w p = W w d m:=by
 unfold Vbbrag.worst W
 rw [R.held,R.worstIn O w _ rfl]
theorem key_inj (O:DealOk d) {m':MP} {p':Pos} (R:Rel d m p) (R':Rel d m' p') (h1:m.left = m'.left) (h2:m.seat = m'.seat) (h3:m.count = m'.count) (h4:m.led = m'.led) (h5:m.best = m'.best):m = m':=by
 have w4:=R.win4
 have w4':=R'.win4
 have hw:m.winner = m'.winner:=by
  by_cases q:m.count = 0
  ·have t:p.trick = []:=List.eq_nil_of_length_eq_zero (by rw [R.cnt,q])
   have t':p'.trick = []:=List.eq_nil_of_length_eq_zero (by rw [R'.cnt,← h3,q])
   rw [(R.empty t).2.2,(R'.empty t').2.2,h2]
  ·have o:=R.own q
   have o':=R'.own (by rw [← h3]; exact q)
   rw [← h5] at o'
   by_cases e:m.winner = m'.winner
   ·exact e
   ·exact absurd o' (O.apart _ _ _ _ (getD_some (by rw [O.len]; exact w4)) (getD_some (by rw [O.len]; exact w4')) e _ o)
 cases m
 cases m'
 simp only at h1 h2 h3 h4 h5 hw
 rw [h1,h2,h3,h4,h5,hw]
theorem pare2_eq (l:List Nat):Vbbrag.pare 2 l = l.filter fun c=>!l.any fun x=>x / 13 == c / 13 && decide (x < c):=rfl
theorem pare1_eq (l:List Nat):Vbbrag.pare 1 l = l.filter fun c=>!l.any fun x=>x / 13 == c / 13 && decide (c < x):=rfl
theorem any_congr' {α:Type} {f g:α → Bool}:∀ {l:List α},(∀ c ∈ l,f c = g c) → l.any f = l.any g
 | [],_=>rfl
 | a :: r,h=>by
  rw [List.any_cons,List.any_cons,h a (by simp),any_congr' fun c hc=>h c (by simp [hc])]
theorem pare2_any {l:List Nat} (s:Nat):((Vbbrag.pare 2 l).any fun x=>x / 13 == s) = l.any fun x=>x / 13 == s:=by
 rw [Bool.eq_iff_iff,List.any_eq_true,List.any_eq_true]
 constructor
 ·rintro ⟨x,hx,e⟩
  exact ⟨x,pare_sub hx,e⟩
 ·rintro ⟨x,hx,e⟩
  have h:(l.filter fun y=>y / 13 == s) ≠ []:=fun z=>by
   have:=List.filter_eq_nil_iff.mp z x hx
   exact this e
  obtain ⟨c,hc,ec⟩:=leastOf_mem (fun c=>c) h
  have hc':=List.mem_filter.mp hc
  refine ⟨c,?_,hc'.2⟩
  rw [pare2_eq]
  refine List.mem_filter.mpr ⟨hc'.1,?_⟩
  simp only [Bool.not_eq_true',List.any_eq_false,Bool.and_eq_true,decide_eq_true_eq,not_and,beq_iff_eq]
  intro y hy ey
  have es:c / 13 = s:=by simpa using hc'.2
  have:leastOf (fun c=>c) (l.filter fun y=>y / 13 == s) ≤ y:=leastOf_le (fun c=>c) (List.mem_filter.mpr ⟨hy,by simp [ey,es]⟩)
  have ec:c = leastOf (fun c=>c) (l.filter fun y=>y / 13 == s):=ec
  omega
theorem pare2_snoc {l:List Nat} {c:Nat} (h:∀ x ∈ l,x < c):Vbbrag.pare 2 (l ++ [c]) = if ((Vbbrag.pare 2 l).any fun x=>x / 13 == c / 13) = true then Vbbrag.pare 2 l else Vbbrag.pare 2 l ++ [c]:=by
 rw [pare2_any,pare2_eq (l ++ [c]),List.filter_append]
 have e1:(l.filter fun x=>!(l ++ [c]).any fun y=>y / 13 == x / 13 && decide (y < x)) = Vbbrag.pare 2 l:=by
  rw [pare2_eq]
  refine List.filter_congr fun x hx=>?_
  have:=h x hx
  rw [List.any_append,List.any_cons,List.any_nil,decide_eq_false (show ¬ c < x by omega),Bool.and_false,Bool.false_or,Bool.or_false]
 have e2:((l ++ [c]).any fun y=>y / 13 == c / 13 && decide (y < c)) = l.any fun y=>y / 13 == c / 13:=by
  rw [List.any_append,List.any_cons,List.any_nil,decide_eq_false (show ¬ c < c by omega),Bool.and_false,Bool.false_or,Bool.or_false]
  refine any_congr' fun y hy=>?_
  rw [decide_eq_true (h y hy),Bool.and_true]
 rw [e1,List.filter_cons,e2,List.filter_nil]
 cases q:l.any fun y=>y / 13 == c / 13 with
 | true=>simp
 | false=>simp
theorem pare1_suits {l:List Nat} (h:l.Pairwise (· < ·)):(Vbbrag.pare 1 l).Pairwise fun a b=>a / 13 < b / 13:=by
 have h1:(Vbbrag.pare 1 l).Pairwise (· < ·):=by
  rw [pare1_eq]
  exact h.filter _
 refine List.Pairwise.imp_of_mem (fun {a b} ha hb lt=>?_) h1
 have hb':=pare_sub hb
 rw [pare1_eq] at ha
 have ha':=(List.mem_filter.mp ha).2
 simp only [Bool.not_eq_true',List.any_eq_false,Bool.and_eq_true,decide_eq_true_eq,not_and,beq_iff_eq] at ha'
 have:=ha' b hb'
 have lt:a < b:=lt
 have le:a / 13 ≤ b / 13:=Nat.div_le_div_right (Nat.le_of_lt lt)
 by_cases q:b / 13 = a / 13
 ·exact absurd lt (this q)
 ·omega
theorem put_last {c:Nat}:∀ {q:List Nat},(q.Pairwise fun a b=>a / 13 < b / 13) → (∀ x ∈ q,x / 13 ≤ c / 13) →
  (q.filter fun x=>!(x / 13 == c / 13)) ++ [c] = if (q.any fun x=>x / 13 == c / 13) = true then q.map (fun x=>if x / 13 = c / 13 then c else x) else q ++ [c]
 | [],_,_=>rfl
 | a :: r,h,hx=>by
  obtain ⟨h1,h2⟩:=List.pairwise_cons.mp h
  by_cases e:a / 13 = c / 13
  ·have hr:r = []:=by
    cases r with
    | nil=>rfl
    | cons b r=>
     have:=h1 b (by simp)
     have:=hx b (by simp)
     omega
   subst hr
   simp [e]
  ·have ih:=put_last (c:=c) h2 fun x hr=>hx x (by simp [hr])
   have eb:(a / 13 == c / 13) = false:=by simpa using e
   rw [List.filter_cons,eb,Bool.not_false,if_pos rfl,List.any_cons,eb,Bool.false_or,List.map_cons,if_neg e,List.cons_append,ih]
   split <;> rfl
theorem pare1_snoc {l:List Nat} {c:Nat} (hp:l.Pairwise (· < ·)) (h:∀ x ∈ l,x < c):Vbbrag.pare 1 (l ++ [c]) = if ((Vbbrag.pare 1 l).any fun x=>x / 13 == c / 13) = true then (Vbbrag.pare 1 l).map (fun x=>if x / 13 = c / 13 then c else x) else Vbbrag.pare 1 l ++ [c]:=by
 rw [← put_last (pare1_suits hp) fun x hx=>Nat.div_le_div_right (Nat.le_of_lt (h x (pare_sub hx)))]
 rw [pare1_eq (l ++ [c]),List.filter_append,pare1_eq l,List.filter_filter]
 congr 1
 ·refine List.filter_congr fun x hx=>?_
  have lt:=h x hx
  rw [List.any_append,List.any_cons,List.any_nil,decide_eq_true lt,Bool.and_true,Bool.or_false,Bool.not_or,Bool.and_comm]
  congr 2
  rw [Bool.eq_iff_iff,beq_iff_eq,beq_iff_eq]
  exact eq_comm
 ·have:(l ++ [c]).any (fun x=>x / 13 == c / 13 && decide (c < x)) = false:=by
   rw [List.any_eq_false]
   intro x hx
   have:¬ c < x:=by
    rcases List.mem_append.mp hx with q | q
    ·have:=h x q
     omega
    ·have:x = c:=by simpa using q
     omega
   simp [this]
  rw [List.filter_cons,this]
  rfl
end Cc
end
section
namespace Cc
open Vbbraf (Pos)
open Vbbrag (Words leastOf)
variable {d:Deal} {m:MP} {p:Pos}
def mostOf (f:Nat → Nat):List Nat → Nat
 | []=>0
 | c :: r=>max (f c) (mostOf f r)
theorem most_eq {f:Nat → Nat} {top:Nat}:∀ {l:List Nat},(∀ c ∈ l,f c ≤ top) → Vbbraf.most f top l = mostOf f l
 | [],_=>rfl
 | c :: r,h=>by
  show (if top ≤ f c then f c else max (f c) (Vbbraf.most f top r)) = max (f c) (mostOf f r)
  have ih:=most_eq (l:=r) fun x hx=>h x (by simp [hx])
  have hb:∀ {l:List Nat},(∀ c ∈ l,f c ≤ top) → mostOf f l ≤ top:=by
   intro l
   induction l with
   | nil=>intro _; exact Nat.zero_le _
   | cons a r ih=>
    intro h
    exact Nat.max_le.mpr ⟨h a (by simp),ih fun x hx=>h x (by simp [hx])⟩
  have b2:=hb (l:=r) fun x hx=>h x (by simp [hx])
  have b1:=h c (by simp)
  split
  ·omega
  ·rw [ih]
theorem mostOf_congr {f g:Nat → Nat}:∀ {l:List Nat},(∀ c ∈ l,f c = g c) → mostOf f l = mostOf g l
 | [],_=>rfl
 | a :: r,h=>by
  show max (f a) (mostOf f r) = max (g a) (mostOf g r)
  rw [h a (by simp),mostOf_congr fun c hc=>h c (by simp [hc])]
theorem mostOf_le {f:Nat → Nat} {t:Nat}:∀ {l:List Nat},(∀ c ∈ l,f c ≤ t) → mostOf f l ≤ t
 | [],_=>Nat.zero_le _
 | a :: r,h=>Nat.max_le.mpr ⟨h a (by simp),mostOf_le fun c hc=>h c (by simp [hc])⟩
theorem le_mostOf {f:Nat → Nat}:∀ {l:List Nat} {c:Nat},c ∈ l → f c ≤ mostOf f l
 | [],_,h=>by simp at h
 | a :: r,c,h=>by
  rcases List.mem_cons.mp h with q | q
  ·rw [q]
   exact Nat.le_max_left _ _
  ·exact Nat.le_trans (le_mostOf q) (Nat.le_max_right _ _)
theorem mostOf_mem {f:Nat → Nat}:∀ {l:List Nat},l ≠ [] → ∃ c ∈ l,f c = mostOf f l
 | [],h=>absurd rfl h
 | [a],_=>⟨a,by simp,by show f a = max (f a) 0; omega⟩
 | a :: b :: r,_=>by
  obtain ⟨c,hc,e⟩:=mostOf_mem (f:=f) (l:=b :: r) (by simp)
  by_cases h:mostOf f (b :: r) ≤ f a
  ·exact ⟨a,by simp,(Nat.max_eq_left h).symm⟩
  ·exact ⟨c,by simp at hc ⊢; right; exact hc,by rw [e]; exact (Nat.max_eq_right (by omega)).symm⟩
theorem mostOf_snoc (f:Nat → Nat) (c:Nat):∀ l:List Nat,mostOf f (l ++ [c]) = max (mostOf f l) (f c)
 | []=>Nat.max_comm _ _
 | a :: r=>by
  show max (f a) (mostOf f (r ++ [c])) = max (max (f a) (mostOf f r)) (f c)
  rw [mostOf_snoc f c r,Nat.max_assoc]
theorem least_eq (f:Nat → Nat):∀ l:List Nat,Vbbraf.least f l = leastOf f l
 | []=>rfl
 | [_]=>rfl
 | a :: b :: r=>by
  show (if f a = 0 then 0 else min (f a) (Vbbraf.least f (b :: r))) = (if f a = 0 then 0 else min (f a) (leastOf f (b :: r)))
  rw [least_eq f (b :: r)]
def toCome (d:Deal) (m:MP):Nat:=(mheld d m + m.count) / 4
theorem Rel.come (R:Rel d m p):Vbbraf.toCome p = Cc.toCome d m:=by
 unfold Vbbraf.toCome Cc.toCome
 rw [R.held,R.cnt]
theorem Rel.come_behind (O:DealOk d) (R:Rel d m p) {c:Nat} (hc:c ∈ hand d m m.seat):Cc.toCome d (behind d m c) + (if m.count = 3 then 1 else 0) = Cc.toCome d m:=by
 have h:=R.held_behind O hc
 unfold Cc.toCome
 by_cases q:m.count = 3
 ·have e:(behind d m c).count = 0:=by
   unfold behind
   rw [if_pos q]
   rfl
  rw [if_pos q,e]
  omega
 ·have e:(behind d m c).count = m.count + 1:=by
   unfold behind
   rw [if_neg q]
  rw [if_neg q,e]
  omega
theorem won_le {c side:Nat}:won (behind d m c) side ≤ if m.count = 3 then 1 else 0:=by
 unfold won behind
 by_cases q:m.count = 3
 ·rw [if_pos q,if_pos q]
  split <;> omega
 ·rw [if_neg q,if_neg q,if_neg (by rintro ⟨z,_⟩; exact absurd z (by simp))]
  exact Nat.le_refl _
theorem won_two {c:Nat}:won (behind d m c) 0 + won (behind d m c) 1 = if m.count = 3 then 1 else 0:=by
 unfold won behind
 by_cases q:m.count = 3
 ·rw [if_pos q,if_pos q]
  show (if (0 = 0 ∧ winN d m c % 2 = 0) then 1 else 0) + (if (0 = 0 ∧ winN d m c % 2 = 1) then 1 else 0) = 1
  have:winN d m c % 2 = 0 ∨ winN d m c % 2 = 1:=by omega
  rcases this with h | h <;> simp [h]
 ·rw [if_neg q,if_neg q,if_neg (by rintro ⟨z,_⟩; exact absurd z (by simp)),if_neg (by rintro ⟨z,_⟩; exact absurd z (by simp))]
def vIn (d:Deal):Nat → MP → Nat
 | 0,_=>0
 | n + 1,m=>if m.seat % 2 = 0 then mostOf (fun c=>won (behind d m c) 0 + vIn d n (behind d m c)) (may d m)
  else leastOf (fun c=>won (behind d m c) 0 + vIn d n (behind d m c)) (may d m)
theorem gained_by (x:Option Nat):Vbbraf.gained x = Vbbrag.gainedBy 0 x:=by
 cases x <;> rfl
theorem Rel.vIn_le (O:DealOk d):∀ (n:Nat) {m:MP} {p:Pos},Rel d m p → vIn d n m ≤ Cc.toCome d m
 | 0,_,_,_=>Nat.zero_le _
 | n + 1,m,p,R=>by
  have hf:∀ c ∈ may d m,won (behind d m c) 0 + vIn d n (behind d m c) ≤ Cc.toCome d m:=fun c hc=>by
   have h1:=R.come_behind O (may_sub hc)
   have h2:=Rel.vIn_le O n (R.step O (may_sub hc))
   have h3:=won_le (d:=d) (m:=m) (c:=c) (side:=0)
   omega
  unfold vIn
  split
  ·exact mostOf_le hf
  ·by_cases e:may d m = []
   ·rw [e]
    exact Nat.zero_le _
   ·obtain ⟨c,hc,q⟩:=leastOf_mem (fun c=>won (behind d m c) 0 + vIn d n (behind d m c)) e
    rw [← q]
    exact hf c hc
theorem Rel.valueIn (O:DealOk d):∀ (n:Nat) {m:MP} {p:Pos},Rel d m p → Vbbraf.valueIn n p = vIn d n m
 | 0,_,_,_=>rfl
 | n + 1,m,p,R=>by
  have hc:∀ c ∈ may d m,(Vbbraf.gained (Vbbraf.behind p c).2 + Vbbraf.valueIn n (Vbbraf.behind p c).1) = won (behind d m c) 0 + vIn d n (behind d m c):=fun c hc=>by
   rw [gained_by,R.gained,Rel.valueIn O n (R.step O (may_sub hc))]
  show (if Vbbraf.turnOf p % 2 = 0 then Vbbraf.most (fun c=>Vbbraf.gained (Vbbraf.behind p c).2 + Vbbraf.valueIn n (Vbbraf.behind p c).1) (Vbbraf.toCome p) (Vbbraf.legal p)
   else Vbbraf.least (fun c=>Vbbraf.gained (Vbbraf.behind p c).2 + Vbbraf.valueIn n (Vbbraf.behind p c).1) (Vbbraf.legal p)) = _
  rw [R.turn,R.legal,R.come,least_eq]
  unfold vIn
  split
  ·rw [most_eq fun c h=>?_,mostOf_congr hc]
   rw [hc c h]
   have h1:=R.come_behind O (may_sub h)
   have h2:=Rel.vIn_le O n (R.step O (may_sub h))
   have h3:=won_le (d:=d) (m:=m) (c:=c) (side:=0)
   omega
  ·exact leastOf_congr hc
def V0 (d:Deal) (m:MP):Nat:=vIn d (mheld d m) m
theorem Rel.value (O:DealOk d) (R:Rel d m p):Vbbraf.value p = V0 d m:=by
 unfold Vbbraf.value V0
 rw [R.held,R.valueIn O]
theorem Rel.V0_le (O:DealOk d) (R:Rel d m p):V0 d m ≤ Cc.toCome d m:=R.vIn_le O _
theorem V0_zero (h:mheld d m = 0):V0 d m = 0:=by
 unfold V0
 rw [h]
 rfl
def V0by (d:Deal) (m:MP) (c:Nat):Nat:=won (behind d m c) 0 + V0 d (behind d m c)
theorem Rel.V0_step (O:DealOk d) (R:Rel d m p) (h:mheld d m ≠ 0):V0 d m = if m.seat % 2 = 0 then mostOf (V0by d m) (may d m) else leastOf (V0by d m) (may d m):=by
 obtain ⟨n,e⟩:∃ n,mheld d m = n + 1:=⟨mheld d m - 1,by omega⟩
 have hf:∀ c ∈ may d m,won (behind d m c) 0 + vIn d n (behind d m c) = V0by d m c:=fun c hc=>by
  have:=R.held_behind O (may_sub hc)
  unfold V0by V0
  rw [show mheld d (behind d m c) = n by omega]
 show vIn d (mheld d m) m = _
 rw [e]
 unfold vIn
 split
 ·exact mostOf_congr hf
 ·exact leastOf_congr hf
theorem Rel.valueBy (O:DealOk d) (R:Rel d m p) {c:Nat} (hc:c ∈ hand d m m.seat):Vbbraf.valueBy p c = V0by d m c:=by
 show Vbbraf.gained (Vbbraf.behind p c).2 + Vbbraf.value (Vbbraf.behind p c).1 = _
 rw [gained_by,R.gained,(R.step O hc).value O]
 rfl
def VS (side:Nat) (d:Deal) (m:MP):Nat:=if side = 0 then V0 d m else Cc.toCome d m - V0 d m
theorem Rel.valueFor (O:DealOk d) (R:Rel d m p) (side:Nat):Vbbrag.valueFor side p = VS side d m:=by
 unfold Vbbrag.valueFor VS
 rw [R.value O,R.come]
def VSby (side:Nat) (d:Deal) (m:MP) (c:Nat):Nat:=won (behind d m c) side + VS side d (behind d m c)
theorem Rel.VS_step (O:DealOk d) (R:Rel d m p) (h:mheld d m ≠ 0) {side:Nat} (hs:side < 2):VS side d m = if m.seat % 2 = side then mostOf (VSby side d m) (may d m) else leastOf (VSby side d m) (may d m):=by
 have ne:=R.may_ne O h
 have st:=R.V0_step O h
 have by1:∀ c ∈ may d m,VSby 1 d m c + V0by d m c = Cc.toCome d m:=fun c hc=>by
  have h1:=R.come_behind O (may_sub hc)
  have h2:=(R.step O (may_sub hc)).V0_le O
  have h3:=won_two (d:=d) (m:=m) (c:=c)
  unfold VSby V0by VS
  rw [if_neg (by decide)]
  omega
 have:side = 0 ∨ side = 1:=by omega
 rcases this with rfl | rfl
 ·show V0 d m = _
  rw [st]
  split
  ·exact mostOf_congr fun c hc=>rfl
  ·exact leastOf_congr fun c hc=>rfl
 ·have e:VS 1 d m = Cc.toCome d m - V0 d m:=by
   unfold VS
   rw [if_neg (by decide)]
  rw [e]
  by_cases q:m.seat % 2 = 0
  ·rw [if_pos q] at st
   rw [if_neg (by omega)]
   obtain ⟨a,ha,ea⟩:=mostOf_mem (f:=V0by d m) ne
   obtain ⟨b,hb,eb⟩:=leastOf_mem (VSby 1 d m) ne
   have h1:=by1 a ha
   have h2:=by1 b hb
   have h3:=le_mostOf (f:=V0by d m) hb
   have h4:=leastOf_le (VSby 1 d m) ha
   omega
  ·rw [if_neg q] at st
   rw [if_pos (by omega)]
   obtain ⟨a,ha,ea⟩:=mostOf_mem (f:=VSby 1 d m) ne
   obtain ⟨b,hb,eb⟩:=leastOf_mem (V0by d m) ne
   have h1:=by1 a ha
   have h2:=by1 b hb
   have h3:=le_mostOf (f:=VSby 1 d m) hb
   have h4:=leastOf_le (V0by d m) ha
   omega
theorem Rel.gift (O:DealOk d) (R:Rel d m p) {c:Nat} (hc:c ∈ may d m):(Vbbraf.gift p c:Int) = (VS (m.seat % 2) d m:Int) - (VSby (m.seat % 2) d m c:Int):=by
 have hh:mheld d m ≠ 0:=by
  have:=R.held_behind O (may_sub hc)
  omega
 have st:=R.VS_step O hh (side:=m.seat % 2) (Nat.mod_lt _ (by decide))
 rw [if_pos rfl] at st
 have le:=le_mostOf (f:=VSby (m.seat % 2) d m) hc
 unfold Vbbraf.gift
 rw [R.turn,R.value O,R.valueBy O (may_sub hc)]
 by_cases q:m.seat % 2 = 0
 ·rw [if_pos q]
  rw [q] at st le ⊢
  have e1:VS 0 d m = V0 d m:=rfl
  have e2:VSby 0 d m c = V0by d m c:=rfl
  omega
 ·have q1:m.seat % 2 = 1:=by omega
  rw [if_neg q]
  rw [q1] at st le ⊢
  have h1:=R.come_behind O (may_sub hc)
  have h2:=(R.step O (may_sub hc)).V0_le O
  have h3:=won_two (d:=d) (m:=m) (c:=c)
  have h4:=R.V0_le O
  have e1:VS 1 d m = Cc.toCome d m - V0 d m:=by
   unfold VS
   rw [if_neg (by decide)]
  have e2:VSby 1 d m c = won (behind d m c) 1 + (Cc.toCome d (behind d m c) - V0 d (behind d m c)):=by
   unfold VSby VS
   rw [if_neg (by decide)]
  have e3:V0by d m c = won (behind d m c) 0 + V0 d (behind d m c):=rfl
  omega
end Cc
end
section
namespace Cc
open Vbbraf (Pos)
variable {d:Deal} {m:MP} {p:Pos}
theorem add_bit {x c:Nat} (h:x.testBit c = false) (j:Nat):(x + 2 ^ c).testBit j = (x.testBit j || decide (j = c)):=by
 have e:(x + 2 ^ c).testBit c = true:=by
  rw [Nat.add_comm,Nat.testBit_two_pow_add_eq,h]
  rfl
 have q:=sub_bit e j
 rw [Nat.add_sub_cancel] at q
 by_cases hj:j = c
 ·subst hj
  rw [e]
  simp
 ·rw [q]
  simp [hj]
def addCards (x:Nat) (l:List Nat):Nat:=l.foldl (fun a c=>a + 2 ^ c) x
theorem addCards_bit:∀ (l:List Nat) (x:Nat),l.Nodup → (∀ c ∈ l,x.testBit c = false) → ∀ j,(addCards x l).testBit j = (x.testBit j || decide (j ∈ l))
 | [],x,_,_,j=>by
  show x.testBit j = _
  simp
 | a :: r,x,nd,h,j=>by
  obtain ⟨n1,n2⟩:=List.nodup_cons.mp nd
  show (addCards (x + 2 ^ a) r).testBit j = _
  have ha:=h a (by simp)
  rw [addCards_bit r (x + 2 ^ a) n2 (fun c hc=>by
   have:c ≠ a:=fun z=>n1 (z ▸ hc)
   rw [add_bit ha,h c (by simp [hc])]
   simp [this]) j,add_bit ha,Bool.or_assoc]
  congr 1
  rw [Bool.eq_iff_iff]
  simp
def leftOf (d:Deal):Nat:=d.hands.foldl addCards 0
theorem leftOf_eq (d:Deal):leftOf d = addCards 0 d.hands.flatten:=by
 unfold leftOf addCards
 rw [List.foldl_flatten]
theorem pairwise_nodup {l:List Nat} (h:l.Pairwise (· < ·)):l.Nodup:=h.imp fun {a b} q=>by
 have q:a < b:=q
 intro e
 omega
theorem flat_nodup (O:DealOk d):d.hands.flatten.Nodup:=by
 unfold List.Nodup
 rw [List.pairwise_flatten]
 refine ⟨fun l hl=>pairwise_nodup (O.inc l hl),?_⟩
 rw [List.pairwise_iff_getElem]
 intro i j hi hj lt x hx y hy e
 subst e
 exact O.apart i j _ _ (List.getElem?_eq_getElem hi) (List.getElem?_eq_getElem hj) (by omega) x hx hy
theorem leftOf_bit (O:DealOk d) (j:Nat):(leftOf d).testBit j = decide (j ∈ d.hands.flatten):=by
 rw [leftOf_eq,addCards_bit _ _ (flat_nodup O) (fun c _=>Nat.zero_testBit c),Nat.zero_testBit,Bool.false_or]
def startM (d:Deal):MP:=between (leftOf d) d.leader
def firstP (d:Deal):Pos:=⟨d.hands,d.trump,d.leader,[]⟩
theorem filter_all (O:DealOk d) {h:List Nat} (hh:h ∈ d.hands):(h.filter fun c=>(leftOf d).testBit c) = h:=by
 rw [List.filter_eq_self]
 intro c hc
 rw [leftOf_bit O]
 exact decide_eq_true (List.mem_flatten.mpr ⟨h,hh,hc⟩)
theorem rel_start (O:DealOk d):Rel d (startM d) (firstP d):=by
 obtain ⟨n,h4,hn⟩:=O.even
 have hs:=getD_some (l:=d.hands) (s:=d.leader) (by rw [O.len]; exact O.lead)
 refine ⟨?_,rfl,O.lead,rfl,Nat.zero_le _,?_,fun _=>⟨rfl,rfl,rfl⟩,fun c r z=>?_,fun z=>absurd rfl z,fun c hc=>?_,n,h4,fun s hs=>?_⟩
 ·show d.hands = d.hands.map fun h=>h.filter fun c=>(leftOf d).testBit c
  have e:(d.hands.map fun h=>h.filter fun c=>(leftOf d).testBit c) = d.hands.map fun h=>h:=List.map_congr_left fun h hh=>filter_all O hh
  rw [e,List.map_id']
 ·show d.leader = (d.leader + 0) % 4
  have:=O.lead
  omega
 ·have z':([]:List Nat) = c :: r:=z
  cases z'
 ·have hc:(leftOf d).testBit c = true:=hc
  rw [leftOf_bit O] at hc
  obtain ⟨h,hh,hx⟩:=List.mem_flatten.mp (of_decide_eq_true hc)
  exact ⟨h,hh,hx⟩
 ·show (hand d (startM d) s).length + (if (s + 4 - d.leader) % 4 < 0 then 1 else 0) = n
  rw [if_neg (Nat.not_lt_zero _)]
  have e:=List.mem_of_getElem? (getD_some (l:=d.hands) (s:=s) (by rw [O.len]; exact hs))
  have:hand d (startM d) s = d.hands.getD s []:=filter_all O e
  rw [this,hn _ e]
  rfl
inductive Reach (d:Deal):List Nat → MP → Vbbraf.State → Prop
 | start:Reach d [] (startM d) (Vbbraf.dealt (firstP d))
 | play {l:List Nat} {m:MP} {s:Vbbraf.State} {c:Nat}:Reach d l m s → c ∈ may d m → Reach d (l ++ [c]) (behind d m c) (Vbbraf.playedBy s c)
structure Held (d:Deal) (l:List Nat) (m:MP) (s:Vbbraf.State):Prop where
 rel:Rel d m s.now
 first:s.first = firstP d
 played:s.played = l
 num:mheld d m + l.length = mheld d (startM d)
theorem Reach.held (O:DealOk d) {l:List Nat} {m:MP} {s:Vbbraf.State} (h:Reach d l m s):Held d l m s:=by
 induction h with
 | start=>exact ⟨rel_start O,rfl,rfl,rfl⟩
 | play h hc ih=>
  refine ⟨ih.rel.step O (may_sub hc),ih.first,?_,?_⟩
  ·show _ ++ [_] = _
   rw [ih.played]
  ·have:=ih.rel.held_behind O (may_sub hc)
   have:=ih.num
   rw [List.length_append]
   show _ + (_ + 1) = _
   omega
theorem Reach.inv {l:List Nat} {m:MP} {s:Vbbraf.State} (h:Reach d l m s):l = [] ∨ ∃ l' c m' s',l = l' ++ [c] ∧ Reach d l' m' s' ∧ c ∈ may d m' ∧ m = behind d m' c ∧ s = Vbbraf.playedBy s' c:=by
 cases h with
 | start=>exact .inl rfl
 | play h hc=>exact .inr ⟨_,_,_,_,rfl,h,hc,rfl,rfl⟩
theorem Reach.snoc {l:List Nat} {c:Nat} {m:MP} {s:Vbbraf.State} (h:Reach d (l ++ [c]) m s):∃ m' s',Reach d l m' s' ∧ c ∈ may d m' ∧ m = behind d m' c ∧ s = Vbbraf.playedBy s' c:=by
 rcases h.inv with q | ⟨l',c',m',s',e,h1,h2,h3,h4⟩
 ·simp at q
 ·obtain ⟨e1,e2⟩:=List.append_inj' e rfl
  cases e2
  subst e1
  exact ⟨m',s',h1,h2,h3,h4⟩
theorem Reach.fold {l:List Nat} {m:MP} {s:Vbbraf.State} (h:Reach d l m s):m = l.foldl (behind d) (startM d) ∧ s = l.foldl Vbbraf.playedBy (Vbbraf.dealt (firstP d)):=by
 induction h with
 | start=>exact ⟨rfl,rfl⟩
 | play h hc ih=>
  rw [List.foldl_append,List.foldl_append,← ih.1,← ih.2]
  exact ⟨rfl,rfl⟩
theorem Reach.take {l:List Nat} {m:MP} {s:Vbbraf.State} (h:Reach d l m s) (k:Nat):Reach d (l.take k) ((l.take k).foldl (behind d) (startM d)) ((l.take k).foldl Vbbraf.playedBy (Vbbraf.dealt (firstP d))):=by
 induction h with
 | start=>
  rw [List.take_nil]
  exact .start
 | @play l m s c h hc ih=>
  by_cases q:k ≤ l.length
  ·rw [List.take_append_of_le_length q]
   exact ih
  ·rw [List.take_of_length_le (by rw [List.length_append]; show l.length + 1 ≤ k; omega)]
   have f:=h.fold
   rw [List.foldl_append,List.foldl_append,← f.1,← f.2]
   exact .play h hc
theorem Reach.next {l:List Nat} {m:MP} {s:Vbbraf.State} (h:Reach d l m s) {k c:Nat} (hk:l[k]? = some c):c ∈ may d ((l.take k).foldl (behind d) (startM d)):=by
 have hlt:=(List.getElem?_eq_some_iff.mp hk).1
 have h1:=h.take (k + 1)
 have e:l.take (k + 1) = l.take k ++ [c]:=by
  rw [List.take_add_one,hk]
  rfl
 rw [e] at h1
 obtain ⟨m',s',h2,h3,_,_⟩:=h1.snoc
 rw [← h2.fold.1]
 exact h3
theorem lost_eq (x:Option Nat):(match x with | some w=>w % 2 | none=>0) = Vbbrag.gainedBy 1 x:=by
 cases x with
 | none=>rfl
 | some w=>
  show w % 2 = if w % 2 = 1 then 1 else 0
  split <;> omega
theorem playedBy_eq (R:Rel d m s.now) (c:Nat):Vbbraf.playedBy s c = ⟨s.first,s.played ++ [c],(Vbbraf.behind s.now c).1,s.won + won (behind d m c) 0,s.lost + won (behind d m c) 1⟩:=by
 rw [← R.gained c 0,← R.gained c 1,← gained_by,← lost_eq]
 rfl
theorem account_snoc {c:Nat}:∀ {l:List Nat} {p q:Pos} {es:List Vbbraf.Entry},Vbbraf.account p l = some (es,q) → (Vbbraf.legal q).contains c = true →
  Vbbraf.account p (l ++ [c]) = some (es ++ [⟨Vbbraf.turnOf q,Vbbraf.gift q c,Vbbraf.gained (Vbbraf.behind q c).2⟩],(Vbbraf.behind q c).1)
 | [],p,q,es,h,hc=>by
  have e:some (([]:List Vbbraf.Entry),p) = some (es,q):=h
  cases e
  show (if (Vbbraf.legal p).contains c = false then none else _) = _
  rw [if_neg (by rw [hc]; decide)]
  rfl
 | a :: r,p,q,es,h,hc=>by
  have h':(if (Vbbraf.legal p).contains a = false then none else (match Vbbraf.account (Vbbraf.behind p a).1 r with
   | none=>none
   | some (l,q)=>some (⟨Vbbraf.turnOf p,Vbbraf.gift p a,Vbbraf.gained (Vbbraf.behind p a).2⟩ :: l,q):Option (List Vbbraf.Entry × Pos))) = some (es,q):=h
  show (if (Vbbraf.legal p).contains a = false then none else (match Vbbraf.account (Vbbraf.behind p a).1 (r ++ [c]) with
   | none=>none
   | some (l,q)=>some (⟨Vbbraf.turnOf p,Vbbraf.gift p a,Vbbraf.gained (Vbbraf.behind p a).2⟩ :: l,q):Option (List Vbbraf.Entry × Pos))) = _
  by_cases z:(Vbbraf.legal p).contains a = false
  ·rw [if_pos z] at h'
   cases h'
  ·rw [if_neg z] at h' ⊢
   cases e:Vbbraf.account (Vbbraf.behind p a).1 r with
   | none=>
    rw [e] at h'
    cases h'
   | some x=>
    obtain ⟨l,q'⟩:=x
    rw [e] at h'
    have h'':some (Vbbraf.Entry.mk (Vbbraf.turnOf p) (Vbbraf.gift p a) (Vbbraf.gained (Vbbraf.behind p a).2) :: l,q') = some (es,q):=h'
    cases h''
    rw [account_snoc e hc]
    rfl
theorem foldl_add (l:List Nat):∀ a:Nat,l.foldl (fun a b=>a + b) a = a + Vbbraf.total l:=by
 induction l with
 | nil=>intro a; rfl
 | cons x r ih=>
  intro a
  show r.foldl (fun a b=>a + b) (a + x) = a + r.foldl (fun a b=>a + b) (0 + x)
  rw [ih,ih]
  omega
theorem total_snoc (l:List Nat) (x:Nat):Vbbraf.total (l ++ [x]) = Vbbraf.total l + x:=by
 unfold Vbbraf.total
 rw [List.foldl_append]
 rfl
theorem givenBy_snoc (side:Nat) (l:List Vbbraf.Entry) (e:Vbbraf.Entry):Vbbraf.givenBy side (l ++ [e]) = Vbbraf.givenBy side l + if e.seat % 2 = side then e.gift else 0:=by
 unfold Vbbraf.givenBy
 rw [List.filter_append,List.map_append,List.filter_cons,List.filter_nil]
 by_cases q:e.seat % 2 = side
 ·rw [if_pos q,if_pos (by simpa using q)]
  exact total_snoc _ _
 ·rw [if_neg q,if_neg (by simpa using q)]
  simp
def gifts (d:Deal) (side:Nat):List Nat → MP → Int
 | [],_=>0
 | c :: r,m=>(if m.seat % 2 = side then (VS side d m:Int) - (VSby side d m c:Int) else 0) + gifts d side r (behind d m c)
theorem gifts_snoc (side c:Nat):∀ (l:List Nat) (m:MP),gifts d side (l ++ [c]) m = gifts d side l m + (if (l.foldl (behind d) m).seat % 2 = side then (VS side d (l.foldl (behind d) m):Int) - (VSby side d (l.foldl (behind d) m) c:Int) else 0)
 | [],m=>by
  show _ + (0:Int) = 0 + _
  rw [Int.add_zero,Int.zero_add]
  rfl
 | a :: r,m=>by
  show _ + gifts d side (r ++ [c]) (behind d m a) = _ + gifts d side r (behind d m a) + _
  rw [gifts_snoc side c r (behind d m a),Int.add_assoc]
  rfl
theorem Reach.account (O:DealOk d) {l:List Nat} {m:MP} {s:Vbbraf.State} (h:Reach d l m s):∃ es,Vbbraf.account (firstP d) l = some (es,s.now) ∧ ∀ side,(Vbbraf.givenBy side es:Int) = gifts d side l (startM d):=by
 induction h with
 | start=>exact ⟨[],rfl,fun side=>rfl⟩
 | @play l m s c h hc ih=>
  obtain ⟨es,e1,e2⟩:=ih
  have R:=(h.held O).rel
  refine ⟨_,account_snoc e1 (by rw [R.legal]; simpa using hc),fun side=>?_⟩
  rw [givenBy_snoc,gifts_snoc,← e2 side,← h.fold.1]
  show ((Vbbraf.givenBy side es + if Vbbraf.turnOf s.now % 2 = side then Vbbraf.gift s.now c else 0:Nat):Int) = _
  rw [R.turn]
  by_cases q:m.seat % 2 = side
  ·rw [if_pos q,if_pos q,Int.natCast_add,R.gift O hc,q]
  ·rw [if_neg q,if_neg q]
   simp
end Cc
end
section
namespace Cc
theorem row_inv {L:List Int} {e:Nat} {x t:List Int} (h:PyFlat.row (L.drop e) = some (x,t)):∃ m:Nat,L[e]? = some (m:Int) ∧ e + 1 + m ≤ L.length ∧ x = (L.drop (e + 1)).take m ∧ t = L.drop (e + 1 + m):=by
 by_cases he:e < L.length
 ·rw [List.drop_eq_getElem_cons he] at h
  have h':(if 0 ≤ L[e] ∧ L[e].toNat ≤ (L.drop (e + 1)).length then some ((L.drop (e + 1)).take L[e].toNat,(L.drop (e + 1)).drop L[e].toNat) else none) = some (x,t):=h
  split at h'
  ·rename_i hc
   cases h'
   rw [List.length_drop] at hc
   refine ⟨L[e].toNat,?_,by omega,rfl,?_⟩
   ·rw [List.getElem?_eq_getElem he]
    congr 1
    omega
   ·rw [List.drop_drop]
  ·cases h'
 ·rw [List.drop_eq_nil_of_le (by omega)] at h
  cases h
theorem rows_inv {L:List Int} {k e:Nat} {X:List (List Int)} {t:List Int} (h:PyFlat.rows (k + 1) (L.drop e) = some (X,t)):∃ (m:Nat) (x:List Int) (xs:List (List Int)),X = x :: xs ∧ L[e]? = some (m:Int) ∧ e + 1 + m ≤ L.length ∧ x = (L.drop (e + 1)).take m ∧
  PyFlat.rows k (L.drop (e + 1 + m)) = some (xs,t):=by
 have h':(match PyFlat.row (L.drop e) with
  | none=>none
  | some (x,s)=>match PyFlat.rows k s with
   | none=>none
   | some (xs,t)=>some (x :: xs,t):Option (List (List Int) × List Int)) = some (X,t):=h
 cases q:PyFlat.row (L.drop e) with
 | none=>
  rw [q] at h'
  cases h'
 | some y=>
  obtain ⟨x,s⟩:=y
  rw [q] at h'
  obtain ⟨m,h1,h2,h3,h4⟩:=row_inv q
  cases r:PyFlat.rows k s with
  | none=>
   have h'':(match PyFlat.rows k s with
    | none=>none
    | some (xs,t)=>some (x :: xs,t):Option (List (List Int) × List Int)) = some (X,t):=h'
   rw [r] at h''
   cases h''
  | some z=>
   obtain ⟨xs,t'⟩:=z
   have h'':(match PyFlat.rows k s with
    | none=>none
    | some (xs,t)=>some (x :: xs,t):Option (List (List Int) × List Int)) = some (X,t):=h'
   rw [r] at h''
   cases h''
   exact ⟨m,x,xs,rfl,h1,h2,h3,by rw [← h4]; exact r⟩
theorem rows_len {k:Nat}:∀ {r:List Int} {X:List (List Int)} {t:List Int},PyFlat.rows k r = some (X,t) → X.length = k:=by
 induction k with
 | zero=>
  intro r X t h
  have h':some (([]:List (List Int)),r) = some (X,t):=h
  cases h'
  rfl
 | succ k ih=>
  intro r X t h
  have h':PyFlat.rows (k + 1) (r.drop 0) = some (X,t):=h
  obtain ⟨m,x,xs,e,_,_,_,hr⟩:=rows_inv h'
  rw [e,List.length_cons,ih hr]
theorem call_inv {shape:Int → Option (Nat × Nat)} {L:List Int} {p:Nat} {c:List (List Int)} {t:List Int} (h:PyFlat.call shape (L.drop p) = some (c,t)):
  ∃ (a:Int) (n k:Nat) (xs:List (List Int)),L[p]? = some a ∧ shape a = some (n,k) ∧ c = (a :: (L.drop (p + 1)).take n) :: xs ∧ p + 1 + n ≤ L.length ∧ PyFlat.rows k (L.drop (p + 1 + n)) = some (xs,t):=by
 by_cases he:p < L.length
 ·rw [List.drop_eq_getElem_cons he] at h
  have h':(match shape L[p] with
   | none=>none
   | some (n,k)=>if (L.drop (p + 1)).length < n then none else match PyFlat.rows k ((L.drop (p + 1)).drop n) with
    | none=>none
    | some (xs,t)=>some ((L[p] :: (L.drop (p + 1)).take n) :: xs,t):Option (List (List Int) × List Int)) = some (c,t):=h
  cases q:shape L[p] with
  | none=>
   rw [q] at h'
   cases h'
  | some y=>
   obtain ⟨n,k⟩:=y
   rw [q] at h'
   have h'':(if (L.drop (p + 1)).length < n then none else match PyFlat.rows k ((L.drop (p + 1)).drop n) with
    | none=>none
    | some (xs,t)=>some ((L[p] :: (L.drop (p + 1)).take n) :: xs,t):Option (List (List Int) × List Int)) = some (c,t):=h'
   by_cases hl:(L.drop (p + 1)).length < n
   ·rw [if_pos hl] at h''
    cases h''
   ·rw [if_neg hl,List.drop_drop] at h''
    rw [List.length_drop] at hl
    cases r:PyFlat.rows k (L.drop (p + 1 + n)) with
    | none=>
     rw [r] at h''
     cases h''
    | some z=>
     obtain ⟨xs,t'⟩:=z
     rw [r] at h''
     cases h''
     exact ⟨L[p],n,k,xs,List.getElem?_eq_getElem he,q,rfl,by omega,r⟩
 ·rw [List.drop_eq_nil_of_le (by omega)] at h
  cases h
theorem rows_rest {L:List Int} {k:Nat}:∀ {e:Nat} {X:List (List Int)} {t:List Int},e ≤ L.length → PyFlat.rows k (L.drop e) = some (X,t) → ∃ e',e ≤ e' ∧ e' ≤ L.length ∧ t = L.drop e':=by
 induction k with
 | zero=>
  intro e X t he h
  have h':some (([]:List (List Int)),L.drop e) = some (X,t):=h
  cases h'
  exact ⟨e,Nat.le_refl _,he,rfl⟩
 | succ k ih=>
  intro e X t he h
  obtain ⟨m,x,xs,_,_,h2,_,hr⟩:=rows_inv h
  obtain ⟨e',h3,h4,h5⟩:=ih h2 hr
  exact ⟨e',by omega,h4,h5⟩
theorem calls_inv {shape:Int → Option (Nat × Nat)} {L:List Int} {f p:Nat} {cs:List (List (List Int))} (hp:p < L.length) (h:PyFlat.calls shape f (L.drop p) = some cs):
  ∃ (f' e:Nat) (c:List (List Int)) (cs':List (List (List Int))),cs = c :: cs' ∧ PyFlat.call shape (L.drop p) = some (c,L.drop e) ∧ p < e ∧ e ≤ L.length ∧ PyFlat.calls shape f' (L.drop e) = some cs':=by
 cases f with
 | zero=>
  rw [List.drop_eq_getElem_cons hp] at h
  cases h
 | succ f=>
  have h0:=h
  rw [List.drop_eq_getElem_cons hp] at h
  have h':(match PyFlat.call shape (L[p] :: L.drop (p + 1)) with
   | none=>none
   | some (c,t)=>match PyFlat.calls shape f t with
    | none=>none
    | some cs=>some (c :: cs):Option (List (List (List Int)))) = some cs:=h
  rw [← List.drop_eq_getElem_cons hp] at h'
  cases q:PyFlat.call shape (L.drop p) with
  | none=>
   rw [q] at h'
   cases h'
  | some y=>
   obtain ⟨c,t⟩:=y
   rw [q] at h'
   have h'':(match PyFlat.calls shape f t with
    | none=>none
    | some cs=>some (c :: cs):Option (List (List (List Int)))) = some cs:=h'
   obtain ⟨a,n,k,xs,h1,h2,h3,h4,h5⟩:=call_inv q
   obtain ⟨e,e1,e2,e3⟩:=rows_rest h4 h5
   subst e3
   cases r:PyFlat.calls shape f (L.drop e) with
   | none=>
    rw [r] at h''
    cases h''
   | some cs'=>
    rw [r] at h''
    cases h''
    exact ⟨f,e,c,cs',rfl,rfl,by omega,e2,r⟩
theorem calls_end {shape:Int → Option (Nat × Nat)} {L:List Int} {f:Nat} {cs:List (List (List Int))} (h:PyFlat.calls shape f (L.drop L.length) = some cs):cs = []:=by
 rw [List.drop_length] at h
 cases f <;> cases h <;> rfl
inductive Form:List (List Int) → Prop
 | deal (a b:Int) (u v w x:List Int):Form [[0,a,b],u,v,w,x]
 | play (a:Int):Form [[1,a]]
 | back:Form [[2]]
 | turn:Form [[3]]
 | judge (a b:Int) (u:List Int):Form [[4,a,b],u]
 | claim (a b c:Int) (u:List Int):Form [[5,a,b,c],u]
 | withdraw:Form [[6]]
 | worst (a b:Int) (u:List Int):Form [[7,a,b],u]
 | sure (a:Int):Form [[8,a]]
 | shortest (a b c:Int) (u:List Int):Form [[9,a,b,c],u]
 | order (a b:Int) (u:List Int):Form [[10,a,b],u]
 | score:Form [[11]]
 | account:Form [[12]]
 | lets (a b:Int) (u:List Int):Form [[13,a,b],u]
 | told:Form [[14]]
theorem len0 {α:Type} {l:List α} (h:l.length = 0):l = []:=List.eq_nil_of_length_eq_zero h
theorem len1 {α:Type} {l:List α} (h:l.length = 1):∃ a,l = [a]:=by
 match l,h with
 | [a],_=>exact ⟨a,rfl⟩
theorem len2 {α:Type} {l:List α} (h:l.length = 2):∃ a b,l = [a,b]:=by
 match l,h with
 | [a,b],_=>exact ⟨a,b,rfl⟩
theorem len3 {α:Type} {l:List α} (h:l.length = 3):∃ a b c,l = [a,b,c]:=by
 match l,h with
 | [a,b,c],_=>exact ⟨a,b,c,rfl⟩
theorem len4 {α:Type} {l:List α} (h:l.length = 4):∃ a b c d,l = [a,b,c,d]:=by
 match l,h with
 | [a,b,c,d],_=>exact ⟨a,b,c,d,rfl⟩
theorem form_of {a:Int} {n k:Nat} {ns:List Int} {xs:List (List Int)} (hs:PyVbbrag.shape a = some (n,k)) (hn:ns.length = n) (hk:xs.length = k):Form ((a :: ns) :: xs):=by
 by_cases h0:a = 0
 ·subst h0
  have hs:some (2,4) = some (n,k):=hs
  cases hs
  obtain ⟨p,q,rfl⟩:=len2 hn
  obtain ⟨u,v,w,x,rfl⟩:=len4 hk
  exact .deal _ _ _ _ _ _
 by_cases h1:a = 1
 ·subst h1
  have hs:some (1,0) = some (n,k):=hs
  cases hs
  obtain ⟨p,rfl⟩:=len1 hn
  cases len0 hk
  exact .play _
 by_cases h2:a = 2
 ·subst h2
  have hs:some (0,0) = some (n,k):=hs
  cases hs
  cases len0 hn
  cases len0 hk
  exact .back
 by_cases h3:a = 3
 ·subst h3
  have hs:some (0,0) = some (n,k):=hs
  cases hs
  cases len0 hn
  cases len0 hk
  exact .turn
 by_cases h4:a = 4
 ·subst h4
  have hs:some (2,1) = some (n,k):=hs
  cases hs
  obtain ⟨p,q,rfl⟩:=len2 hn
  obtain ⟨u,rfl⟩:=len1 hk
  exact .judge _ _ _
 by_cases h5:a = 5
 ·subst h5
  have hs:some (3,1) = some (n,k):=hs
  cases hs
  obtain ⟨p,q,r,rfl⟩:=len3 hn
  obtain ⟨u,rfl⟩:=len1 hk
  exact .claim _ _ _ _
 by_cases h6:a = 6
 ·subst h6
  have hs:some (0,0) = some (n,k):=hs
  cases hs
  cases len0 hn
  cases len0 hk
  exact .withdraw
 by_cases h7:a = 7
 ·subst h7
  have hs:some (2,1) = some (n,k):=hs
  cases hs
  obtain ⟨p,q,rfl⟩:=len2 hn
  obtain ⟨u,rfl⟩:=len1 hk
  exact .worst _ _ _
 by_cases h8:a = 8
 ·subst h8
  have hs:some (1,0) = some (n,k):=hs
  cases hs
  obtain ⟨p,rfl⟩:=len1 hn
  cases len0 hk
  exact .sure _
 by_cases h9:a = 9
 ·subst h9
  have hs:some (3,1) = some (n,k):=hs
  cases hs
  obtain ⟨p,q,r,rfl⟩:=len3 hn
  obtain ⟨u,rfl⟩:=len1 hk
  exact .shortest _ _ _ _
 by_cases h10:a = 10
 ·subst h10
  have hs:some (2,1) = some (n,k):=hs
  cases hs
  obtain ⟨p,q,rfl⟩:=len2 hn
  obtain ⟨u,rfl⟩:=len1 hk
  exact .order _ _ _
 by_cases h11:a = 11
 ·subst h11
  have hs:some (0,0) = some (n,k):=hs
  cases hs
  cases len0 hn
  cases len0 hk
  exact .score
 by_cases h12:a = 12
 ·subst h12
  have hs:some (0,0) = some (n,k):=hs
  cases hs
  cases len0 hn
  cases len0 hk
  exact .account
 by_cases h13:a = 13
 ·subst h13
  have hs:some (2,1) = some (n,k):=hs
  cases hs
  obtain ⟨p,q,rfl⟩:=len2 hn
  obtain ⟨u,rfl⟩:=len1 hk
  exact .lets _ _ _
 by_cases h14:a = 14
 ·subst h14
  have hs:some (0,0) = some (n,k):=hs
  cases hs
  cases len0 hn
  cases len0 hk
  exact .told
 unfold PyVbbrag.shape at hs
 rw [if_neg h0,if_neg h1,if_neg h2,if_neg h3,if_neg h4,if_neg h5,if_neg h6,if_neg h7,if_neg h8,if_neg h9,if_neg h10,if_neg h11,if_neg h12,if_neg h13,if_neg h14] at hs
 cases hs
theorem whole_id {c:List (List Int)} (h:Form c):PyVbbrag.whole c = c:=by
 cases h <;> rfl
theorem asked_rows {c:List (List Int)} (h:Form c) (ha:VbbragNeutral.asked1 c = true):∀ r ∈ c.tail,r.length ≤ 20:=by
 have hr:∀ {l:List Int},VbbragNeutral.row 20 l = true → l.length ≤ 20:=fun {l} q=>by
  unfold VbbragNeutral.row at q
  rw [Bool.and_eq_true] at q
  exact of_decide_eq_true q.1
 cases h with
 | deal a b u v w x=>
  have ha:(VbbragNeutral.whole60 a && VbbragNeutral.whole60 b && VbbragNeutral.row 20 u && VbbragNeutral.row 20 v && VbbragNeutral.row 20 w && VbbragNeutral.row 20 x) = true:=ha
  simp only [Bool.and_eq_true] at ha
  obtain ⟨⟨⟨⟨⟨_,_⟩,h1⟩,h2⟩,h3⟩,h4⟩:=ha
  intro r hm
  simp only [List.tail_cons,List.mem_cons,List.not_mem_nil,or_false] at hm
  rcases hm with rfl | rfl | rfl | rfl
  ·exact hr h1
  ·exact hr h2
  ·exact hr h3
  ·exact hr h4
 | judge a b u | worst a b u | order a b u | lets a b u=>
  have ha:(VbbragNeutral.whole60 a && VbbragNeutral.whole60 b && VbbragNeutral.row 20 u) = true:=ha
  simp only [Bool.and_eq_true] at ha
  intro r hm
  simp only [List.tail_cons,List.mem_cons,List.not_mem_nil,or_false] at hm
  subst hm
  exact hr ha.2
 | claim a b c u | shortest a b c u=>
  have ha:(VbbragNeutral.whole60 a && VbbragNeutral.whole60 b && VbbragNeutral.whole60 c && VbbragNeutral.row 20 u) = true:=ha
  simp only [Bool.and_eq_true] at ha
  intro r hm
  simp only [List.tail_cons,List.mem_cons,List.not_mem_nil,or_false] at hm
  subst hm
  exact hr ha.2
 | _=>intro r hm; simp at hm
end Cc
end
section
namespace Cc
open Vbbrag (leastOf)
theorem first_at {f:Nat → Nat} {l:List Nat} {i c:Nat} (hc:l[i]? = some c) (h:∀ (j x:Nat),l[j]? = some x → f c ≤ f x ∧ (j < i → f c < f x)):first f l = some c:=by
 have hi:=(List.getElem?_eq_some_iff.mp hc).1
 have ec:=(List.getElem?_eq_some_iff.mp hc).2
 have ne:l ≠ []:=by
  intro z
  rw [z] at hi
  simp at hi
 have hl:leastOf f l = f c:=by
  obtain ⟨x,hx,e⟩:=leastOf_mem f ne
  obtain ⟨j,hj,ej⟩:=List.getElem_of_mem hx
  have h1:=(h j x (by rw [List.getElem?_eq_getElem hj,ej])).1
  have h2:=leastOf_le f (List.mem_of_getElem? hc)
  omega
 unfold first
 rw [hl,List.find?_eq_some_iff_getElem]
 refine ⟨by simp,i,hi,ec,fun j hj=>?_⟩
 have:=(h j _ (List.getElem?_eq_getElem (by omega:j < l.length))).2 hj
 simp
 omega
end Cc
end
section
namespace Cc
theorem put_perm (c:Nat):∀ l:List Nat,(Vbbraf.put c l).Perm (c :: l)
 | []=>List.Perm.refl _
 | d :: r=>by
  show (if c ≤ d then c :: d :: r else d :: Vbbraf.put c r).Perm _
  split
  ·exact List.Perm.refl _
  ·exact ((put_perm c r).cons d).trans (List.Perm.swap c d r)
theorem put_mem {c x:Nat} {l:List Nat}:x ∈ Vbbraf.put c l ↔ x = c ∨ x ∈ l:=by
 rw [(put_perm c l).mem_iff,List.mem_cons]
theorem put_inc (c:Nat):∀ {l:List Nat},l.Pairwise (· ≤ ·) → (Vbbraf.put c l).Pairwise (· ≤ ·)
 | [],_=>by
  show [c].Pairwise (· ≤ ·)
  simp
 | d :: r,h=>by
  obtain ⟨h1,h2⟩:=List.pairwise_cons.mp h
  show (if c ≤ d then c :: d :: r else d :: Vbbraf.put c r).Pairwise (· ≤ ·)
  split
  ·rename_i le
   refine List.pairwise_cons.mpr ⟨fun x hx=>?_,h⟩
   rcases List.mem_cons.mp hx with q | q
   ·rw [q]
    exact le
   ·exact Nat.le_trans le (h1 x q)
  ·rename_i nle
   refine List.pairwise_cons.mpr ⟨fun x hx=>?_,put_inc c h2⟩
   rcases put_mem.mp hx with q | q
   ·rw [q]
    show d ≤ c
    omega
   ·exact h1 x q
theorem sorted_perm:∀ l:List Nat,(Vbbraf.sorted l).Perm l
 | []=>List.Perm.refl _
 | a :: r=>(put_perm a _).trans ((sorted_perm r).cons a)
theorem sorted_inc:∀ l:List Nat,(Vbbraf.sorted l).Pairwise (· ≤ ·)
 | []=>List.Pairwise.nil
 | a :: r=>put_inc a (sorted_inc r)
theorem inc_uniq:∀ {l k:List Nat},l.Perm k → l.Pairwise (· ≤ ·) → k.Pairwise (· ≤ ·) → l = k
 | [],k,p,_,_=>(p.nil_eq)
 | a :: r,[],p,_,_=>by
  have:=p.length_eq
  simp at this
 | a :: r,b :: t,p,h,h'=>by
  obtain ⟨h1,h2⟩:=List.pairwise_cons.mp h
  obtain ⟨h3,h4⟩:=List.pairwise_cons.mp h'
  have e:a = b:=by
   have m1:a ∈ b :: t:=p.mem_iff.mp (List.mem_cons_self ..)
   have m2:b ∈ a :: r:=p.mem_iff.mpr (List.mem_cons_self ..)
   rcases List.mem_cons.mp m1 with q | q
   ·exact q
   ·rcases List.mem_cons.mp m2 with q' | q'
    ·exact q'.symm
    ·have x1:b ≤ a:=h3 a q
     have x2:a ≤ b:=h1 b q'
     omega
  subst e
  rw [inc_uniq (p.cons_inv) h2 h4]
theorem sorted_is {l k:List Nat} (p:k.Perm l) (h:k.Pairwise (· ≤ ·)):k = Vbbraf.sorted l:=inc_uniq (p.trans (sorted_perm l).symm) h (sorted_inc l)
theorem noneTwice_iff:∀ l:List Nat,Vbbraf.noneTwice l = true ↔ l.Nodup
 | []=>by simp [Vbbraf.noneTwice]
 | c :: r=>by
  show (!r.contains c && Vbbraf.noneTwice r) = true ↔ _
  rw [Bool.and_eq_true,noneTwice_iff r,List.nodup_cons]
  simp
theorem strict_of {l:List Nat} (h:l.Pairwise (· ≤ ·)) (nd:l.Nodup):l.Pairwise (· < ·):=by
 refine List.Pairwise.imp (fun {a b} q=>?_) (List.Pairwise.and h nd)
 obtain ⟨q1,q2⟩:=q
 have q1:a ≤ b:=q1
 show a < b
 omega
theorem deal_ok {a b c e:List Nat} {t l n:Nat} (ht:t ≤ 4) (hl:l < 4) (h52:∀ h ∈ [a,b,c,e],∀ x ∈ h,x < 52) (inc:∀ h ∈ [a,b,c,e],h.Pairwise (· ≤ ·)) (nd:(a ++ b ++ c ++ e).Nodup) (n4:n ≤ 4) (hn:∀ h ∈ [a,b,c,e],h.length = n):DealOk ⟨[a,b,c,e],t,l⟩:=by
 have nds:∀ h ∈ [a,b,c,e],h.Nodup:=by
  intro h hh
  simp only [List.nodup_append] at nd
  simp only [List.mem_cons,List.not_mem_nil,or_false] at hh
  rcases hh with rfl | rfl | rfl | rfl
  ·exact nd.1.1.1
  ·exact nd.1.1.2.1
  ·exact nd.1.2.1
  ·exact nd.2.1
 refine ⟨rfl,hl,ht,h52,fun h hh=>strict_of (inc h hh) (nds h hh),fun i j h k hi hj ne x hx hk=>?_,n,n4,hn⟩
 simp only [List.nodup_append,List.mem_append] at nd
 obtain ⟨⟨⟨n1,n2,n3⟩,n5,n6⟩,n7,n8⟩:=nd
 have i4:i < 4:=(List.getElem?_eq_some_iff.mp hi).1
 have j4:j < 4:=(List.getElem?_eq_some_iff.mp hj).1
 have ci:i = 0 ∨ i = 1 ∨ i = 2 ∨ i = 3:=by omega
 have cj:j = 0 ∨ j = 1 ∨ j = 2 ∨ j = 3:=by omega
 rcases ci with rfl | rfl | rfl | rfl <;> rcases cj with rfl | rfl | rfl | rfl <;> simp at hi hj <;> subst hi <;> subst hj <;> first
  | exact absurd rfl ne
  | exact n3 x hx x hk rfl
  | exact n3 x hk x hx rfl
  | exact n6 x (.inl hx) x hk rfl
  | exact n6 x (.inr hx) x hk rfl
  | exact n6 x (.inl hk) x hx rfl
  | exact n6 x (.inr hk) x hx rfl
  | exact n8 x (.inl (.inl hx)) x hk rfl
  | exact n8 x (.inl (.inr hx)) x hk rfl
  | exact n8 x (.inr hx) x hk rfl
  | exact n8 x (.inl (.inl hk)) x hx rfl
  | exact n8 x (.inl (.inr hk)) x hx rfl
  | exact n8 x (.inr hk) x hx rfl
end Cc
end
section
namespace Cc
open Vbbraf (Pos)
open Vbbrag (Words leastOf)
variable {d:Deal} {m:MP} {p:Pos}
theorem Rel.J_le_VS (O:DealOk d) (w:Words) (hs:w.side < 2):∀ (n:Nat) {m:MP} {p:Pos},Rel d m p → mheld d m = n → J w d m ≤ VS w.side d m
 | 0,m,p,R,e=>by rw [J_zero e]; exact Nat.zero_le _
 | n + 1,m,p,R,e=>by
  have h0:mheld d m ≠ 0:=by omega
  have lne:=R.lets_ne O w h0
  have ih:∀ c ∈ mlets w d m,Jby w d m c ≤ VSby w.side d m c:=fun c hc=>by
   have hh:=may_sub (lets_sub hc)
   have hb:=R.held_behind O hh
   have:=Rel.J_le_VS O w hs n (R.step O hh) (by omega)
   unfold Jby VSby
   omega
  rw [R.J_step O w h0,R.VS_step O h0 hs]
  by_cases q:m.seat % 2 = w.side
  ·rw [if_pos q]
   obtain ⟨c,hc,ec⟩:=leastOf_mem (Jby w d m) lne
   have h1:=ih c hc
   have h2:=le_mostOf (f:=VSby w.side d m) (lets_sub hc)
   omega
  ·rw [if_neg q]
   have el:mlets w d m = may d m:=by
    unfold mlets
    rw [if_neg q]
   obtain ⟨c,hc,ec⟩:=leastOf_mem (VSby w.side d m) (R.may_ne O h0)
   have h1:=ih c (by rw [el]; exact hc)
   have h2:=leastOf_le (Jby w d m) (by rw [el]; exact hc:c ∈ mlets w d m)
   omega
theorem Rel.VS_le (O:DealOk d) (R:Rel d m p) (side:Nat):VS side d m ≤ Cc.toCome d m:=by
 have:=R.V0_le O
 unfold VS
 split <;> omega
theorem Rel.J_le (O:DealOk d) (R:Rel d m p) {w:Words} (hs:w.side < 2):J w d m ≤ VS w.side d m:=Rel.J_le_VS O w hs _ R rfl
theorem Rel.come4 (O:DealOk d) (R:Rel d m p):Cc.toCome d m ≤ 4:=by
 obtain ⟨n,h4,_,h2,_,_⟩:=R.lens O
 unfold Cc.toCome
 omega
def ownC (h cards:List Nat):List Nat:=cards.foldl (fun own c=>if h.contains c = true ∧ own.contains c = false then own ++ [c] else own) []
theorem ownC_snoc (h l:List Nat) (c:Nat):ownC h (l ++ [c]) = if h.contains c = true ∧ (ownC h l).contains c = false then ownC h l ++ [c] else ownC h l:=by
 unfold ownC
 rw [List.foldl_append]
 rfl
theorem snoc_ind {α:Type} {P:List α → Prop} (h0:P []) (h1:∀ l a,P l → P (l ++ [a])) (l:List α):P l:=by
 have:∀ n (l:List α),l.length = n → P l:=by
  intro n
  induction n with
  | zero=>intro l e; rw [List.eq_nil_of_length_eq_zero e]; exact h0
  | succ n ih=>
   intro l e
   have hne:l ≠ []:=by intro z; rw [z] at e; simp at e
   have:=List.dropLast_concat_getLast hne
   rw [← this]
   exact h1 _ _ (ih _ (by rw [List.length_dropLast]; omega))
 exact this _ l rfl
theorem ownC_find {h:List Nat} {f:Nat → Bool} (hf:∀ c,f c = true → c ∈ h) (cards:List Nat):(ownC h cards).find? f = cards.find? f:=by
 refine snoc_ind (P:=fun l=>(ownC h l).find? f = l.find? f) rfl (fun l c ih=>?_) cards
 rw [ownC_snoc,List.find?_append,← ih]
 by_cases q:h.contains c = true ∧ (ownC h l).contains c = false
 ·rw [if_pos q,List.find?_append]
 ·rw [if_neg q]
  cases e:f c with
  | false=>
   rw [List.find?_cons,e,List.find?_nil,Option.or_none]
  | true=>
   have hc:=hf c e
   have hm:c ∈ ownC h l:=by
    by_cases z:(ownC h l).contains c = true
    ·simpa using z
    ·exact absurd ⟨by simpa using hc,by simpa using z⟩ q
   cases e2:(ownC h l).find? f with
   | none=>
    have:=List.find?_eq_none.mp e2 c hm
    exact absurd e this
   | some x=>rfl
theorem ownC_sub {h:List Nat} {c:Nat} (cards:List Nat):c ∈ ownC h cards → c ∈ h:=by
 refine snoc_ind (P:=fun l=>c ∈ ownC h l → c ∈ h) (fun z=>by simp [ownC] at z) (fun l a ih=>?_) cards
 rw [ownC_snoc]
 split
 ·rename_i q
  intro z
  rcases List.mem_append.mp z with z | z
  ·exact ih z
  ·have:c = a:=by simpa using z
   rw [this]
   simpa using q.1
 ·exact ih
theorem ownC_nodup (h:List Nat) (cards:List Nat):(ownC h cards).Nodup:=by
 refine snoc_ind (P:=fun l=>(ownC h l).Nodup) (by simp [ownC]) (fun l a ih=>?_) cards
 rw [ownC_snoc]
 split
 ·rename_i q
  rw [List.nodup_append]
  refine ⟨ih,by simp,fun x hx y hy e=>?_⟩
  have:y = a:=by simpa using hy
  subst this
  subst e
  simp at q
  exact q.2 hx
 ·exact ih
theorem nodup_len:∀ {l h:List Nat},l.Nodup → (∀ c ∈ l,c ∈ h) → l.length ≤ h.length
 | [],_,_,_=>Nat.zero_le _
 | a :: r,h,nd,hs=>by
  obtain ⟨n1,n2⟩:=List.nodup_cons.mp nd
  have ha:=hs a (by simp)
  have h1:=nodup_len (l:=r) (h:=h.erase a) n2 fun c hc=>(List.mem_erase_of_ne (fun (z:c = a)=>n1 (by rw [← z]; exact hc))).mpr (hs c (by simp [hc]))
  rw [List.length_erase_of_mem ha] at h1
  have:=List.length_pos_of_mem ha
  simp
  omega
theorem ownC_len (h cards:List Nat):(ownC h cards).length ≤ h.length:=nodup_len (ownC_nodup h cards) fun _ hc=>ownC_sub cards hc
def rowC (d:Deal) (m:MP) (side:Nat) (cards:List Nat):List Nat:=ownC (hand d m side) cards ++ ownC (hand d m (side + 2)) cards
theorem sub_behind {c:Nat} (hc:c ∈ hand d m m.seat) {x:Nat} (h:(behind d m c).left.testBit x = true):m.left.testBit x = true:=by
 rw [behind_left,sub_bit (mem_hand.mp hc).2] at h
 simp at h
 exact h.1
theorem row_find (O:DealOk d) {m':MP} {p':Pos} (R':Rel d m' p') (sub:∀ c,m'.left.testBit c = true → m.left.testBit c = true) {side:Nat} (hs:side < 2) (hseat:m'.seat % 2 = side) (cards:List Nat):
  (rowC d m side cards).find? (fun c=>(may d m').contains c) = cards.find? (fun c=>(may d m').contains c):=by
 have s4:=R'.seat4
 have hm:∀ c,(may d m').contains c = true → c ∈ hand d m m'.seat:=fun c h=>by
  have h1:c ∈ may d m':=by simpa using h
  have h2:=mem_hand.mp (may_sub h1)
  exact mem_hand.mpr ⟨h2.1,sub c h2.2⟩
 have other:∀ s,s < 4 → s ≠ m'.seat → (ownC (hand d m s) cards).find? (fun c=>(may d m').contains c) = none:=fun s s4' ne=>by
  rw [List.find?_eq_none]
  intro x hx hq
  have h1:=(mem_hand.mp (ownC_sub cards hx)).1
  have h2:=(mem_hand.mp (hm x hq)).1
  exact O.apart s m'.seat _ _ (getD_some (by rw [O.len]; exact s4')) (getD_some (by rw [O.len]; exact s4)) ne x h1 h2
 unfold rowC
 rw [List.find?_append]
 have:m'.seat = side ∨ m'.seat = side + 2:=by omega
 rcases this with e | e
 ·rw [other (side + 2) (by omega) (by omega),← e,ownC_find hm,Option.or_none]
 ·rw [other side (by omega) (by omega),← e,ownC_find hm,Option.none_or]
theorem jIn_row (O:DealOk d) {side:Nat} (hs:side < 2) (way:Nat) (cards:List Nat):∀ (n:Nat) {m':MP} {p':Pos},Rel d m' p' → (∀ c,m'.left.testBit c = true → m.left.testBit c = true) →
  jIn ⟨side,way,rowC d m side cards⟩ d n m' = jIn ⟨side,way,cards⟩ d n m'
 | 0,_,_,_,_=>rfl
 | n + 1,m',p',R',sub=>by
  have el:mlets ⟨side,way,rowC d m side cards⟩ d m' = mlets ⟨side,way,cards⟩ d m':=by
   unfold mlets
   by_cases q:m'.seat % 2 = side
   ·rw [if_pos q,if_pos q]
    show (match (rowC d m side cards).find? (fun c=>(may d m').contains c) with | some c=>[c] | none=>Vbbrag.pare way (may d m')) = _
    rw [row_find O R' sub hs q]
    all_goals rfl
   ·rw [if_neg q,if_neg q]
  unfold jIn
  rw [el]
  refine leastOf_congr fun c hc=>?_
  have hh:=may_sub (lets_sub hc)
  rw [jIn_row O hs way cards n (R'.step O hh) fun x hx=>sub x (sub_behind hh hx)]
theorem Rel.J_row (O:DealOk d) (R:Rel d m p) {side:Nat} (hs:side < 2) (way:Nat) (cards:List Nat):J ⟨side,way,rowC d m side cards⟩ d m = J ⟨side,way,cards⟩ d m:=
 jIn_row O hs way cards _ R fun _ h=>h
theorem picks_fst:∀ l:List Nat,(Vbbrag.picks l).map (·.1) = l
 | []=>rfl
 | c :: r=>by
  show c :: ((Vbbrag.picks r).map fun x=>(x.1,c :: x.2)).map (·.1) = c :: r
  rw [List.map_map]
  congr 1
  exact picks_fst r
theorem picks_rest:∀ {l:List Nat},l.Nodup → ∀ x ∈ Vbbrag.picks l,x.1 ∈ l ∧ x.2 = l.filter fun y=>y != x.1
 | [],_,x,h=>by cases h
 | c :: r,nd,x,h=>by
  obtain ⟨n1,n2⟩:=List.nodup_cons.mp nd
  have h':x ∈ (c,r) :: (Vbbrag.picks r).map fun x=>(x.1,c :: x.2):=h
  rcases List.mem_cons.mp h' with q | q
  ·subst q
   refine ⟨by simp,?_⟩
   show r = (c :: r).filter fun y=>y != c
   rw [List.filter_cons,if_neg (by simp),List.filter_eq_self.mpr]
   intro y hy
   have:y ≠ c:=fun z=>n1 (z ▸ hy)
   simpa using this
  ·obtain ⟨y,hy,rfl⟩:=List.mem_map.mp q
   obtain ⟨h1,h2⟩:=picks_rest n2 y hy
   refine ⟨by simp [h1],?_⟩
   show c :: y.2 = (c :: r).filter fun z=>z != y.1
   have:c ≠ y.1:=fun z=>n1 (z ▸ h1)
   rw [List.filter_cons,if_pos (by simpa using this),h2]
def ext (l:List Nat) (begun:List (List Nat)):List (List Nat):=begun.flatMap fun row=>(l.filter fun c=>!row.contains c).map fun c=>row ++ [c]
theorem ext_orders:∀ (k:Nat) {l:List Nat},l.Nodup → ext l (Vbbrag.orders k l) = Vbbrag.orders (k + 1) l
 | 0,l,_=>by
  show ext l [[]] = (Vbbrag.picks l).flatMap fun x=>(Vbbrag.orders 0 x.2).map fun r=>x.1 :: r
  have e1:ext l [[]] = l.map fun c=>[c]:=by
   unfold ext
   rw [List.flatMap_cons,List.flatMap_nil,List.append_nil,(List.filter_eq_self (l:=l) (p:=fun c=>!([]:List Nat).contains c)).mpr fun _ _=>rfl]
   rfl
  have e2:((Vbbrag.picks l).flatMap fun x=>(Vbbrag.orders 0 x.2).map fun r=>x.1 :: r) = (Vbbrag.picks l).map fun x=>[x.1]:=by
   rw [List.flatMap_def]
   show ((Vbbrag.picks l).map fun x=>[[x.1]]).flatten = _
   induction Vbbrag.picks l with
   | nil=>rfl
   | cons a r ih=>
    rw [List.map_cons,List.flatten_cons,ih]
    rfl
  rw [e1,e2]
  conv=>lhs; rw [← picks_fst l]
  rw [List.map_map]
  rfl
 | k + 1,l,nd=>by
  show ext l ((Vbbrag.picks l).flatMap fun x=>(Vbbrag.orders k x.2).map fun r=>x.1 :: r) = (Vbbrag.picks l).flatMap fun x=>(Vbbrag.orders (k + 1) x.2).map fun r=>x.1 :: r
  unfold ext
  rw [List.flatMap_assoc]
  rw [List.flatMap_def,List.flatMap_def]
  congr 1
  refine List.map_congr_left fun x hx=>?_
  obtain ⟨h1,h2⟩:=picks_rest nd x hx
  have nd2:x.2.Nodup:=by rw [h2]; exact nd.filter _
  rw [← ext_orders k nd2]
  unfold ext
  rw [List.flatMap_map,List.map_flatMap]
  rw [List.flatMap_def,List.flatMap_def]
  congr 1
  refine List.map_congr_left fun row _=>?_
  rw [List.map_map,h2,List.filter_filter]
  have e:(l.filter fun c=>!(x.1 :: row).contains c) = l.filter fun a=>(!row.contains a) && (a != x.1):=by
   refine List.filter_congr fun y _=>?_
   rw [List.contains_cons,Bool.not_or,Bool.and_comm]
   rfl
  rw [e]
  rfl
theorem orders_head:∀ (k:Nat) {l:List Nat},l.length = k → ∃ r,Vbbrag.orders k l = l :: r
 | 0,l,h=>⟨[],by rw [List.eq_nil_of_length_eq_zero h]; rfl⟩
 | k + 1,l,h=>by
  match l,h with
  | c :: t,h=>
   obtain ⟨r,e⟩:=orders_head k (l:=t) (by simpa using h)
   show ∃ r,(((c,t) :: (Vbbrag.picks t).map fun x=>(x.1,c :: x.2)).flatMap fun x=>(Vbbrag.orders k x.2).map fun r=>x.1 :: r) = (c :: t) :: r
   rw [List.flatMap_cons,e]
   exact ⟨_,rfl⟩
theorem orders_len:∀ (k:Nat) {l:List Nat},∀ row ∈ Vbbrag.orders k l,row.length = k
 | 0,l,row,h=>by
  have h:row ∈ ([[]]:List (List Nat)):=h
  have:row = []:=by simpa using h
  rw [this]
  rfl
 | k + 1,l,row,h=>by
  have h:row ∈ (Vbbrag.picks l).flatMap fun x=>(Vbbrag.orders k x.2).map fun r=>x.1 :: r:=h
  obtain ⟨x,_,h2⟩:=List.mem_flatMap.mp h
  obtain ⟨r,h3,rfl⟩:=List.mem_map.mp h2
  rw [List.length_cons,orders_len k r h3]
theorem picks_len:∀ l:List Nat,(Vbbrag.picks l).length = l.length:=fun l=>by
 have:=congrArg List.length (picks_fst l)
 rw [List.length_map] at this
 exact this
theorem picks_len2:∀ {l:List Nat},∀ x ∈ Vbbrag.picks l,x.2.length + 1 = l.length
 | [],x,h=>by cases h
 | c :: r,x,h=>by
  have h':x ∈ (c,r) :: (Vbbrag.picks r).map fun x=>(x.1,c :: x.2):=h
  rcases List.mem_cons.mp h' with q | q
  ·subst q
   rfl
  ·obtain ⟨y,hy,rfl⟩:=List.mem_map.mp q
   have:=picks_len2 y hy
   simp
   omega
theorem flat_len {α β:Type} {f:α → List β} {n:Nat}:∀ {l:List α},(∀ x ∈ l,(f x).length ≤ n) → (l.flatMap f).length ≤ l.length * n
 | [],_=>Nat.zero_le _
 | a :: r,h=>by
  rw [List.flatMap_cons,List.length_append,List.length_cons,Nat.succ_mul]
  have h1:=h a (by simp)
  have h2:=flat_len (l:=r) (f:=f) fun x hx=>h x (by simp [hx])
  omega
theorem orders_num:∀ (k:Nat) {l:List Nat},l.length ≤ 4 → (Vbbrag.orders k l).length ≤ 4 ^ k
 | 0,l,_=>Nat.le_refl _
 | k + 1,l,h=>by
  show ((Vbbrag.picks l).flatMap fun x=>(Vbbrag.orders k x.2).map fun r=>x.1 :: r).length ≤ _
  refine Nat.le_trans (flat_len (n:=4 ^ k) fun x hx=>?_) ?_
  ·rw [List.length_map]
   have:=picks_len2 x hx
   exact orders_num k (by omega)
  ·rw [picks_len,Nat.pow_succ,Nat.mul_comm]
   exact Nat.mul_le_mul_left _ h
theorem best_at {side way:Nat} {p:Pos} {L:List (List Nat)} {i:Nat} {b:List Nat} (hb:L[i]? = some b)
  (h:∀ (j:Nat) (x:List Nat),L[j]? = some x → Vbbrag.judged ⟨side,way,x⟩ p ≤ Vbbrag.judged ⟨side,way,b⟩ p ∧ (j < i → Vbbrag.judged ⟨side,way,x⟩ p < Vbbrag.judged ⟨side,way,b⟩ p)) {s:List Nat} {r:List (List Nat)} (hL:L = s :: r):
  Vbbrag.bestOrder side way p L (s,0) = (b,Vbbrag.judged ⟨side,way,b⟩ p):=by
 have later:∀ (l:List (List Nat)),(∀ x ∈ l,Vbbrag.judged ⟨side,way,x⟩ p ≤ Vbbrag.judged ⟨side,way,b⟩ p) → Vbbrag.bestOrder side way p l (b,Vbbrag.judged ⟨side,way,b⟩ p) = (b,Vbbrag.judged ⟨side,way,b⟩ p):=by
  intro l
  induction l with
  | nil=>intro _; rfl
  | cons a t ih=>
   intro hl
   show Vbbrag.bestOrder side way p t (if Vbbrag.judged ⟨side,way,b⟩ p < Vbbrag.judged ⟨side,way,a⟩ p then _ else _) = _
   have:=hl a (by simp)
   rw [if_neg (by omega)]
   exact ih fun x hx=>hl x (by simp [hx])
 have main:∀ (l1 l2:List (List Nat)) (y:List Nat) (v:Nat),v < Vbbrag.judged ⟨side,way,b⟩ p → (∀ x ∈ l1,Vbbrag.judged ⟨side,way,x⟩ p < Vbbrag.judged ⟨side,way,b⟩ p) → (∀ x ∈ l2,Vbbrag.judged ⟨side,way,x⟩ p ≤ Vbbrag.judged ⟨side,way,b⟩ p) →
   Vbbrag.bestOrder side way p (l1 ++ b :: l2) (y,v) = (b,Vbbrag.judged ⟨side,way,b⟩ p):=by
  intro l1
  induction l1 with
  | nil=>
   intro l2 y v hv _ h2
   show Vbbrag.bestOrder side way p l2 (if v < Vbbrag.judged ⟨side,way,b⟩ p then _ else _) = _
   rw [if_pos hv]
   exact later l2 h2
  | cons a t ih=>
   intro l2 y v hv h1 h2
   show Vbbrag.bestOrder side way p (t ++ b :: l2) (if v < Vbbrag.judged ⟨side,way,a⟩ p then (a,Vbbrag.judged ⟨side,way,a⟩ p) else (y,v)) = _
   have ha:=h1 a (by simp)
   by_cases q:v < Vbbrag.judged ⟨side,way,a⟩ p
   ·rw [if_pos q]
    exact ih l2 _ _ ha (fun x hx=>h1 x (by simp [hx])) h2
   ·rw [if_neg q]
    exact ih l2 _ _ hv (fun x hx=>h1 x (by simp [hx])) h2
 have hi:=(List.getElem?_eq_some_iff.mp hb).1
 have eb:=(List.getElem?_eq_some_iff.mp hb).2
 have split:L = L.take i ++ b :: L.drop (i + 1):=by
  have:=List.take_append_drop i L
  rw [List.drop_eq_getElem_cons hi,eb] at this
  exact this.symm
 by_cases z:Vbbrag.judged ⟨side,way,b⟩ p = 0
 ·
  have i0:i = 0:=by
   by_cases q:i = 0
   ·exact q
   ·have:=(h 0 _ (List.getElem?_eq_getElem (by omega))).2 (by omega)
    omega
  subst i0
  have e:b = s:=by
   rw [hL] at hb
   simpa using hb.symm
  subst e
  rw [hL]
  have l2:=later (b :: r) fun x hx=>by
   obtain ⟨j,hj,ej⟩:=List.getElem_of_mem hx
   exact (h j x (by rw [hL,List.getElem?_eq_getElem hj,ej])).1
  rw [z] at l2
  rw [l2,z]
 ·rw [split]
  refine main _ _ _ _ (by omega) (fun x hx=>?_) fun x hx=>?_
  ·obtain ⟨j,hj,ej⟩:=List.getElem_of_mem hx
   rw [List.length_take] at hj
   rw [List.getElem_take] at ej
   exact (h j x (by rw [List.getElem?_eq_getElem (by omega),ej])).2 (by omega)
  ·have hx':=List.mem_of_mem_drop hx
   obtain ⟨j,hj,ej⟩:=List.getElem_of_mem hx'
   exact (h j x (by rw [List.getElem?_eq_getElem hj,ej])).1
theorem Rel.leader_eq (R:Rel d m p):((m.seat:Int) - (m.count:Int)) % 4 = (p.leader:Int):=by
 have h1:=R.seat
 have h2:=R.leader
 have h3:=R.c3
 omega
theorem Reach.trick (O:DealOk d) {l:List Nat} {m:MP} {s:Vbbraf.State} (h:Reach d l m s):s.now.trick = l.drop (l.length - m.count) ∧ m.count ≤ l.length:=by
 induction h with
 | start=>exact ⟨rfl,Nat.le_refl _⟩
 | @play l m s c h hc ih=>
  obtain ⟨i1,i2⟩:=ih
  have R:=(h.held O).rel
  have hlen:(s.now.trick ++ [c]).length = m.count + 1:=by rw [List.length_append,R.cnt]; rfl
  show (Vbbraf.behind s.now c).1.trick = _ ∧ _
  by_cases q:m.count = 3
  ·have e:(Vbbraf.behind s.now c).1.trick = []:=by
    show (if (s.now.trick ++ [c]).length = 4 then _ else _:Pos × Option Nat).1.trick = _
    rw [if_pos (by rw [hlen,q])]
   have e2:(behind d m c).count = 0:=by
    unfold behind
    rw [if_pos q]
    rfl
   rw [e,e2]
   refine ⟨?_,Nat.zero_le _⟩
   rw [Nat.sub_zero,List.drop_length]
  ·have e:(Vbbraf.behind s.now c).1.trick = s.now.trick ++ [c]:=by
    show (if (s.now.trick ++ [c]).length = 4 then _ else _:Pos × Option Nat).1.trick = _
    rw [if_neg (by have:=R.c3; rw [hlen]; omega)]
   have e2:(behind d m c).count = m.count + 1:=by
    unfold behind
    rw [if_neg q]
   rw [e,e2,List.length_append]
   refine ⟨?_,by show m.count + 1 ≤ l.length + 1; omega⟩
   show _ = (l ++ [c]).drop (l.length + 1 - (m.count + 1))
   rw [Nat.add_sub_add_right,List.drop_append_of_le_length (by omega),i1]
theorem Rel.hands4 (O:DealOk d) (R:Rel d m p):p.hands = [hand d m 0,hand d m 1,hand d m 2,hand d m 3]:=by
 obtain ⟨a,b,c,e,q⟩:=four O
 rw [R.hands]
 unfold hand
 rw [q]
 rfl
theorem Reach.len16 (O:DealOk d) {l:List Nat} {m:MP} {s:Vbbraf.State} (h:Reach d l m s):l.length ≤ 16:=by
 have h1:=(h.held O).num
 have h2:=held_sum O (startM d)
 have h3:∀ s,s < 4 → (hand d (startM d) s).length ≤ 4:=fun s hs=>by
  obtain ⟨n,hn4,_,_,_,h5⟩:=(rel_start O).lens O
  have:=h5 s hs
  omega
 have:=h3 0 (by decide)
 have:=h3 1 (by decide)
 have:=h3 2 (by decide)
 have:=h3 3 (by decide)
 omega
end Cc
end
section
set_option Elab.async false
set_option linter.all false
set_option maxRecDepth 100000
namespace L2
open PySem PySem.Spec PyProof.Rows
abbrev Key:=Sum Int Str
def keyIs:Key → Value → Bool
 | .inl k,v=>Value.isInt k v
 | .inr x,v=>Value.isStrOf x v
def keyH (w:World):Key → Int
 | .inl k=>hashInt k
 | .inr x=>hashStr w x
theorem keyIs_shape:∀ {k:Key} {v:Value},keyIs k v = true → (∃ i t,k = Sum.inl i ∧ v = Value.int i t) ∨ (∃ x t,k = Sum.inr x ∧ v = Value.str x t)
 | .inl i,v,h=>by
  obtain ⟨t,e⟩:=Value.isInt_shape (k:=i) (v:=v) h
  exact .inl ⟨i,t,rfl,e⟩
 | .inr x,v,h=>by
  obtain ⟨t,e⟩:=Value.isStrOf_shape (x:=x) (v:=v) h
  exact .inr ⟨x,t,rfl,e⟩
theorem keyIs_int (i:Int) (t:Tok):keyIs (.inl i) (.int i t) = true:=by simp [keyIs,Value.isInt]
theorem keyIs_str (x:Str) (t:Tok):keyIs (.inr x) (.str x t) = true:=by simp [keyIs,Value.isStrOf]
theorem key_ll (a b:Int):decide ((Sum.inl a:Key) = Sum.inl b) = (a == b):=by
 by_cases e:a = b
 ·subst e; simp
 ·have h:¬ (Sum.inl a:Key) = Sum.inl b:=fun q=>e (Sum.inl.inj q)
  rw [decide_eq_false h]
  exact (beq_eq_false_iff_ne.mpr e).symm
theorem key_rr (a b:Str):decide ((Sum.inr a:Key) = Sum.inr b) = decide (a = b):=by
 by_cases e:a = b
 ·subst e; simp
 ·have h:¬ (Sum.inr a:Key) = Sum.inr b:=fun q=>e (Sum.inr.inj q)
  rw [decide_eq_false h,decide_eq_false e]
theorem key_lr (a:Int) (b:Str):decide ((Sum.inl a:Key) = Sum.inr b) = false:=decide_eq_false (fun q=>nomatch q)
theorem key_rl (a:Str) (b:Int):decide ((Sum.inr a:Key) = Sum.inl b) = false:=decide_eq_false (fun q=>nomatch q)
def mixKind (prog:Program) (w:World):PySem.KeyKind prog w Key where
 is:=keyIs
 hash:=keyH w
 inj:=fun v a b ha hb=>by
  rcases keyIs_shape ha with ⟨i,t,rfl,rfl⟩ | ⟨x,t,rfl,rfl⟩
  ·rcases keyIs_shape hb with ⟨j,u,rfl,e⟩ | ⟨y,u,rfl,e⟩
   ·injection e with e1 _; rw [e1]
   ·exact nomatch e
  ·rcases keyIs_shape hb with ⟨j,u,rfl,e⟩ | ⟨y,u,rfl,e⟩
   ·exact nomatch e
   ·injection e with e1 _; rw [e1]
 byValue:=fun k v h=>by
  rcases keyIs_shape h with ⟨i,t,rfl,rfl⟩ | ⟨x,t,rfl,rfl⟩ <;> rfl
 pyHash:=fun hv h=>by
  rcases keyIs_shape hv with ⟨i,t,rfl,rfl⟩ | ⟨x,t,rfl,rfl⟩
  ·exact wpAny_pyHash_int h
  ·exact wpAny_pyHash_str h
 eqBool:=fun hu hv h=>by
  rcases keyIs_shape hu with ⟨i,t,rfl,rfl⟩ | ⟨x,t,rfl,rfl⟩
  ·rcases keyIs_shape hv with ⟨j,u,rfl,rfl⟩ | ⟨y,u,rfl,rfl⟩
   ·rw [key_ll] at h; exact wpAny_eqBool_int h
   ·rw [key_lr] at h; exact SeqAt.EqAt.int_str i t y u _ _ _ _ h
  ·rcases keyIs_shape hv with ⟨j,u,rfl,rfl⟩ | ⟨y,u,rfl,rfl⟩
   ·rw [key_rl] at h; exact SeqAt.EqAt.str_int x t j u _ _ _ _ h
   ·rw [key_rr] at h; exact wpAny_eqBool_str h
 «strs»:=fun k x t v h=>by
  rcases keyIs_shape h with ⟨i,u,rfl,e⟩ | ⟨y,u,rfl,e⟩
  ·exact nomatch e
  ·injection e with e1 _
   subst e1
   cases v <;> rfl
theorem mixKind_int (prog:Program) (w:World) (i:Int) (t:Tok):(mixKind prog w).is (.inl i) (.int i t) = true:=keyIs_int i t
theorem mixKind_str (prog:Program) (w:World) (x:Str) (t:Tok):(mixKind prog w).is (.inr x) (.str x t) = true:=keyIs_str x t
end L2
namespace L2
open PySem PySem.Spec PyProof.Rows
inductive V where
 | non | bl (b:Bool) | int (i:Int) | str (x:Str) | byt (b:Array UInt8) | flt (b:UInt64) | ref (a:Addr) | ty (n:String)
 deriving DecidableEq
def RelV:V → Value → Prop
 | .non,u=>u = Value.none
 | .bl b,u=>u = Value.bool b
 | .int i,u=>∃ t,u = Value.int i t
 | .str x,u=>∃ t,u = Value.str x t
 | .byt b,u=>∃ t,u = Value.bytes b t
 | .flt b,u=>∃ t,u = Value.float b t
 | .ref a,u=>u = Value.ref a
 | .ty n,u=>u = Value.type n
abbrev Vals:List V → List Value → Prop:=Paired RelV
theorem Vals.length {xs:List V} {us:List Value} (r:Vals xs us):xs.length = us.length:=Paired.length r
theorem Vals.get:∀ {xs:List V} {us:List Value} {i:Nat} {x:V},Vals xs us → xs[i]? = some x → ∃ u,us[i]? = some u ∧ RelV x u
 | _,_,_,_,.nil,e=>by simp at e
 | _,_,0,_,.cons r _,e=>by simp at e; subst e; exact ⟨_,rfl,r⟩
 | _,_,i + 1,x,.cons _ t,e=>by
  obtain ⟨u,h1,h2⟩:=Vals.get (i:=i) (x:=x) t (by simpa using e)
  exact ⟨u,by simpa using h1,h2⟩
theorem Vals.set {x:V} {u:Value} (r:RelV x u):∀ {xs:List V} {us:List Value} (i:Nat),Vals xs us → Vals (xs.set i x) (us.set i u)
 | _,_,_,.nil=>.nil
 | _,_,0,.cons _ t=>.cons r t
 | _,_,i + 1,.cons q t=>.cons q (Vals.set r i t)
theorem Vals.append:∀ {xs ys:List V} {us ws:List Value},Vals xs us → Vals ys ws → Vals (xs ++ ys) (us ++ ws)
 | _,_,_,_,.nil,s=>s
 | _,_,_,_,.cons r t,s=>.cons r (Vals.append t s)
theorem Vals.take:∀ {xs:List V} {us:List Value} (n:Nat),Vals xs us → Vals (xs.take n) (us.take n)
 | _,_,0,_=>.nil
 | _,_,_ + 1,.nil=>.nil
 | _,_,n + 1,.cons r t=>.cons r (Vals.take n t)
theorem Vals.drop:∀ {xs:List V} {us:List Value} (n:Nat),Vals xs us → Vals (xs.drop n) (us.drop n)
 | _,_,0,r=>r
 | _,_,_ + 1,.nil=>.nil
 | _,_,n + 1,.cons _ t=>Vals.drop n t
def RelO:Option V → Option Value → Prop
 | some v,some u=>RelV v u
 | none,none=>True
 | _,_=>False
def KV {κ:Type}:List (κ × V) → List (κ × Value) → Prop:=Paired fun (p:κ × V) (q:κ × Value)=>p.1 = q.1 ∧ RelV p.2 q.2
def kV:Key → V
 | .inl i=>.int i
 | .inr x=>.str x
inductive HO where
 | lst (xs:List V)
 | tup (xs:List V)
 | dK (kvs:List (Key × V)) | dT (kvs:List (List Key × V))
 | set (S:Int → Bool) (n:Nat)
 | ins (C dx:Addr) (fs:List (Str × V))
 | own (x:Addr)
 | xd (fs:List (Str × V))
 | met (f x:Addr)
 | rng (lo hi:Int)
 | frz (o:Obj) (u:HO)
 | tbl (ps:Array Value)
 | ext (φ:Heap → Prop)
abbrev Hp:=Addr → Option HO
def upd (H:Hp) (a:Addr) (o:HO):Hp:=fun b=>if b = a then some o else H b
theorem upd_same {H:Hp} {a:Addr} {o:HO}:upd H a o a = some o:=by unfold upd; rw [if_pos rfl]
theorem upd_ne {H:Hp} {a b:Addr} {o:HO} (h:b ≠ a):upd H a o b = H b:=by unfold upd; rw [if_neg h]
theorem ne_of {H:Hp} {a b:Addr} {o u:HO} (h:H a = some o) (h':H b = some u) (d:o ≠ u):a ≠ b:=by
 intro e; subst e; rw [h] at h'; exact d (Option.some.inj h')
theorem ne_of_none {H:Hp} {a b:Addr} {o:HO} (h:H a = some o) (h':H b = none):a ≠ b:=by
 intro e; subst e; rw [h] at h'; cases h'
section
variable (P:Program) (w:World)
def ObjOk (H:Hp) (h:Heap) (a:Addr):HO → Prop
 | .lst xs=>xs.length ≤ sizeLine ∧ ∃ (its:List Value) (n:Nat),Vals xs its ∧ h.get? a = some { cls:=.type "list",data:=.seq its.toArray n }
 | .tup xs=>xs.length ≤ sizeLine ∧ ∃ its:List Value,Vals xs its ∧ IsTup h a its.toArray
 | .dK kvs=>kvs.length ≤ sizeLine ∧ (a == sysModules) = false ∧ ∃ vs,KV kvs vs ∧ h.DictOf (mixKind P w) a vs
 | .dT kvs=>kvs.length ≤ sizeLine ∧ (a == sysModules) = false ∧ ∃ xs:List (List Key × Addr × Value),
   Paired (fun (p:List Key × V) (q:List Key × Addr × Value)=>p.1 = q.1 ∧ H q.2.1 = some (.tup (p.1.map kV)) ∧ RelV p.2 q.2.2) kvs xs ∧
   ∃ o es ep,h.get? a = some o ∧ o.ExactDict ∧ o.data = .dict es ep ∧ es.toList = xs.map (entryOfKey (tupleKind (mixKind P w))) ∧ (xs.map (·.1)).Nodup
 | .set S n=>h.SetOf (intKind P w) a S n
 | .ins C dx fs=>H dx = some (.own a) ∧ fs.length ≤ 1000 ∧ dx ≠ a ∧ h.get? a = some (PySem.W.instObj C dx) ∧
   ∃ mA,h.Ns1 dx mA ∧ (∀ f,RelO (fs.lookup f) (mA f)) ∧ PySem.Within mA (fs.map (·.1))
 | .own _=>∃ o,h.get? a = some o
 | .xd fs=>∃ mA,h.Ns1 a mA ∧ ∀ f,RelO (fs.lookup f) (mA f)
 | .rng lo hi=>∃ t u v,h.get? a = some { cls:=.type "range",data:=.fields #[.int lo t,.int hi u,.int 1 v] }
 | .frz o u=>h.get? a = some o ∧ ObjOk H h a u
 | .tbl ps=>h.get? a = some { cls:=.none,data:=.fields ps }
 | .met f x=>h.get? a = some (PySem.W.methodObj (.ref f) (.ref x))
 | .ext φ=>φ h ∧ (∃ o,h.get? a = some o) ∧ ∀ h1 h2:Heap,φ h1 → (∀ o,h1.get? a = some o → h2.get? a = some o) → φ h2
def HOk (H:Hp) (h:Heap):Prop:=∀ a o,H a = some o → ObjOk P w H h a o
end
section
variable {P:Program} {w:World} {H H':Hp} {h h':Heap} {a:Addr} {o:HO}
theorem ObjOk.lt (x:ObjOk P w H h a o):a < h.objs.size:=by
 cases o with
 | lst xs=>obtain ⟨_,_,_,_,e⟩:=x; exact Heap.lt_size e
 | tup xs=>obtain ⟨_,_,_,p⟩:=x; exact p.lt
 | dK kvs=>obtain ⟨_,_,_,_,o,_,_,e,_⟩:=x; exact Heap.lt_size e
 | dT kvs=>obtain ⟨_,_,_,_,o,_,_,e,_⟩:=x; exact Heap.lt_size e
 | set S n=>obtain ⟨o,_,_,_,e,_⟩:=x; exact Heap.lt_size e
 | ins C dx fs=>obtain ⟨_,_,_,e,_⟩:=x; exact Heap.lt_size e
 | own y=>obtain ⟨_,e⟩:=x; exact Heap.lt_size e
 | xd fs=>obtain ⟨_,⟨_,_,_,e,_⟩,_⟩:=x; exact Heap.lt_size e
 | rng lo hi=>obtain ⟨_,_,_,e⟩:=x; exact Heap.lt_size e
 | frz ob u=>obtain ⟨e,_⟩:=x; exact Heap.lt_size e
 | tbl ps=>exact Heap.lt_size (show h.get? a = some _ from x)
 | met f y=>exact Heap.lt_size (show h.get? a = some _ from x)
 | ext φ=>obtain ⟨_,⟨_,e⟩,_⟩:=x; exact Heap.lt_size e
theorem Paired.mapP {α β:Type} {F G:α → β → Prop}:∀ {l₁:List α} {l₂:List β},Paired F l₁ l₂ → (∀ a b,F a b → G a b) → Paired G l₁ l₂
 | _,_,.nil,_=>.nil
 | _,_,.cons r t,f=>.cons (f _ _ r) (Paired.mapP t f)
theorem ObjOk.stay (x:ObjOk P w H h a o) (k:∀ b u,(b = a ∨ H b = some (.own a)) → h.get? b = some u → h'.get? b = some u)
  (ho:∀ b,H b = some (.own a) → H' b = some (.own a)) (ht:∀ b xs,H b = some (.tup xs) → H' b = some (.tup xs)):ObjOk P w H' h' a o:=by
 induction o with
 | lst xs=>obtain ⟨z,its,n,r,e⟩:=x; exact ⟨z,its,n,r,k _ _ (.inl rfl) e⟩
 | tup xs=>obtain ⟨z,its,r,ob,e,c⟩:=x; exact ⟨z,its,r,ob,k _ _ (.inl rfl) e,c⟩
 | dK kvs=>obtain ⟨z,y,vs,r,ob,es,ep,e,c⟩:=x; exact ⟨z,y,vs,r,ob,es,ep,k _ _ (.inl rfl) e,c⟩
 | dT kvs=>
  obtain ⟨z,y,xs,r,ob,es,ep,e,c⟩:=x
  exact ⟨z,y,xs,Paired.mapP r fun p q z=>⟨z.1,ht _ _ z.2.1,z.2.2⟩,ob,es,ep,k _ _ (.inl rfl) e,c⟩
 | set S n=>obtain ⟨ob,es,ep,t,e,c⟩:=x; exact ⟨ob,es,ep,t,k _ _ (.inl rfl) e,c⟩
 | ins C dx fs=>
  obtain ⟨d,z,ne,e,mA,⟨od,es,ep,e2,c⟩,r⟩:=x
  exact ⟨ho _ d,z,ne,k _ _ (.inl rfl) e,mA,⟨od,es,ep,k _ _ (.inr d) e2,c⟩,r⟩
 | own y=>obtain ⟨ob,e⟩:=x; exact ⟨ob,k _ _ (.inl rfl) e⟩
 | xd fs=>obtain ⟨mA,⟨od,es,ep,e,c⟩,r⟩:=x; exact ⟨mA,⟨od,es,ep,k _ _ (.inl rfl) e,c⟩,r⟩
 | rng lo hi=>obtain ⟨t,u,v,e⟩:=x; exact ⟨t,u,v,k _ _ (.inl rfl) e⟩
 | frz ob u ih=>obtain ⟨e,q⟩:=x; exact ⟨k _ _ (.inl rfl) e,ih q⟩
 | tbl ps=>
  have e:h.get? a = some { cls:=.none,data:=.fields ps }:=x
  show h'.get? a = some { cls:=.none,data:=.fields ps }
  exact k a _ (.inl rfl) e
 | met f y=>
  have e:h.get? a = some (PySem.W.methodObj (.ref f) (.ref y)):=x
  show h'.get? a = some (PySem.W.methodObj (.ref f) (.ref y))
  exact k a _ (.inl rfl) e
 | ext φ=>obtain ⟨p,⟨o,e⟩,st⟩:=x; exact ⟨st _ _ p fun o q=>k _ _ (.inl rfl) q,⟨o,k _ _ (.inl rfl) e⟩,st⟩
theorem HOk.lt (x:HOk P w H h) (e:H a = some o):a < h.objs.size:=(x a o e).lt
theorem HOk.fresh (x:HOk P w H h) (e:h.objs.size ≤ a):H a = none:=by
 cases q:H a with
 | none=>rfl
 | some u=>exact absurd (Nat.lt_of_lt_of_le (x.lt q) e) (Nat.lt_irrefl _)
theorem HOk.kept (x:HOk P w H h) (k:∀ b u,h.get? b = some u → h'.get? b = some u):HOk P w H h':=fun a o e=>
 (x a o e).stay (fun b u _ q=>k b u q) (fun _ q=>q) fun _ _ q=>q
theorem HOk.laid (x:HOk P w H h) (k:∀ b u,h.get? b = some u → h'.get? b = some u) (hp:h.objs.size ≤ a) (new:ObjOk P w (upd H a o) h' a o):HOk P w (upd H a o) h':=fun b u e=>by
 have hn:=x.fresh hp
 by_cases hb:b = a
 ·subst hb; rw [upd_same] at e; cases e; exact new
 ·rw [upd_ne hb] at e
  exact (x b u e).stay (fun c v _ q=>k c v q) (fun c q=>by rw [upd_ne (ne_of_none q hn)]; exact q) fun c xs q=>by rw [upd_ne (ne_of_none q hn)]; exact q
end
def Rd (H:Hp) (a:Addr) (u:HO):Prop:=H a = some u ∨ ∃ o,H a = some (.frz o u)
theorem Rd.ok {P:Program} {w:World} {H:Hp} {h:Heap} {a:Addr} {u:HO} (r:Rd H a u) (x:HOk P w H h):ObjOk P w H h a u:=by
 rcases r with r | ⟨o,r⟩
 ·exact x a u r
 ·obtain ⟨_,q⟩:=x a _ r
  exact q
def Mut:Option HO → Prop
 | some (.lst _)=>True
 | some (.dK _)=>True
 | some (.dT _)=>True
 | some (.set _ _)=>True
 | some (.ins _ _ _)=>True
 | some (.ext _)=>True
 | _=>False
section
variable {P:Program} {w:World} {H:Hp} {h h':Heap} {x e:Addr} {o':HO}
theorem HOk.write (ok:HOk P w H h) (mu:Mut (H x)) (he:e = x ∨ H e = some (.own x)) (k:∀ b u,b ≠ e → h.get? b = some u → h'.get? b = some u) (heo:∃ u,h'.get? e = some u)
  (new:ObjOk P w (upd H x o') h' x o'):HOk P w (upd H x o') h':=fun b u q=>by
 have nown:∀ c y,H c = some (.own y) → c ≠ x:=fun c y r z=>by subst z; rw [r] at mu; exact mu
 have ntup:∀ c xs,H c = some (.tup xs) → c ≠ x:=fun c xs r z=>by subst z; rw [r] at mu; exact mu
 by_cases hb:b = x
 ·subst hb; rw [upd_same] at q; cases q; exact new
 ·rw [upd_ne hb] at q
  by_cases hbe:b = e
  ·have q':H b = some (.own x):=by
    rcases he with z | z
    ·exact absurd (hbe.trans z) hb
    ·rw [hbe]; exact z
   rw [q] at q'; cases q'
   obtain ⟨v,hv⟩:=heo
   exact ⟨v,by rw [hbe]; exact hv⟩
  ·refine (ok b u q).stay (fun c v hc r=>k c v ?_ r) (fun c r=>by rw [upd_ne (nown c b r)]; exact r) fun c xs r=>by rw [upd_ne (ntup c xs r)]; exact r
   rcases hc with rfl | hc
   ·exact hbe
   ·rintro rfl
    rcases he with z | z
    ·exact nown c b hc z
    ·rw [hc] at z; cases z; exact hb rfl
end
structure Un (fs ex:List Addr) (H H':Hp) (h h':Heap):Prop where
 keep:∀ b o,h.get? b = some o → H b = none → b ∉ fs → b ∉ ex → h'.get? b = some o
 slot:∀ b o,h.get? b = some o → H b = none → b ∈ fs → b ∉ ex → ∃ sl,h'.get? b = some { o with slots:=sl }
 free:∀ b o,h.get? b = some o → H b = none → b ∉ ex → H' b = none
 there:∀ b o,h.get? b = some o → b ∉ ex → ∃ o',h'.get? b = some o'
 tups:∀ b xs,H b = some (.tup xs) → H' b = some (.tup xs)
 frzs:∀ b o u,H b = some (.frz o u) → H' b = some (.frz o u)
 tbls:∀ b ps,H b = some (.tbl ps) → ∃ more,H' b = some (.tbl (ps ++ more))
section
variable {fs fs' ex ex':List Addr} {H H1 H2:Hp} {h h1 h2 h':Heap} {a x e:Addr} {o:HO}
theorem Un.any (u:Un fs ex H H1 h h1) {b:Addr} {ob:Obj} (q:h.get? b = some ob) (n:H b = none) (hx:b ∉ ex):∃ sl,h1.get? b = some { ob with slots:=sl }:=by
 by_cases hb:b ∈ fs
 ·exact u.slot b ob q n hb hx
 ·exact ⟨ob.slots,u.keep b ob q n hb hx⟩
theorem Un.kept (k:∀ b u,h.get? b = some u → h'.get? b = some u):Un fs ex H H h h':=
 ⟨fun b ob q _ _ _=>k b ob q,fun b ob q _ _ _=>⟨ob.slots,k b ob q⟩,fun _ _ _ n _=>n,fun b ob q _=>⟨ob,k b ob q⟩,fun _ _ q=>q,fun _ _ _ q=>q,fun _ ps q=>⟨#[],by rw [q]; simp⟩⟩
theorem Un.refl:Un fs ex H H h h:=Un.kept fun _ _ q=>q
theorem Un.laid (k:∀ b u,h.get? b = some u → h'.get? b = some u) (hp:h.objs.size ≤ a) (hn:H a = none):Un fs ex H (upd H a o) h h' where
 keep:=fun b u q _ _ _=>k b u q
 slot:=fun b u q _ _ _=>⟨u.slots,k b u q⟩
 free:=fun b u q n _=>by rw [upd_ne (Nat.ne_of_lt (Nat.lt_of_lt_of_le (Heap.lt_size q) hp))]; exact n
 there:=fun b u q _=>⟨u,k b u q⟩
 tups:=fun b xs q=>by rw [upd_ne (ne_of_none q hn)]; exact q
 frzs:=fun b u xs q=>by rw [upd_ne (ne_of_none q hn)]; exact q
 tbls:=fun b ps q=>⟨#[],by rw [upd_ne (ne_of_none q hn),q]; simp⟩
theorem Un.write (mu:Mut (H x)) (he:e = x ∨ H e = some (.own x)) (k:∀ b u,b ≠ e → h.get? b = some u → h'.get? b = some u) (heo:∃ u,h'.get? e = some u):Un fs ex H (upd H x o) h h':=by
 have hx:∀ b,H b = none → b ≠ x:=fun b n z=>by subst z; rw [n] at mu; exact mu
 have hb:∀ b,H b = none → b ≠ e:=fun b n z=>by
  subst z
  rcases he with r | r
  ·exact hx b n r
  ·rw [n] at r; cases r
 have hm:∀ b u,H b = some u → ¬ Mut (some u) → b ≠ x:=fun b u q nm z=>by subst z; rw [q] at mu; exact nm mu
 refine ⟨fun b u q n _ _=>k b u (hb b n) q,fun b u q n _ _=>⟨u.slots,k b u (hb b n) q⟩,fun b u q n _=>by rw [upd_ne (hx b n)]; exact n,fun b u q _=>?_,
  fun b xs q=>by rw [upd_ne (hm b _ q fun z=>z)]; exact q,fun b u xs q=>by rw [upd_ne (hm b _ q fun z=>z)]; exact q,fun b ps q=>⟨#[],by rw [upd_ne (hm b _ q fun z=>z),q]; simp⟩⟩
 by_cases hbe:b = e
 ·subst hbe; exact heo
 ·exact ⟨u,k b u hbe q⟩
end
def trk (h:Heap) (H:Hp):List Addr:=(List.range h.objs.size).filter fun a=>(H a).isSome
def hidT (h:Heap) (H:Hp):Heap:=PySem.W.hideAll h (trk h H)
theorem hidT_size (h:Heap) (H:Hp):(hidT h H).objs.size = h.objs.size:=PySem.W.hideAll_size _ _
theorem hidT_get {h:Heap} {H:Hp} {b:Addr} {o:Obj} (e:h.get? b = some o) (n:H b = none):(hidT h H).get? b = some o:=
 PySem.W.hideAll_get _ e fun hm=>by
  have q:(H b).isSome = true:=(List.mem_filter.mp hm).2
  rw [n] at q; simp at q
theorem of_hidT {h:Heap} {H:Hp} {b:Addr} {o:Obj} (e:(hidT h H).get? b = some o):h.get? b = some o ∧ H b = none:=by
 have e':h.get? b = some o:=PySem.W.of_hideAll (trk h H) e
 refine ⟨e',?_⟩
 cases q:H b with
 | none=>rfl
 | some x=>
  have hm:b ∈ trk h H:=List.mem_filter.mpr ⟨List.mem_range.mpr (Heap.lt_size e'),by simp [q]⟩
  have z:(hidT h H).get? b = none:=PySem.W.hideAll_none (trk h H) hm
  rw [z] at e; cases e
def allNews (g h:Heap) (L:Addr):List (Addr × Obj):=(List.range h.objs.size).filterMap fun a=>if a = L ∨ (g.get? a).isSome = true then none else (h.get? a).map fun o=>(a,o)
def rest (g h:Heap) (L d:Addr):List (Addr × Obj):=(allNews g h L).filter fun p=>decide (p.1 ≠ d)
end L2
namespace L2
open PySem PySem.Spec PyProof.Rows
structure Mod (K:PySem.W.Frag) (mg:Str → Option Value) (base:Heap):Prop where
 kin:K.In base
 glob:base.Ns mainGlobals mg
 blt:∃ mb,base.Ns builtinsNs mb ∧ ∀ x:Str,x ≠ "__name__" → mb x = bootBuiltins x
 nolimit:base.NoLimit
structure Cx where
 prog:Program
 w:World
 K:PySem.W.Frag
 mg:Str → Option Value
 base:Heap
 A:Around
 N:List Str
 s_0:Shared
 H_0:Hp
 env:Env
 outer:List Env
 stack:List Env
 ex:List Addr
 fn:Str → Bool
 calm:Bool
 pn:List (Addr × Obj)
 xe:Value → Shared → Prop
def frs (l:List Env):List Addr:=l.filterMap (·.frame)
abbrev Cx.fs (X:Cx):List Addr:=frs X.outer
def Vis (sc:Scope) (x:Str):Prop:=sc.names.lookup x = some .local ∨ sc.names.lookup x = some .cell ∨ sc.names.lookup x = some .free
def Loc (sc:Scope) (x:Str):Prop:=sc.names.lookup x = some .local ∨ sc.names.lookup x = some .cell
def Look (env:Env) (h:Heap) (m:Str → Option Value) (x:Str) (u:Value):Prop:=
 (env.kindOf x = some .local ∧ m x = some u) ∨ ((env.kindOf x = some .cell ∨ env.kindOf x = some .free) ∧ ∃ c,env.cells.lookup x = some c ∧ h.IsCell c (some u))
structure Cx.Ok (X:Cx):Prop where
 mod:Mod X.K X.mg X.base
 kind:X.env.scope.kind = .function
 glob:X.env.globals = mainGlobals
 blt:X.env.builtins = builtinsNs
 above:X.s_0.heap.objs.size ≤ X.env.locals
 inj:∀ x y c,X.env.cells.lookup x = some c → X.env.cells.lookup y = some c → x = y
 has:∀ x,(X.env.kindOf x = some .cell ∨ X.env.kindOf x = some .free) → ∃ c,X.env.cells.lookup x = some c
 cab:∀ x c,X.fn x = true → X.env.cells.lookup x = some c → X.s_0.heap.objs.size ≤ c
 hd:X.calm = true → X.A.handled = none
 frames:X.A.frames = some X.stack
 stk:X.stack = X.outer ∨ (X.stack = X.env :: X.outer ∧ X.env.frame = some X.env.locals)
 exf:∀ b ∈ X.ex,b ≠ X.env.locals ∧ ∀ x c,X.env.cells.lookup x = some c → c ≠ b
 bs:∀ b o,X.base.get? b = some o → X.s_0.heap.get? b = some o ∧ X.H_0 b = none
 bsz:X.base.objs.size ≤ X.s_0.heap.objs.size
 noex:∀ b o,X.base.get? b = some o → b ∉ X.ex
 exfs:∀ b ∈ X.ex,b ∉ X.fs
 funs:X.s_0.heap.FunFrames X.base X.outer
 frf:∀ b ∈ X.fs,X.H_0 b = none
structure Inv (X:Cx) (pins:List (Addr × Obj)) (σ:List (Option V)) (H:Hp) (s:Shared):Prop where
 ok:X.Ok
 os:s.os = X.s_0.os
 bare:AllBare s.gens
 base:Un X.fs X.ex X.H_0 H X.s_0.heap s.heap
 loc:∃ m,s.heap.Ns X.env.locals m ∧ ∀ (i:Nat) (x:Str) (v:V),X.N[i]? = some x → σ[i]? = some (some v) → Vis X.env.scope x → ∃ u,RelV v u ∧ Look X.env s.heap m x u
 cell:∀ x c,X.env.cells.lookup x = some c → ∃ v,s.heap.IsCell c v
 free:H X.env.locals = none
 freeC:∀ x c,X.env.cells.lookup x = some c → H c = none
 pin:∀ p ∈ X.pn ++ pins,s.heap.get? p.1 = some p.2 ∧ H p.1 = none ∧ p.1 ≠ X.env.locals ∧ p.1 ∉ X.fs ∧ ∀ v,p.2.data ≠ .cell v
 hok:HOk X.prog X.w H s.heap
 len:σ.length = X.N.length
section
variable {X:Cx} {pins:List (Addr × Obj)} {σ:List (Option V)} {H H':Hp} {s:Shared} {h':Heap}
theorem Cx.Ok.nofr (ok:X.Ok) {b:Addr} {o:Obj} (e:X.base.get? b = some o):b ∉ X.fs:=fun hb=>by
 have:=(ok.funs.mem hb).1
 rw [e] at this; cases this
theorem Inv.bs (I:Inv X pins σ H s):∀ b o,X.base.get? b = some o → s.heap.get? b = some o ∧ H b = none:=fun b o e=>
 ⟨I.base.keep b o (I.ok.bs b o e).1 (I.ok.bs b o e).2 (I.ok.nofr e) (I.ok.noex b o e),I.base.free b o (I.ok.bs b o e).1 (I.ok.bs b o e).2 (I.ok.noex b o e)⟩
theorem Inv.bk (I:Inv X pins σ H s):∀ b o,X.base.get? b = some o → s.heap.get? b = some o:=fun b o e=>(I.bs b o e).1
theorem Inv.mod (I:Inv X pins σ H s):Mod X.K X.mg X.base:=I.ok.mod
theorem Inv.kIn (I:Inv X pins σ H s):X.K.In s.heap:=I.ok.mod.kin.keeps I.bk
theorem Inv.nolimit (I:Inv X pins σ H s):s.heap.NoLimit:=I.ok.mod.nolimit.keeps I.bk
theorem Inv.lt (I:Inv X pins σ H s):X.env.locals < s.heap.objs.size:=let ⟨_,hn,_⟩:=I.loc; hn.lt
theorem Inv.sz (I:Inv X pins σ H s):X.s_0.heap.objs.size ≤ s.heap.objs.size:=Nat.le_trans I.ok.above (Nat.le_of_lt I.lt)
theorem Inv.nofs (I:Inv X pins σ H s) {a:Addr} (h:s.heap.objs.size ≤ a):a ∉ X.fs:=fun hb=>by
 obtain ⟨_,o,ho,_⟩:=I.ok.funs.mem hb
 exact absurd (Nat.lt_of_lt_of_le (Heap.lt_size ho) (Nat.le_trans I.sz h)) (Nat.lt_irrefl _)
theorem Inv.cne (I:Inv X pins σ H s):∀ x c,X.env.cells.lookup x = some c → c ≠ X.env.locals:=fun x c e z=>by
 obtain ⟨v,o,ho,hd⟩:=I.cell x c e
 obtain ⟨m,⟨o',es,ep,ho',hd',_⟩,_⟩:=I.loc
 rw [z,ho'] at ho; cases ho; rw [hd'] at hd; cases hd
theorem Inv.funs (I:Inv X pins σ H s):s.heap.FunFrames X.base X.outer:=by
 have all:∀ (l:List Env),(∀ b ∈ frs l,b ∈ X.fs) → X.s_0.heap.FunFrames X.base l → s.heap.FunFrames X.base l:=by
  intro l
  induction l with
  | nil=>intro _ _; trivial
  | cons env r ih=>
   intro hs hl
   obtain ⟨hk,⟨L,o,hf,hn,ho,hd⟩,hr⟩:=hl
   have hL:L ∈ X.fs:=hs L (by unfold frs; rw [List.filterMap_cons,hf]; exact List.mem_cons_self)
   obtain ⟨sl,e⟩:=I.base.slot L o ho (I.ok.frf L hL) hL fun z=>I.ok.exfs L z hL
   exact ⟨hk,⟨L,_,hf,hn,e,hd⟩,ih (fun b hb=>hs b (by unfold frs; rw [List.filterMap_cons,hf]; exact List.mem_cons_of_mem _ hb)) hr⟩
 exact all X.outer (fun _ hb=>hb) I.ok.funs
theorem Inv.stack (I:Inv X pins σ H s):s.heap.FunFrames X.base X.stack:=by
 rcases I.ok.stk with e | ⟨e,hf⟩
 ·rw [e]; exact I.funs
 ·rw [e]
  obtain ⟨m,hn,_⟩:=I.loc
  refine .cons (by rw [I.ok.kind]; decide) hf hn ?_ I.funs
  exact Heap.get?_none_of_le (Nat.le_trans I.ok.bsz I.ok.above)
theorem Inv.stkSub (I:Inv X pins σ H s):∀ b ∈ frs X.stack,b ∈ X.env.locals :: X.fs:=fun b hb=>by
 rcases I.ok.stk with e | ⟨e,hf⟩
 ·rw [e] at hb; exact List.mem_cons_of_mem _ hb
 ·rw [e] at hb
  unfold frs at hb
  rw [List.filterMap_cons,hf] at hb
  exact hb
theorem Inv.stkFree (I:Inv X pins σ H s):∀ b ∈ frs X.stack,H b = none:=fun b hb=>by
 rcases List.mem_cons.mp (I.stkSub b hb) with e | hb
 ·rw [e]; exact I.free
 ·obtain ⟨_,o,ho,_⟩:=I.ok.funs.mem hb
  exact I.base.free b o ho (I.ok.frf b hb) fun z=>I.ok.exfs b z hb
theorem Inv.step {g':Array GenState} {t':Nat} {d':Drawn} {ch:List Addr} (I:Inv X pins σ H s)
  (hch:∀ b ∈ ch,(b ∈ X.ex ∨ X.s_0.heap.objs.size ≤ b) ∧ b ≠ X.env.locals ∧ (∀ x c,X.env.cells.lookup x = some c → c ≠ b) ∧ ∀ p ∈ X.pn ++ pins,p.1 ≠ b)
  (keep:∀ b o,b ≠ X.env.locals → b ∉ X.fs → b ∉ ch → s.heap.get? b = some o → H b = none → h'.get? b = some o)
  (slot:∀ b o,b ≠ X.env.locals → b ∈ X.fs → b ∉ ch → s.heap.get? b = some o → H b = none → ∃ sl,h'.get? b = some { o with slots:=sl }) (free:∀ b o,b ∉ ch → s.heap.get? b = some o → H b = none → H' b = none)
  (there:∀ b o,b ∉ ch → s.heap.get? b = some o → ∃ o',h'.get? b = some o')
  (tups:∀ b xs,H b = some (.tup xs) → H' b = some (.tup xs)) (frzs:∀ b o u,H b = some (.frz o u) → H' b = some (.frz o u)) (tbls:∀ b ps,H b = some (.tbl ps) → ∃ more,H' b = some (.tbl (ps ++ more)))
  (ns:∀ m,s.heap.Ns X.env.locals m → h'.Ns X.env.locals m) (hok:HOk X.prog X.w H' h') (hg:AllBare g'):
  Inv X pins σ H' { s with heap:=h',gens:=g',drawn:=d',toks:=t' }:=by
 have neL:∀ b o,X.s_0.heap.get? b = some o → b ≠ X.env.locals:=fun b o e=>Nat.ne_of_lt (Nat.lt_of_lt_of_le (Heap.lt_size e) I.ok.above)
 have neC:∀ b o,X.s_0.heap.get? b = some o → b ∉ X.ex → b ∉ ch:=fun b o e hx hb=>by
  rcases (hch b hb).1 with z | z
  ·exact hx z
  ·exact absurd (Nat.lt_of_lt_of_le (Heap.lt_size e) z) (Nat.lt_irrefl _)
 have cellK:∀ x c,X.env.cells.lookup x = some c → ∀ v,s.heap.IsCell c v → h'.IsCell c v:=fun x c e v ⟨o,ho,hd⟩=>by
  have nch:c ∉ ch:=fun z=>(hch c z).2.2.1 x c e rfl
  by_cases hc:c ∈ X.fs
  ·obtain ⟨sl,q⟩:=slot c o (I.cne x c e) hc nch ho (I.freeC x c e)
   exact ⟨_,q,hd⟩
  ·exact ⟨o,keep c o (I.cne x c e) hc nch ho (I.freeC x c e),hd⟩
 refine ⟨I.ok,I.os,hg,⟨fun b o e n hb hx=>?_,fun b o e n hb hx=>?_,fun b o e n hx=>?_,fun b o e hx=>?_,fun b xs e=>tups b xs (I.base.tups b xs e),fun b o xs e=>frzs b o xs (I.base.frzs b o xs e),fun b ps e=>?_⟩,?_,fun x c e=>?_,?_,fun x c e=>?_,fun p hp=>?_,hok,I.len⟩
 ·exact keep b o (neL b o e) hb (neC b o e hx) (I.base.keep b o e n hb hx) (I.base.free b o e n hx)
 ·obtain ⟨sl,e1⟩:=I.base.slot b o e n hb hx
  obtain ⟨sl',e2⟩:=slot b _ (neL b o e) hb (neC b o e hx) e1 (I.base.free b o e n hx)
  exact ⟨sl',e2⟩
 ·obtain ⟨o',e1⟩:=I.base.there b o e hx
  exact free b o' (neC b o e hx) e1 (I.base.free b o e n hx)
 ·obtain ⟨o',e1⟩:=I.base.there b o e hx
  exact there b o' (neC b o e hx) e1
 ·obtain ⟨m1,e1⟩:=I.base.tbls b ps e
  obtain ⟨m2,e2⟩:=tbls b _ e1
  exact ⟨m1 ++ m2,by rw [e2,Array.append_assoc]⟩
 ·obtain ⟨m,hn,hl⟩:=I.loc
  refine ⟨m,ns m hn,fun i x v e1 e2 e3=>?_⟩
  obtain ⟨u,r,l⟩:=hl i x v e1 e2 e3
  refine ⟨u,r,?_⟩
  rcases l with l | ⟨k,c,e,z⟩
  ·exact .inl l
  ·exact .inr ⟨k,c,e,cellK x c e _ z⟩
 ·obtain ⟨v,z⟩:=I.cell x c e
  exact ⟨v,cellK x c e v z⟩
 ·obtain ⟨m,⟨o,_,_,ho,_⟩,_⟩:=I.loc
  exact free _ o (fun z=>(hch _ z).2.1 rfl) ho I.free
 ·obtain ⟨v,o,ho,hd⟩:=I.cell x c e
  exact free c o (fun z=>(hch c z).2.2.1 x c e rfl) ho (I.freeC x c e)
 ·obtain ⟨e,n,ne,nf,d⟩:=I.pin p hp
  have nch:p.1 ∉ ch:=fun z=>(hch p.1 z).2.2.2 p hp rfl
  exact ⟨keep p.1 p.2 ne nf nch e n,free p.1 p.2 nch e n,ne,nf,d⟩
theorem Inv.un {t':Nat} (I:Inv X pins σ H s) (u:Un X.fs [] H H' s.heap h') (hok:HOk X.prog X.w H' h'):Inv X pins σ H' { s with heap:=h',toks:=t' }:=by
 obtain ⟨m,⟨o,es,ep,ho,r⟩,_⟩:=id I.loc
 obtain ⟨sl,hL⟩:=u.any ho I.free (by simp)
 exact I.step (g':=s.gens) (d':=s.drawn) (ch:=[]) (fun _ z=>nomatch z) (fun b o _ hb _ e n=>u.keep b o e n hb (by simp)) (fun b o _ hb _ e n=>u.slot b o e n hb (by simp)) (fun b o _ e n=>u.free b o e n (by simp)) (fun b o _ e=>u.there b o e (by simp)) u.tups u.frzs u.tbls (fun m' hm=>by
  obtain ⟨o',es',ep',ho',r'⟩:=hm
  rw [ho] at ho'; cases ho'
  exact ⟨_,es',ep',hL,r'⟩) hok I.bare
theorem Inv.call {g':Array GenState} {t':Nat} {d':Drawn} {ch:List Addr} (I:Inv X pins σ H s) (u:Un (frs X.stack) ch H H' s.heap h') (hok:HOk X.prog X.w H' h') (hg:AllBare g')
  (hch:∀ b ∈ ch,(b ∈ X.ex ∨ X.s_0.heap.objs.size ≤ b) ∧ b ≠ X.env.locals ∧ (∀ x c,X.env.cells.lookup x = some c → c ≠ b) ∧ ∀ p ∈ X.pn ++ pins,p.1 ≠ b):
  Inv X pins σ H' { s with heap:=h',gens:=g',drawn:=d',toks:=t' }:=by
 obtain ⟨m,⟨o,es,ep,ho,r⟩,_⟩:=id I.loc
 obtain ⟨sl,hL⟩:=u.any ho I.free fun z=>(hch _ z).2.1 rfl
 exact I.step (ch:=ch) hch (fun b o hL hb hc e n=>u.keep b o e n (fun z=>(List.mem_cons.mp (I.stkSub b z)).elim hL hb) hc) (fun b o _ _ hc e n=>u.any e n hc) (fun b o hc e n=>u.free b o e n hc) (fun b o hc e=>u.there b o e hc) u.tups u.frzs u.tbls (fun m' hm=>by
  obtain ⟨o',es',ep',ho',r'⟩:=hm
  rw [ho] at ho'; cases ho'
  exact ⟨_,es',ep',hL,r'⟩) hok hg
theorem Inv.turned {t':Nat} {it:Addr} (I:Inv X pins σ H s) (k:∀ b o,b ≠ it → s.heap.get? b = some o → h'.get? b = some o) (hn:H it = none) (hL:it ≠ X.env.locals)
  (h1:it ∈ X.ex ∨ X.s_0.heap.objs.size ≤ it) (h2:∀ x c,X.env.cells.lookup x = some c → c ≠ it) (h3:∀ p ∈ X.pn ++ pins,p.1 ≠ it):Inv X pins σ H { s with heap:=h',toks:=t' }:=by
 have nit:∀ b u,H b = some u → b ≠ it:=fun b u e z=>by rw [z,hn] at e; cases e
 refine I.step (g':=s.gens) (d':=s.drawn) (ch:=[it]) (fun b hb=>?_) (fun b o _ _ hc e _=>k b o (fun z=>hc (by simp [z])) e) (fun b o _ _ hc e _=>⟨o.slots,k b o (fun z=>hc (by simp [z])) e⟩) (fun _ _ _ _ n=>n)
  (fun b o hc e=>⟨o,k b o (fun z=>hc (by simp [z])) e⟩) (fun _ _ e=>e) (fun _ _ _ e=>e) (fun b ps e=>⟨#[],by rw [e]; simp⟩) (fun m hm=>?_) (fun b u e=>?_) I.bare
 ·have e:b = it:=by simpa using hb
  subst e
  exact ⟨h1,hL,h2,h3⟩
 ·obtain ⟨o,es,ep,ho,r⟩:=hm
  exact ⟨o,es,ep,k _ o (Ne.symm hL) ho,r⟩
 ·refine (I.hok b u e).stay (fun c v hc q=>k c v ?_ q) (fun _ q=>q) fun _ _ q=>q
  rcases hc with z | z
  ·rw [z]; exact nit b u e
  ·exact nit c _ z
theorem Inv.tok (I:Inv X pins σ H s) (t:Nat):Inv X pins σ H { s with toks:=t }:=I.un (h':=s.heap) (t':=t) Un.refl I.hok
theorem Inv.kept {t':Nat} (I:Inv X pins σ H s) (k:∀ b u,s.heap.get? b = some u → h'.get? b = some u):Inv X pins σ H { s with heap:=h',toks:=t' }:=I.un (Un.kept k) (I.hok.kept k)
theorem Inv.laid {a:Addr} {o:HO} {t':Nat} (I:Inv X pins σ H s) (k:∀ b u,s.heap.get? b = some u → h'.get? b = some u) (hp:s.heap.objs.size ≤ a) (new:ObjOk X.prog X.w (upd H a o) h' a o):
  Inv X pins σ (upd H a o) { s with heap:=h',toks:=t' }:=I.un (Un.laid k hp (I.hok.fresh hp)) (I.hok.laid k hp new)
theorem Inv.write {x e:Addr} {o:HO} {t':Nat} (I:Inv X pins σ H s) (mu:Mut (H x)) (he:e = x ∨ H e = some (.own x)) (k:∀ b u,b ≠ e → s.heap.get? b = some u → h'.get? b = some u) (heo:∃ u,h'.get? e = some u)
  (new:ObjOk X.prog X.w (upd H x o) h' x o):Inv X pins σ (upd H x o) { s with heap:=h',toks:=t' }:=I.un (Un.write mu he k heo) (I.hok.write mu he k heo new)
theorem Inv.weak {σ':List (Option V)} (I:Inv X pins σ H s) (hl:σ'.length = σ.length) (w:∀ (i:Nat) v,σ'[i]? = some (some v) → σ[i]? = some (some v)):Inv X pins σ' H s:=
 ⟨I.ok,I.os,I.bare,I.base,let ⟨m,hn,hl'⟩:=I.loc; ⟨m,hn,fun i x v e1 e2 e3=>hl' i x v e1 (w i v e2) e3⟩,I.cell,I.free,I.freeC,I.pin,I.hok,hl.trans I.len⟩
theorem Inv.pins_of {pins':List (Addr × Obj)} (I:Inv X pins σ H s) (h:∀ p ∈ pins',s.heap.get? p.1 = some p.2 ∧ H p.1 = none ∧ p.1 ≠ X.env.locals ∧ p.1 ∉ X.fs ∧ ∀ v,p.2.data ≠ .cell v):Inv X pins' σ H s:=
 ⟨I.ok,I.os,I.bare,I.base,I.loc,I.cell,I.free,I.freeC,fun p hp=>(List.mem_append.mp hp).elim (fun z=>I.pin p (List.mem_append_left _ z)) (h p),I.hok,I.len⟩
theorem nodup_ix {N:List Str} (hN:N.Nodup) {i j:Nat} {x:Str} (a:N[i]? = some x) (b:N[j]? = some x):i = j:=by
 obtain ⟨h1,e1⟩:=List.getElem?_eq_some_iff.mp a
 obtain ⟨h2,e2⟩:=List.getElem?_eq_some_iff.mp b
 exact (List.getElem_inj hN).mp (e1.trans e2.symm)
theorem store_ok2 {M:Model} {A:Around} {E:Value → Shared → Prop} {i:Nat} {x:Str} {v:V} {u:Value} {Q:Unit → Shared → Prop} (I:Inv X pins σ H s) (hN:X.N.Nodup) (hi:X.N[i]? = some x) (hx:Loc X.env.scope x) (r:RelV v u)
  (h:∀ s',Inv X pins (σ.set i (some v)) H s' → (∃ a,Heap.SameBut a s.heap s'.heap ∧ (a = X.env.locals ∨ X.env.cells.lookup x = some a)) → Q () s') (hf:X.fn x = true ∨ X.env.scope.names.lookup x = some .local:=by first | exact .inl rfl | exact .inr rfl | assumption):wpAny M A (storeName X.env x u) Q E s:=by
 obtain ⟨m,hn,hl⟩:=id I.loc
 have hcls:(X.env.scope.kind == .class || (X.env.scope.kind == .module && X.env.locals != X.env.globals)) = false:=by rw [I.ok.kind]; rfl
 have hiσ:i < σ.length:=by rw [I.len]; exact (List.getElem?_eq_some_iff.mp hi).1
 have cne:=I.cne
 have tracked:∀ {a:Addr} {h':Heap},(∃ o,s.heap.get? a = some o ∧ H a = none) → Heap.SameBut a s.heap h' → HOk X.prog X.w H h':=fun {a h'} ha hs b ob e=>by
  obtain ⟨_,_,hfree⟩:=ha
  refine (I.hok b ob e).stay (fun c w' hc q=>(hs.2 c ?_).trans q) (fun _ q=>q) fun _ _ q=>q
  rintro rfl
  rcases hc with rfl | hc
  ·rw [hfree] at e; cases e
  ·rw [hfree] at hc; cases hc
 rcases hx with hk | hk
 ·refine wpAny_storeName_local hk hn (fun h' hn' hs=>?_) hcls
  obtain ⟨oL,_,_,hoL,_⟩:=id hn
  refine h _ ⟨I.ok,I.os,I.bare,⟨fun b o e n hb hx=>?_,fun b o e n hb hx=>?_,I.base.free,fun b o e hx=>?_,I.base.tups,I.base.frzs,I.base.tbls⟩,⟨_,hn',fun j y v' e1 e2 e3=>?_⟩,fun y c e=>?_,I.free,I.freeC,fun p hp=>?_,tracked ⟨oL,hoL,I.free⟩ hs,by simpa using I.len⟩ ⟨_,hs,.inl rfl⟩
  ·exact (hs.2 b (Nat.ne_of_lt (Nat.lt_of_lt_of_le (Heap.lt_size e) I.ok.above))).trans (I.base.keep b o e n hb hx)
  ·obtain ⟨sl,e1⟩:=I.base.slot b o e n hb hx
   exact ⟨sl,(hs.2 b (Nat.ne_of_lt (Nat.lt_of_lt_of_le (Heap.lt_size e) I.ok.above))).trans e1⟩
  ·obtain ⟨o',e1⟩:=I.base.there b o e hx
   exact ⟨o',(hs.2 b (Nat.ne_of_lt (Nat.lt_of_lt_of_le (Heap.lt_size e) I.ok.above))).trans e1⟩
  ·by_cases hj:j = i
   ·subst hj
    rw [hi] at e1; cases e1
    rw [List.getElem?_set_self hiσ] at e2
    cases e2
    exact ⟨u,r,.inl ⟨hk,by simp⟩⟩
   ·rw [List.getElem?_set_ne (Ne.symm hj)] at e2
    obtain ⟨u',r',q⟩:=hl j y v' e1 e2 e3
    refine ⟨u',r',?_⟩
    rcases q with ⟨k,e⟩ | ⟨k,c,e,z⟩
    ·refine .inl ⟨k,?_⟩
     have:y ≠ x:=fun e=>hj (nodup_ix hN e1 (e ▸ hi))
     simp [this,e]
    ·exact .inr ⟨k,c,e,z.sameBut hs (cne y c e)⟩
  ·obtain ⟨w',z⟩:=I.cell y c e
   exact ⟨w',z.sameBut hs (cne y c e)⟩
  ·obtain ⟨e,n,ne,nf,d⟩:=I.pin p hp
   exact ⟨(hs.2 p.1 ne).trans e,n,ne,nf,d⟩
 ·have hfn:X.fn x = true:=by
   rcases hf with z | z
   ·exact z
   ·rw [z] at hk; cases hk
  obtain ⟨c,hc⟩:=I.ok.has x (.inl hk)
  obtain ⟨w',z⟩:=I.cell x c hc
  refine wpAny_storeName_cell I.ok.kind hk hc z (fun h' hc' hs=>?_)
  obtain ⟨oc,hoc,hocd⟩:=id z
  refine h { s with heap:=h' } ⟨I.ok,I.os,I.bare,⟨fun b o e n hb hx=>?_,fun b o e n hb hx=>?_,I.base.free,fun b o e hx=>?_,I.base.tups,I.base.frzs,I.base.tbls⟩,⟨m,hn.sameBut hs (Ne.symm (cne x c hc)),fun j y v' e1 e2 e3=>?_⟩,fun y c' e=>?_,I.free,I.freeC,fun p hp=>?_,tracked ⟨oc,hoc,I.freeC x c hc⟩ hs,by simpa using I.len⟩ ⟨c,hs,.inr hc⟩
  ·exact (hs.2 b (Nat.ne_of_lt (Nat.lt_of_lt_of_le (Heap.lt_size e) (I.ok.cab x c hfn hc)))).trans (I.base.keep b o e n hb hx)
  ·obtain ⟨sl,e1⟩:=I.base.slot b o e n hb hx
   exact ⟨sl,(hs.2 b (Nat.ne_of_lt (Nat.lt_of_lt_of_le (Heap.lt_size e) (I.ok.cab x c hfn hc)))).trans e1⟩
  ·obtain ⟨o',e1⟩:=I.base.there b o e hx
   exact ⟨o',(hs.2 b (Nat.ne_of_lt (Nat.lt_of_lt_of_le (Heap.lt_size e) (I.ok.cab x c hfn hc)))).trans e1⟩
  ·by_cases hj:j = i
   ·subst hj
    rw [hi] at e1; cases e1
    rw [List.getElem?_set_self hiσ] at e2
    cases e2
    exact ⟨u,r,.inr ⟨.inl hk,c,hc,hc'⟩⟩
   ·rw [List.getElem?_set_ne (Ne.symm hj)] at e2
    obtain ⟨u',r',q⟩:=hl j y v' e1 e2 e3
    refine ⟨u',r',?_⟩
    rcases q with q | ⟨k,c',e,z'⟩
    ·exact .inl q
    ·refine .inr ⟨k,c',e,z'.sameBut hs ?_⟩
     rintro rfl
     exact hj (nodup_ix hN e1 (I.ok.inj _ _ _ e hc ▸ hi))
  ·by_cases hcc:c' = c
   ·subst hcc; exact ⟨_,hc'⟩
   ·obtain ⟨w2,z2⟩:=I.cell y c' e
    exact ⟨w2,z2.sameBut hs hcc⟩
  ·obtain ⟨e,n,ne,nf,d⟩:=I.pin p hp
   refine ⟨(hs.2 p.1 ?_).trans e,n,ne,nf,d⟩
   intro q
   rw [q,hoc] at e
   have q':oc = p.2:=Option.some.inj e
   exact d w' (by rw [← q']; exact hocd)
theorem store_ok {M:Model} {A:Around} {E:Value → Shared → Prop} {i:Nat} {x:Str} {v:V} {u:Value} {Q:Unit → Shared → Prop} (I:Inv X pins σ H s) (hN:X.N.Nodup) (hi:X.N[i]? = some x) (hx:Loc X.env.scope x) (r:RelV v u)
  (h:∀ s',Inv X pins (σ.set i (some v)) H s' → Q () s') (hf:X.fn x = true ∨ X.env.scope.names.lookup x = some .local:=by first | exact .inl rfl | exact .inr rfl | assumption):wpAny M A (storeName X.env x u) Q E s:=
 store_ok2 I hN hi hx r (fun s' I' _=>h s' I') hf
theorem Inv.call' {s':Shared} {ch:List Addr} (I:Inv X pins σ H s) (ho:s'.os = s.os) (u:Un (frs X.stack) ch H H' s.heap s'.heap) (hok:HOk X.prog X.w H' s'.heap) (hg:AllBare s'.gens)
  (hch:∀ b ∈ ch,(b ∈ X.ex ∨ X.s_0.heap.objs.size ≤ b) ∧ b ≠ X.env.locals ∧ (∀ x c,X.env.cells.lookup x = some c → c ≠ b) ∧ ∀ p ∈ X.pn ++ pins,p.1 ≠ b):Inv X pins σ H' s':=by
 obtain ⟨h',g',d',t',o'⟩:=s'
 have e:o' = s.os:=ho
 subst e
 exact I.call (g':=g') (t':=t') (d':=d') u hok hg hch
end
abbrev XK:=Value → Option Addr → Hp → Prop
abbrev St:=List (Option V)
abbrev VK:=V → Hp → Prop
abbrev TE:=St → Hp → VK → Prop
abbrev TT:=St → Hp → (Bool → Hp → Prop) → Prop
abbrev TA:=St → Hp → (List V → Hp → Prop) → Prop
structure Ends where
 nx:St → Hp → Prop
 rt:VK
 bk:St → Hp → Prop:=fun _ _=>False
 ct:St → Hp → Prop:=fun _ _=>False
abbrev TS:=Ends → St → Hp → Prop
def EP (X:Cx) (pins:List (Addr × Obj)) (σ:St) (Q:VK) (u:Value) (s':Shared):Prop:=∃ v H',Inv X pins σ H' s' ∧ RelV v u ∧ Q v H'
def TP (X:Cx) (pins:List (Addr × Obj)) (σ:St) (Q:Bool → Hp → Prop) (b:Bool) (s':Shared):Prop:=∃ H',Inv X pins σ H' s' ∧ Q b H'
def AP (X:Cx) (pins:List (Addr × Obj)) (σ:St) (Q:List V → Hp → Prop) (us:List Value) (s':Shared):Prop:=∃ vs H',Inv X pins σ H' s' ∧ Vals vs us ∧ Q vs H'
def SP (X:Cx) (pins:List (Addr × Obj)) (D:Ends) (f:Flow) (s':Shared):Prop:=
 match f with
 | .next=>∃ σ' H',Inv X pins σ' H' s' ∧ D.nx σ' H'
 | .brk=>∃ σ' H',Inv X pins σ' H' s' ∧ D.bk σ' H'
 | .cont=>∃ σ' H',Inv X pins σ' H' s' ∧ D.ct σ' H'
 | .ret u=>∃ v σ' H',Inv X pins σ' H' s' ∧ RelV v u ∧ D.rt v H'
def PE (X:Cx) (e:Expr) (t:TE):Prop:=
 ∀ (pins:List (Addr × Obj)) (s:Shared) (σ:St) (H:Hp) (Q:VK),Inv X pins σ H s → t σ H Q → wpAny (model X.prog X.w) X.A (eval e X.env) (EP X pins σ Q) X.xe s
def PT (X:Cx) (e:Expr) (t:TT):Prop:=
 ∀ (pins:List (Addr × Obj)) (s:Shared) (σ:St) (H:Hp) (Q:Bool → Hp → Prop),Inv X pins σ H s → t σ H Q → wpAny (model X.prog X.w) X.A (isTrue e X.env (eval e X.env)) (TP X pins σ Q) X.xe s
def PW (X:Cx) (e:Expr) (t:TT):Prop:=
 ∀ (whole:Sem Value) (pins:List (Addr × Obj)) (s:Shared) (σ:St) (H:Hp) (Q:Bool → Hp → Prop),Inv X pins σ H s → t σ H Q → wpAny (model X.prog X.w) X.A (isTrue e X.env whole) (TP X pins σ Q) X.xe s
theorem PW.pt {X:Cx} {e:Expr} {t:TT} (h:PW X e t):PT X e t:=h _
def PA (X:Cx) (es:List Expr) (t:TA):Prop:=
 ∀ (pos:Pos) (pins:List (Addr × Obj)) (s:Shared) (σ:St) (H:Hp) (Q:List V → Hp → Prop),Inv X pins σ H s → t σ H Q → wpAny (model X.prog X.w) X.A (spliced (backTo pos (starEach es X.env))) (AP X pins σ Q) X.xe s
def PS (X:Cx) (st:Stmt) (t:TS):Prop:=
 ∀ (pins:List (Addr × Obj)) (s:Shared) (σ:St) (H:Hp) (D:Ends),Inv X pins σ H s → t D σ H → wpAny (model X.prog X.w) X.A (exec st X.env) (SP X pins D) X.xe s
def PSs (X:Cx) (st:List Stmt) (t:TS):Prop:=
 ∀ (pins:List (Addr × Obj)) (s:Shared) (σ:St) (H:Hp) (D:Ends),Inv X pins σ H s → t D σ H → wpAny (model X.prog X.w) X.A (execs st X.env) (SP X pins D) X.xe s
theorem thn {α:Type} {t:Sem α} {Q Q':α → Shared → Prop} {M:Model} {A:Around} {E:Value → Shared → Prop} {s:Shared} (h:wpAny M A t Q E s) (hQ:∀ a s,Q a s → Q' a s):wpAny M A t Q' E s:=wpAny_mono h hQ fun _ _ x=>x
end L2
namespace L2
open PySem PySem.Spec PyProof.Rows
section
variable {X:Cx}
def tVar (i:Nat):TE:=fun σ H Q=>∃ v,σ[i]? = some (some v) ∧ Q v H
def tC (v:V):TE:=fun _ H Q=>Q v H
theorem pe_var {i:Nat} {x:Str} {pos:Pos} (hN:X.N[i]? = some x) (hv:Vis X.env.scope x) (hd:(x == ("__debug__":Str)) = false:=by decide) (hcd:(x == ("__classdict__":Str)) = false:=by decide):PE X (.Name x pos) (tVar i):=by
 intro pins s σ H Q I h
 obtain ⟨v,e,h⟩:=h
 obtain ⟨m,hn,hl⟩:=I.loc
 obtain ⟨u,r,l⟩:=hl i x v hN e hv
 have fin:EP X pins σ Q u s:=⟨v,H,I,r,h⟩
 rcases l with ⟨hk,hm⟩ | ⟨hk,c,hc,hcell⟩
 ·exact wpAny_Name (wpAny_loadName_local I.ok.kind hk hn hm fin) hd
 ·rcases hk with hk | hk
  ·exact wpAny_Name (wpAny_loadName_cell I.ok.kind hk hc hcell fin) hd
  ·exact wpAny_Name (wpAny_loadName_free I.ok.kind hk hc hcell fin hcd) hd
theorem pe_int {i j pos}:PE X (.Constant (.int i) j pos) (tC (.int i)):=fun _ _ _ H _ I h=>wpAny_Constant_int ⟨.int i,H,I.tok _,⟨_,rfl⟩,h⟩
theorem pe_bl {b j pos}:PE X (.Constant (.bool b) j pos) (tC (.bl b)):=fun _ _ _ H _ I h=>Constant_bool ⟨.bl b,H,I,rfl,h⟩
theorem pe_non {j pos}:PE X (.Constant .none j pos) (tC .non):=fun _ _ _ H _ I h=>Constant_none ⟨.non,H,I,rfl,h⟩
def Gl (X:Cx) (x:Str):Prop:=X.env.kindOf x = some .globalImplicit
theorem ld_glob {E:Value → Shared → Prop} {pins:List (Addr × Obj)} {s:Shared} {σ:St} {H:Hp} {x:Str} {u:Value} {pos:Pos} {Q:Value → Shared → Prop} (I:Inv X pins σ H s) (hg:Gl X x) (hm:X.mg x = some u) (h:Q u s)
  (hd:(x == ("__debug__":Str)) = false:=by decide):wpAny (model X.prog X.w) X.A (eval (.Name x pos) X.env) Q E s:=
 Calls.Name_function_global I.ok.kind hg (Calls.loadGlobal_global (by rw [I.ok.glob]; exact I.mod.glob.keeps I.bk) hm h) hd
theorem ld_blt {E:Value → Shared → Prop} {pins:List (Addr × Obj)} {s:Shared} {σ:St} {H:Hp} {x:Str} {u:Value} {pos:Pos} {Q:Value → Shared → Prop} (I:Inv X pins σ H s) (hg:Gl X x) (hm:X.mg x = none) (hv:bootBuiltins x = some u) (h:Q u s)
  (hn:x ≠ "__name__":=by decide) (hd:(x == ("__debug__":Str)) = false:=by decide):wpAny (model X.prog X.w) X.A (eval (.Name x pos) X.env) Q E s:=by
 obtain ⟨mb,h1,h2⟩:=I.mod.blt
 exact Calls.Name_function_global I.ok.kind hg (Calls.loadGlobal_builtin (by rw [I.ok.glob]; exact I.mod.glob.keeps I.bk) hm (by rw [I.ok.blt]; exact h1.keeps I.bk) ((h2 x hn).trans hv) h) hd
theorem pe_glob {x:Str} {v:V} {u:Value} {pos:Pos} (hg:Gl X x) (hm:X.mg x = some u) (r:RelV v u) (hd:(x == ("__debug__":Str)) = false:=by decide):PE X (.Name x pos) (tC v):=
 fun _ _ _ H _ I h=>ld_glob I hg hm ⟨v,H,I,r,h⟩ hd
variable {a b:Expr} {ta tb:TE} {pos:Pos}
def PC (X:Cx) (op:CmpOp) (a b:Expr) (t:TE):Prop:=
 ∀ (pins:List (Addr × Obj)) (s:Shared) (σ:St) (H:Hp) (Q:VK),Inv X pins σ H s → t σ H Q →
  wpAny (model X.prog X.w) X.A (eval a X.env) (fun v s₁=>wpAny (model X.prog X.w) X.A (eval b X.env) (fun u s₂=>wpAny (model X.prog X.w) X.A (compareOp op v u) (EP X pins σ Q) X.xe s₂) X.xe s₁) X.xe s
theorem nobehind (b:Expr) {op:CmpOp} (h:op ≠ .In) (h2:op ≠ .NotIn):behindInMarks op b = false:=by
 have e1:(op == CmpOp.In) = false:=by cases op <;> first | rfl | exact absurd rfl h
 have e2:(op == CmpOp.NotIn) = false:=by cases op <;> first | rfl | exact absurd rfl h2
 cases b <;> simp [behindInMarks,e1,e2]
def tIsN (ta:TE):TE:=fun σ H Q=>ta σ H fun x H1=>Q (.bl (decide (x = .non))) H1
def tNotN (ta:TE):TE:=fun σ H Q=>ta σ H fun x H1=>Q (.bl (!decide (x = .non))) H1
theorem RelV.none_iff {x:V} {v:Value} (r:RelV x v):(v == Value.none) = decide (x = .non):=by
 cases x with
 | non=>cases r; rfl
 | bl _=>cases r; rfl
 | int _=>obtain ⟨t,rfl⟩:=r; rfl
 | str _=>obtain ⟨t,rfl⟩:=r; rfl
 | byt _=>obtain ⟨t,rfl⟩:=r; rfl
 | flt _=>obtain ⟨t,rfl⟩:=r; rfl
 | ref _=>cases r; rfl
 | ty _=>cases r; rfl
theorem pc_isN {j pos'} (ha:PE X a ta):PC X .Is a (.Constant .none j pos') (tIsN ta):=by
 intro pins s σ H Q I h
 refine thn (ha pins s σ H _ I h) fun v s1 ⟨x,H1,I1,r1,q1⟩=>?_
 exact Constant_none (is_none_gen ⟨.bl _,H1,I1,by rw [r1.none_iff]; rfl,q1⟩)
theorem pc_notN {j pos'} (ha:PE X a ta):PC X .IsNot a (.Constant .none j pos') (tNotN ta):=by
 intro pins s σ H Q I h
 refine thn (ha pins s σ H _ I h) fun v s1 ⟨x,H1,I1,r1,q1⟩=>?_
 exact Constant_none (isnot_none_gen ⟨.bl _,H1,I1,by rw [r1.none_iff]; rfl,q1⟩)
def tB (t:TE):TT:=fun σ H Q=>t σ H fun x H1=>∃ c,x = .bl c ∧ Q c H1
theorem pt_cmp {op:CmpOp} {t:TE} (h:PC X op a b t) (h1:behindInMarks op b = false:=by first | exact nobehind _ (by decide) (by decide) | rfl):PT X (.Compare a [op] [b] pos) (tB t):=by
 intro pins s σ H Q I hw
 refine wpAny_isTrue_Compare1 (thn (h pins s σ H _ I hw) fun v s1 h1=>thn h1 fun u s2 h2=>thn h2 fun c s3 ⟨x,H1,I1,r1,q1⟩=>?_) h1
 obtain ⟨d,rfl,q⟩:=q1
 cases r1
 exact wpAny_truthy_bool ⟨H1,I1,q⟩
theorem pt_val {e:Expr} {t:TE} (h:PE X e t) (he:∀ whole,isTrue e X.env whole = (do let v ← whole; standAt e.pos; holding [v] (truthy v)):=by intro _; rfl):PT X e (tB t):=by
 intro pins s σ H Q I hw
 refine isTrue_plain (thn (h pins s σ H _ I hw) fun v s1 ⟨x,H1,I1,r1,q1⟩=>?_) (he _)
 obtain ⟨d,rfl,q⟩:=q1
 cases r1
 exact wpAny_truthy_bool ⟨H1,I1,q⟩
variable {tA tB':TT} {rest:List Expr}
def tAnd (t u:TT):TT:=fun σ H Q=>t σ H fun c H1=>if c = true then u σ H1 Q else Q false H1
def tOr (t u:TT):TT:=fun σ H Q=>t σ H fun c H1=>if c = true then Q true H1 else u σ H1 Q
def tNot (t:TT):TT:=fun σ H Q=>t σ H fun c H1=>Q (!c) H1
theorem pw_and1 (ha:PT X a tA):PW X (.BoolOp .And [a] pos) tA:=by
 intro wh pins s σ H Q I h
 refine isTrue_and (thn (ha pins s σ H Q I h) fun c s1 e=>?_)
 cases c with
 | true=>exact isTrue_and_nil e
 | false=>exact e
theorem pw_or1 (ha:PT X a tA):PW X (.BoolOp .Or [a] pos) tA:=by
 intro wh pins s σ H Q I h
 refine isTrue_or (thn (ha pins s σ H Q I h) fun c s1 e=>?_)
 cases c with
 | false=>exact isTrue_or_nil e
 | true=>exact e
theorem pw_and (ha:PT X a tA) (hb:PW X (.BoolOp .And (b :: rest) pos) tB'):PW X (.BoolOp .And (a :: b :: rest) pos) (tAnd tA tB'):=by
 intro wh pins s σ H Q I h
 refine isTrue_and (thn (ha pins s σ H _ I h) fun c s1 ⟨H1,I1,q1⟩=>?_)
 cases c with
 | true=>exact hb wh pins s1 σ H1 Q I1 q1
 | false=>exact ⟨H1,I1,q1⟩
theorem pw_or (ha:PT X a tA) (hb:PW X (.BoolOp .Or (b :: rest) pos) tB'):PW X (.BoolOp .Or (a :: b :: rest) pos) (tOr tA tB'):=by
 intro wh pins s σ H Q I h
 refine isTrue_or (thn (ha pins s σ H _ I h) fun c s1 ⟨H1,I1,q1⟩=>?_)
 cases c with
 | true=>exact ⟨H1,I1,q1⟩
 | false=>exact hb wh pins s1 σ H1 Q I1 q1
theorem pt_not (ha:PT X a tA):PT X (.UnaryOp .Not a pos) (tNot tA):=by
 intro pins s σ H Q I h
 exact isTrue_not (ha pins s σ H (fun c H1=>Q (!c) H1) I h)
def tAndV (ta tb:TE):TE:=fun σ H Q=>ta σ H fun x H1=>∃ c,x = .bl c ∧ if c = true then tb σ H1 Q else Q (.bl false) H1
theorem pe_one {op} {t:TE} (h:PE X a t):PE X (.BoolOp op [a] pos) t:=fun pins s σ H Q I hw=>BoolOp_one (h pins s σ H Q I hw)
theorem pe_and (ha:PE X a ta) (hb:PE X (.BoolOp .And (b :: rest) pos) tb):PE X (.BoolOp .And (a :: b :: rest) pos) (tAndV ta tb):=by
 intro pins s σ H Q I h
 refine BoolOp_and (thn (ha pins s σ H _ I h) fun v s1 ⟨x,H1,I1,r1,q1⟩=>?_)
 obtain ⟨c,rfl,q1⟩:=q1
 cases r1
 refine wpAny_truthy_bool ?_
 cases c with
 | true=>exact hb pins s1 σ H1 Q I1 q1
 | false=>exact ⟨.bl false,H1,I1,rfl,q1⟩
def tIf (t:TT) (ta tb:TE):TE:=fun σ H Q=>t σ H fun c H1=>if c = true then ta σ H1 Q else tb σ H1 Q
theorem pe_ifExp {c:Expr} (hc:PT X c tA) (ha:PE X a ta) (hb:PE X b tb):PE X (.IfExp c a b pos) (tIf tA ta tb):=by
 intro pins s σ H Q I h
 refine wpAny_IfExp (thn (hc pins s σ H _ I h) fun d s1 ⟨H1,I1,q1⟩=>?_)
 cases d with
 | true=>exact ha pins s1 σ H1 Q I1 q1
 | false=>exact hb pins s1 σ H1 Q I1 q1
end
end L2
namespace L2
open PySem PySem.Spec PyProof.Rows
def SqL (K:PySem.W.Frag) (H:Hp) (a:Addr) (xs:List V):Prop:=
 Rd H a (.lst xs) ∨
  ∃ (o:Obj) (its:Array Value) (n:Nat),K.lookup a = some o ∧ o.cls = .type "list" ∧ o.dict = none ∧ o.data = .seq its n ∧ its.size ≤ sizeLine ∧ Vals xs its.toList
def SqT (K:PySem.W.Frag) (H:Hp) (a:Addr) (xs:List V):Prop:=
 Rd H a (.tup xs) ∨
  ∃ (o:Obj) (its:Array Value) (n:Nat),K.lookup a = some o ∧ o.cls = .type "tuple" ∧ o.data = .seq its n ∧ its.size ≤ sizeLine ∧ Vals xs its.toList
def absV:Value → Option V
 | .none=>some .non
 | .bool b=>some (.bl b)
 | .int i _=>some (.int i)
 | .str x _=>some (.str x)
 | .bytes b _=>some (.byt b)
 | .float b _=>some (.flt b)
 | .ref a=>some (.ref a)
 | .type n=>some (.ty n)
 | _=>none
theorem RelV.abs {x:V} {u:Value} (r:RelV x u):absV u = some x:=by
 cases x with
 | non=>cases r; rfl
 | bl _=>cases r; rfl
 | int _=>obtain ⟨t,rfl⟩:=r; rfl
 | str _=>obtain ⟨t,rfl⟩:=r; rfl
 | byt _=>obtain ⟨t,rfl⟩:=r; rfl
 | flt _=>obtain ⟨t,rfl⟩:=r; rfl
 | ref _=>cases r; rfl
 | ty _=>cases r; rfl
theorem RelV.inj {x y:V} {u:Value} (r:RelV x u) (q:RelV y u):x = y:=Option.some.inj (r.abs.symm.trans q.abs)
theorem Vals.inj:∀ {xs ys:List V} {us:List Value},Vals xs us → Vals ys us → xs = ys
 | _,_,_,.nil,.nil=>rfl
 | _,_,_,.cons r t,.cons r' t'=>by rw [r.inj r',Vals.inj t t']
section
variable {X:Cx} {pins:List (Addr × Obj)} {σ:St} {H:Hp} {s:Shared} {a:Addr} {xs ys:List V}
theorem SqL.of {K:PySem.W.Frag} (h:H a = some (.lst xs)):SqL K H a xs:=.inl (.inl h)
theorem SqT.of {K:PySem.W.Frag} (h:H a = some (.tup xs)):SqT K H a xs:=.inl (.inl h)
theorem Inv.list (I:Inv X pins σ H s) (h:SqL X.K H a xs):∃ its:List Value,Vals xs its ∧ PlainL s.heap a its.toArray ∧ xs.length ≤ sizeLine:=by
 rcases h with h | ⟨o,its,n,hk,hc,hd,hs,hz,r⟩
 ·obtain ⟨z,its,n,r,e⟩:=h.ok I.hok
  exact ⟨its,r,⟨_,n,e,rfl,rfl,rfl⟩,z⟩
 ·refine ⟨its.toList,r,⟨o,n,I.kIn a o hk,hc,hd,by simpa using hs⟩,?_⟩
  have e:=r.length
  simp only [Array.length_toList] at e
  omega
theorem Inv.tuple (I:Inv X pins σ H s) (h:SqT X.K H a xs):∃ its:List Value,Vals xs its ∧ IsTup s.heap a its.toArray ∧ xs.length ≤ sizeLine:=by
 rcases h with h | ⟨o,its,n,hk,hc,hs,hz,r⟩
 ·obtain ⟨z,its,r,p⟩:=h.ok I.hok
  exact ⟨its,r,p,z⟩
 ·refine ⟨its.toList,r,⟨o,I.kIn a o hk,hc,n,by simpa using hs⟩,?_⟩
  have e:=r.length
  simp only [Array.length_toList] at e
  omega
theorem Inv.list_inj (I:Inv X pins σ H s) (h:SqL X.K H a xs) (h':SqL X.K H a ys):xs = ys:=by
 obtain ⟨its,r,⟨o,n,e,_,_,d⟩,_⟩:=I.list h
 obtain ⟨its',r',⟨o',n',e',_,_,d'⟩,_⟩:=I.list h'
 rw [e] at e'; cases e'
 rw [d] at d'
 injection d' with d1 _
 have:its = its':=by simpa using congrArg Array.toList d1
 subst this
 exact r.inj r'
theorem Inv.tuple_inj (I:Inv X pins σ H s) (h:SqT X.K H a xs) (h':SqT X.K H a ys):xs = ys:=by
 obtain ⟨its,r,⟨o,e,_,n,d⟩,_⟩:=I.tuple h
 obtain ⟨its',r',⟨o',e',_,n',d'⟩,_⟩:=I.tuple h'
 rw [e] at e'; cases e'
 rw [d] at d'
 injection d' with d1 _
 have:its = its':=by simpa using congrArg Array.toList d1
 subst this
 exact r.inj r'
end
abbrev Cx.wish (X:Cx) (E:Value → Shared → Prop):Cx:={ X with xe:=E }
abbrev Cx.nox (X:Cx):Cx:=X.wish fun _ _=>False
theorem Cx.Ok.wish {X:Cx} (ok:X.Ok) (E:Value → Shared → Prop):(X.wish E).Ok:=
 ⟨ok.mod,ok.kind,ok.glob,ok.blt,ok.above,ok.inj,ok.has,ok.cab,ok.hd,ok.frames,ok.stk,ok.exf,ok.bs,ok.bsz,ok.noex,ok.exfs,ok.funs,ok.frf⟩
theorem Cx.Ok.unwish {X:Cx} {E:Value → Shared → Prop} (ok:(X.wish E).Ok):X.Ok:=
 ⟨ok.mod,ok.kind,ok.glob,ok.blt,ok.above,ok.inj,ok.has,ok.cab,ok.hd,ok.frames,ok.stk,ok.exf,ok.bs,ok.bsz,ok.noex,ok.exfs,ok.funs,ok.frf⟩
section
variable {X:Cx} {pins:List (Addr × Obj)} {σ:St} {H:Hp} {s:Shared} {E:Value → Shared → Prop}
theorem Inv.wish (I:Inv X pins σ H s) (E:Value → Shared → Prop):Inv (X.wish E) pins σ H s:=⟨I.ok.wish E,I.os,I.bare,I.base,I.loc,I.cell,I.free,I.freeC,I.pin,I.hok,I.len⟩
theorem Inv.unwish (I:Inv (X.wish E) pins σ H s):Inv X pins σ H s:=⟨I.ok.unwish,I.os,I.bare,I.base,I.loc,I.cell,I.free,I.freeC,I.pin,I.hok,I.len⟩
theorem SP.unwish {D:Ends} {f:Flow} {s':Shared} (h:SP (X.wish E) pins D f s'):SP X pins D f s':=by
 cases f with
 | next=>obtain ⟨σ',H',I,q⟩:=h; exact ⟨σ',H',I.unwish,q⟩
 | brk=>obtain ⟨σ',H',I,q⟩:=h; exact ⟨σ',H',I.unwish,q⟩
 | cont=>obtain ⟨σ',H',I,q⟩:=h; exact ⟨σ',H',I.unwish,q⟩
 | ret u=>obtain ⟨v,σ',H',I,r,q⟩:=h; exact ⟨v,σ',H',I.unwish,r,q⟩
theorem PSs.nox {st:List Stmt} {t:TS} (h:PSs X.nox st t):PSs X st t:=fun pins s σ H D I hw=>
 wpAny_mono (h pins s σ H D (I.wish _) hw) (fun _ _ q=>q.unwish) fun _ _ z=>False.elim z
end
section
variable {X:Cx} {st:Stmt} {rest:List Stmt} {t u:TS} {e:Expr} {te:TE} {pos:Pos}
def tNext:TS:=fun D σ H=>D.nx σ H
def tSeq (t u:TS):TS:=fun D σ H=>t { D with nx:=u D } σ H
theorem pss_nil:PSs X [] tNext:=fun _ _ σ H _ I h=>wpAny_execs_nil ⟨σ,H,I,h⟩
theorem pss_cons (h1:PS X st t) (h2:PSs X rest u):PSs X (st :: rest) (tSeq t u):=by
 intro pins s σ H D I h
 refine wpAny_execs_cons (thn (h1 pins s σ H { D with nx:=u D } I h) fun f s1 q=>?_)
 cases f with
 | next=>
  obtain ⟨σ',H',I',q⟩:=q
  exact h2 pins s1 σ' H' D I' q
 | ret v=>exact q
 | brk=>exact q
 | cont=>exact q
theorem pss_one (h1:PS X st t):PSs X [st] t:=by
 intro pins s σ H D I h
 refine wpAny_execs_cons (thn (h1 pins s σ H D I h) fun f s1 q=>?_)
 cases f with
 | next=>exact wpAny_execs_nil q
 | ret v=>exact q
 | brk=>exact q
 | cont=>exact q
def tBreak:TS:=fun D σ H=>D.bk σ H
theorem ps_break:PS X (.Break pos) tBreak:=fun _ _ σ H _ I h=>wpAny_Break ⟨σ,H,I,h⟩
theorem Inv.quiet {pins:List (Addr × Obj)} {σ:St} {H:Hp} {s:Shared} (I:Inv X pins σ H s):interactive X.env = false:=by simp [interactive,I.ok.kind]
def tDrop (te:TE):TS:=fun D σ H=>te σ H fun _ H1=>D.nx σ H1
theorem ps_expr (he:PE X e te) (hs:swapsWith e none pos.line X.env = pure false:=by rfl):PS X (.Expr e pos) (tDrop te):=by
 intro pins s σ H D I h
 exact wpAny_Expr_any (thn (he pins s σ H _ I h) fun v s1 ⟨x,H1,I1,r1,q1⟩=>⟨σ,H1,I1,q1⟩) I.quiet hs
def tRet (te:TE):TS:=fun D σ H=>te σ H D.rt
theorem ps_ret (he:PE X e te):PS X (.Return (some e) pos) (tRet te):=by
 intro pins s σ H D I h
 exact wpAny_Return_some (thn (he pins s σ H _ I h) fun v s1 ⟨x,H1,I1,r1,q1⟩=>⟨x,σ,H1,I1,r1,q1⟩)
def tIfS (c:TT) (t u:TS):TS:=fun D σ H=>c σ H fun b H1=>if b = true then t D σ H1 else u D σ H1
theorem ps_if {c:Expr} {a b:List Stmt} {tc:TT} (hc:PT X c tc) (ha:PSs X a t) (hb:PSs X b u):PS X (.If c a b pos) (tIfS tc t u):=by
 intro pins s σ H D I h
 refine wpAny_If (thn (hc pins s σ H _ I h) fun d s1 ⟨H1,I1,q1⟩=>?_)
 cases d with
 | true=>exact ha pins s1 σ H1 D I1 q1
 | false=>exact hb pins s1 σ H1 D I1 q1
def tNever:TS:=fun _ _ _=>False
theorem pss_never {sts:List Stmt}:PSs X sts tNever:=fun _ _ _ _ _ _ h=>h.elim
end
abbrev TG:=V → St → Hp → (St → Hp → Prop) → Prop
abbrev TGs:=List V → St → Hp → (St → Hp → Prop) → Prop
def PG (X:Cx) (target:Expr) (t:TG):Prop:=
 ∀ (pins:List (Addr × Obj)) (s:Shared) (σ:St) (H:Hp) (v:V) (u:Value) (Q:St → Hp → Prop),Inv X pins σ H s → RelV v u → t v σ H Q →
  wpAny (model X.prog X.w) X.A (assign target X.env u) (fun _ s'=>∃ σ' H',Inv X pins σ' H' s' ∧ Q σ' H') X.xe s
def PGs (X:Cx) (ts:List Expr) (t:TGs):Prop:=
 ∀ (pins:List (Addr × Obj)) (s:Shared) (σ:St) (H:Hp) (vs:List V) (us:List Value) (Q:St → Hp → Prop),Inv X pins σ H s → Vals vs us → t vs σ H Q →
  wpAny (model X.prog X.w) X.A (assignInOrder ((assignEach ts X.env).map (·.2)) us) (fun _ s'=>∃ σ' H',Inv X pins σ' H' s' ∧ Q σ' H') X.xe s
abbrev TSet:=V → V → V → Hp → (Hp → Prop) → Prop
def PSet (X:Cx) (t:TSet):Prop:=
 ∀ (pins:List (Addr × Obj)) (s:Shared) (σ:St) (H:Hp) (o i v:V) (ov iv u:Value) (Q:Hp → Prop),Inv X pins σ H s → RelV o ov → RelV i iv → RelV v u → t o i v H Q →
  wpAny (model X.prog X.w) X.A (setItem ov iv u) (fun _ s'=>∃ H',Inv X pins σ H' s' ∧ Q H') X.xe s
abbrev TIp:=V → V → Hp → VK → Prop
def PIp (X:Cx) (op:Operator) (t:TIp):Prop:=
 ∀ (pins:List (Addr × Obj)) (s:Shared) (σ:St) (H:Hp) (x y:V) (v u:Value) (Q:VK),Inv X pins σ H s → RelV x v → RelV y u → t x y H Q →
  wpAny (model X.prog X.w) X.A (inplaceOp op v u) (EP X pins σ Q) X.xe s
section
variable {X:Cx} {pos:Pos}
def gName (i:Nat):TG:=fun v σ H Q=>Q (σ.set i (some v)) H
theorem pg_name {i:Nat} {x:Str} (hN:X.N.Nodup) (hi:X.N[i]? = some x) (hx:Loc X.env.scope x) (hf:X.fn x = true ∨ X.env.scope.names.lookup x = some .local:=by first | exact .inl rfl | exact .inr rfl | assumption):PG X (.Name x pos) (gName i):=by
 intro pins s σ H v u Q I r h
 exact wpAny_assign_Name (store_ok I hN hi hx r (fun s' I'=>⟨_,H,I',h⟩) hf)
def gNil:TGs:=fun vs σ H Q=>vs = [] ∧ Q σ H
def gCons (t:TG) (u:TGs):TGs:=fun vs σ H Q=>∃ v r,vs = v :: r ∧ t v σ H fun σ' H'=>u r σ' H' Q
theorem pgs_nil:PGs X [] gNil:=by
 intro pins s σ H vs us Q I r h
 obtain ⟨e,h⟩:=h
 subst e
 cases r
 exact assignInOrder_nil ⟨σ,H,I,h⟩
theorem pgs_cons {e:Expr} {es:List Expr} {t:TG} {u:TGs} (h1:PG X e t) (h2:PGs X es u)
  (hs:(assignEach (e :: es) X.env).map (·.2) = assign e X.env :: (assignEach es X.env).map (·.2):=by rfl):PGs X (e :: es) (gCons t u):=by
 intro pins s σ H vs us Q I r h
 obtain ⟨v,vr,e1,h⟩:=h
 subst e1
 cases r with
 | cons r rr=>
  rw [hs]
  refine assignInOrder_cons (thn (h1 pins s σ H _ _ _ I r h) fun _ s1 ⟨σ1,H1,I1,q1⟩=>?_)
  exact h2 pins s1 σ1 H1 _ _ Q I1 rr q1
def gTup (K:PySem.W.Frag) (n:Nat) (t:TGs):TG:=fun v σ H Q=>∃ a xs,v = .ref a ∧ SqT K H a xs ∧ xs.length = n ∧ t xs σ H Q
theorem pg_tup {es:List Expr} {k:Nat} {t:TGs} {n:Nat} (hc:X.calm = true) (h:PGs X es t)
  (hn:(assignEach es X.env).length = n:=by rfl) (hst:(assignEach es X.env).findIdx? (·.1) = none:=by rfl):PG X (.Tuple es k pos) (gTup X.K n t):=by
 intro pins s σ H v u Q I r hw
 obtain ⟨a,xs,e1,hq,hl,hw⟩:=hw
 subst e1
 cases r
 obtain ⟨its,rv,ht,hz⟩:=I.tuple hq
 refine assign_Tuple_tuple (I.ok.hd hc) ht (by simp [hn,← hl,rv.length]) hst fun h' hx=>?_
 have I1:Inv X pins σ H { s with heap:=h' }:=I.kept (t':=s.toks) fun b o e=>hx b o (Nat.ne_of_lt (Heap.lt_size e)) e
 exact h pins _ σ H xs _ Q I1 (by simpa using rv) hw
def tAsg (te:TE) (g:TG):TS:=fun D σ H=>te σ H fun x H1=>g x σ H1 D.nx
theorem ps_set {i:Nat} {x:Str} {e:Expr} {te:TE} {pos':Pos} (hN:X.N.Nodup) (hi:X.N[i]? = some x) (hx:Loc X.env.scope x) (he:PE X e te) (hs:swapsWith e (some (.Name x pos')) pos.line X.env = pure false:=by rfl) (hf:X.fn x = true ∨ X.env.scope.names.lookup x = some .local:=by first | exact .inl rfl | exact .inr rfl | assumption):
  PS X (.Assign [.Name x pos'] e pos) (tAsg te (gName i)):=by
 intro pins s σ H D I h
 refine wpAny_Assign_Name (thn (he pins s σ H _ I h) fun v s1 ⟨y,H1,I1,r1,q1⟩=>?_) hs
 exact store_ok I1 hN hi hx r1 (fun s2 I2=>⟨_,H1,I2,q1⟩) hf
def tAug (i:Nat) (te:TE) (ti:TIp):TS:=fun D σ H=>∃ x,σ[i]? = some (some x) ∧ te σ H fun y H1=>ti x y H1 fun z H2=>D.nx (σ.set i (some z)) H2
theorem ps_aug {i:Nat} {x:Str} {e:Expr} {te:TE} {op:Operator} {ti:TIp} {pos':Pos} (hN:X.N.Nodup) (hi:X.N[i]? = some x) (hx:Loc X.env.scope x) (he:PE X e te) (ho:PIp X op ti) (hf:X.fn x = true ∨ X.env.scope.names.lookup x = some .local:=by first | exact .inl rfl | exact .inr rfl | assumption):
  PS X (.AugAssign (.Name x pos') op e pos) (tAug i te ti):=by
 intro pins s σ H D I h
 obtain ⟨v,e1,h⟩:=h
 obtain ⟨m,hn,hl⟩:=I.loc
 have vis:Vis X.env.scope x:=by rcases hx with k | k; exact .inl k; exact .inr (.inl k)
 obtain ⟨u,r,l⟩:=hl i x v hi e1 vis
 refine wpAny_AugAssign_Name ?_
 have go:wpAny (model X.prog X.w) X.A (eval e X.env) (fun w s₂=>wpAny (model X.prog X.w) X.A (inplaceOp op u w) (fun r s₃=>wpAny (model X.prog X.w) X.A (storeName X.env x r) (fun _=>SP X pins D .next) X.xe s₃) X.xe s₂) X.xe s:=by
  refine thn (he pins s σ H _ I h) fun w s1 ⟨y,H1,I1,r1,q1⟩=>?_
  refine thn (ho pins s1 σ H1 v y u w _ I1 r r1 q1) fun z s2 ⟨zv,H2,I2,r2,q2⟩=>?_
  exact store_ok I2 hN hi hx r2 (fun s3 I3=>⟨_,H2,I3,q2⟩) hf
 rcases l with ⟨hk,hm⟩ | ⟨hk,c,hc,hcell⟩
 ·exact wpAny_loadName_local I.ok.kind hk hn hm go
 ·rcases hk with hk | hk
  ·exact wpAny_loadName_cell I.ok.kind hk hc hcell go
  ·rcases hx with k | k
   ·have:X.env.scope.names.lookup x = some .free:=hk
    rw [k] at this; cases this
   ·have:X.env.scope.names.lookup x = some .free:=hk
    rw [k] at this; cases this
def tAugS (to ti te:TE) (tget:V → V → Hp → VK → Prop) (tip:TIp) (tset:TSet):TS:=fun D σ H=>to σ H fun o H1=>ti σ H1 fun i H2=>tget o i H2 fun x H3=>te σ H3 fun y H4=>tip x y H4 fun z H5=>tset o i z H5 fun H6=>D.nx σ H6
def PGet (X:Cx) (t:V → V → Hp → VK → Prop):Prop:=
 ∀ (pins:List (Addr × Obj)) (s:Shared) (σ:St) (H:Hp) (o i:V) (ov iv:Value) (Q:VK),Inv X pins σ H s → RelV o ov → RelV i iv → t o i H Q →
  wpAny (model X.prog X.w) X.A (getItem ov iv) (EP X pins σ Q) X.xe s
theorem ps_augS {o i e:Expr} {to ti te:TE} {tget:V → V → Hp → VK → Prop} {tip:TIp} {tset:TSet} {op:Operator} {tpos:Pos} (ho:PE X o to) (hi:PE X i ti) (hg:PGet X tget) (he:PE X e te) (hp:PIp X op tip) (hs:PSet X tset)
  (ha:∀ ov iv new,augStore i ov iv new = (do holding [new,ov,iv] (setItem ov iv new); release [new,ov,iv] []; pure .next):=by intros; rfl):PS X (.AugAssign (.Subscript o i tpos) op e pos) (tAugS to ti te tget tip tset):=by
 intro pins s σ H D I h
 refine wpAny_AugAssign_SubscriptAny (thn (ho pins s σ H _ I h) fun ov s1 ⟨x1,H1,I1,r1,q1⟩=>?_) ha
 refine thn (hi pins s1 σ H1 _ I1 q1) fun iv s2 ⟨x2,H2,I2,r2,q2⟩=>?_
 refine thn (hg pins s2 σ H2 x1 x2 ov iv _ I2 r1 r2 q2) fun old s3 ⟨x3,H3,I3,r3,q3⟩=>?_
 refine thn (he pins s3 σ H3 _ I3 q3) fun v s4 ⟨x4,H4,I4,r4,q4⟩=>?_
 refine thn (hp pins s4 σ H4 x3 x4 old v _ I4 r3 r4 q4) fun new s5 ⟨x5,H5,I5,r5,q5⟩=>?_
 exact thn (hs pins s5 σ H5 x1 x2 x5 ov iv new _ I5 r1 r2 r5 q5) fun _ s6 ⟨H6,I6,q6⟩=>⟨σ,H6,I6,q6⟩
def ipI (f:Int → Int → Int):TIp:=fun x y H Q=>∃ i j,x = .int i ∧ y = .int j ∧ Q (.int (f i j)) H
theorem ip_add:PIp X .Add (ipI fun i j=>i + j):=by
 intro pins s σ H x y v u Q I r1 r2 h
 obtain ⟨i,j,e1,e2,q⟩:=h
 subst e1; subst e2
 obtain ⟨t,rfl⟩:=r1
 obtain ⟨t',rfl⟩:=r2
 exact iadd_int ⟨.int _,H,I.tok _,⟨_,rfl⟩,q⟩
end
section
variable {X:Cx} {pos:Pos}
def tWhile (c:TT) (tb:TS):TS:=fun D σ H=>∃ W:Nat → St → Hp → Prop,(∃ m,W m σ H) ∧ ∀ m σ H,W m σ H →
 c σ H fun b H1=>if b = true then ∃ N:St → Hp → Prop,(∀ σ' H',N σ' H' → ∃ m',m' < m ∧ W m' σ' H') ∧ tb { D with nx:=N,ct:=N,bk:=D.nx } σ H1 else D.nx σ H1
theorem ps_while {c:Expr} {body:List Stmt} {tc:TT} {tb:TS} (hp:PassesOwn (model X.prog X.w) X.A X.env X.xe) (hc:PT X c tc) (hb:PSs X body tb):PS X (.While c body [] pos) (tWhile tc tb):=by
 intro pins s σ H D I h
 obtain ⟨W,⟨m0,w0⟩,turn⟩:=h
 refine wpAny_While (codeAny_whileLoop (fun n s'=>∃ σ' H',Inv X pins σ' H' s' ∧ W n σ' H') ?_ m0 ⟨σ,H,I,w0⟩)
 rintro n s1 ⟨σ1,H1,I1,w1⟩
 refine wpAny_passesOwn hp (thn (hc pins s1 σ1 H1 _ I1 (turn n σ1 H1 w1)) fun b s2 ⟨H2,I2,q2⟩=>?_)
 cases b with
 | true=>
  obtain ⟨N,hN,q2⟩:=q2
  rw [if_pos rfl]
  refine wpAny_passesOwn hp (thn (hb pins s2 σ1 H2 _ I2 q2) fun f s3 q3=>?_)
  cases f with
  | next=>
   obtain ⟨σ3,H3,I3,n3⟩:=q3
   obtain ⟨m',hm,w3⟩:=hN σ3 H3 n3
   exact ⟨m',hm,σ3,H3,I3,w3⟩
  | cont=>
   obtain ⟨σ3,H3,I3,n3⟩:=q3
   obtain ⟨m',hm,w3⟩:=hN σ3 H3 n3
   exact ⟨m',hm,σ3,H3,I3,w3⟩
  | brk=>exact q3
  | ret v=>exact q3
 | false=>
  rw [if_neg Bool.false_ne_true]
  exact wpAny_execs_nil ⟨σ1,H2,I2,q2⟩
end
structure It where
 go:Nat → Hp → Prop
 yld:Nat → Hp → V → Hp → Prop
 stop:Nat → Hp → Prop
def FpOk (X:Cx) (pins:List (Addr × Obj)) (H:Hp) (b:Addr):Prop:=
 H b = none ∧ b ≠ X.env.locals ∧ b ∉ X.fs ∧ (b ∈ X.ex ∨ X.s_0.heap.objs.size ≤ b) ∧ (∀ x c,X.env.cells.lookup x = some c → c ≠ b) ∧ ∀ p ∈ X.pn ++ pins,p.1 ≠ b
theorem Inv.fpOk {X:Cx} {pins:List (Addr × Obj)} {σ:St} {H H':Hp} {s:Shared} {b:Addr} (I:Inv X pins σ H s) (hb:s.heap.objs.size ≤ b) (hn:H' b = none):FpOk X pins H' b:=by
 refine ⟨hn,Nat.ne_of_gt (Nat.lt_of_lt_of_le I.lt hb),I.nofs hb,.inr (Nat.le_trans I.sz hb),fun x c e z=>?_,fun p hp z=>?_⟩
 ·obtain ⟨v,q⟩:=I.cell x c e
  exact absurd (Nat.lt_of_lt_of_le q.lt (by rw [z]; exact hb)) (Nat.lt_irrefl _)
 ·exact absurd (Nat.lt_of_lt_of_le (Heap.lt_size (I.pin p hp).1) (by rw [z]; exact hb)) (Nat.lt_irrefl _)
structure Turn (P:Program) (w:World) (K:PySem.W.Frag) (tg:Expr) (J:It) (fp:List Addr) (it:Addr) (tn:Nat → Heap → Prop):Prop where
 mem:it ∈ fp
 obj:∀ i h,tn i h → ∀ b ∈ fp,∃ o,h.get? b = some o ∧ ∀ v,o.data ≠ .cell v
 keep:∀ i h h',tn i h → (∀ b ∈ fp,∀ o,h.get? b = some o → h'.get? b = some o) → tn i h'
 item:∀ (X:Cx),X.prog = P → X.w = w → X.K = K → X.calm = true → ∀ (i:Nat) (pins:List (Addr × Obj)) (s:Shared) (σ:St) (H:Hp) (E:Value → Shared → Prop),Inv X pins σ H s → (∀ b ∈ fp,FpOk X pins H b) → tn i s.heap → J.go i H →
  wpAny (model P w) X.A (pyNext (.ref it)) (fun r s1=>∃ u,r = some u ∧
   wpAny (model P w) X.A (letOwnedTupleGo tg (.ref it) u) (fun _ s2=>∃ x H',Inv X pins σ H' s2 ∧ RelV x u ∧ J.yld i H x H' ∧ tn (i + 1) s2.heap ∧ ∀ b ∈ fp,H' b = none) E s1) E s
 done:∀ (X:Cx),X.prog = P → X.w = w → X.K = K → X.calm = true → ∀ (i:Nat) (pins:List (Addr × Obj)) (s:Shared) (σ:St) (H:Hp) (E:Value → Shared → Prop),Inv X pins σ H s → (∀ b ∈ fp,FpOk X pins H b) → tn i s.heap → J.stop i H →
  wpAny (model P w) X.A (pyNext (.ref it)) (fun r s1=>r = none ∧ Inv X pins σ H s1) E s
 self:∀ (A:Around) (i:Nat) (s:Shared) (Q:Value → Shared → Prop) (E:Value → Shared → Prop),tn i s.heap → Q (.ref it) s → wpAny (model P w) A (pyIter (.ref it)) Q E s
abbrev TI:=St → Hp → (It → Hp → Prop) → Prop
def PIE (X:Cx) (pins:List (Addr × Obj)) (σ:St) (tg:Expr) (R:It → Hp → Prop) (itv:Value) (s2:Shared):Prop:=
 ∃ (it:Addr) (fp:List Addr) (tn:Nat → Heap → Prop) (J:It) (H':Hp),itv = .ref it ∧ Inv X pins σ H' s2 ∧ Turn X.prog X.w X.K tg J fp it tn ∧ tn 0 s2.heap ∧ (∀ b ∈ fp,FpOk X pins H' b) ∧ R J H'
def PI (X:Cx) (tg iter:Expr) (wi:TI):Prop:=
 ∀ (pins:List (Addr × Obj)) (s:Shared) (σ:St) (H:Hp) (R:It → Hp → Prop),Inv X pins σ H s → wi σ H R →
  wpAny (model X.prog X.w) X.A (eval iter X.env) (fun v s1=>wpAny (model X.prog X.w) X.A (pyIter v) (PIE X pins σ tg R) X.xe s1) X.xe s
theorem go_of {M:Model} {A:Around} {E:Value → Shared → Prop} {s:Shared} {tg:Expr} {it:Addr} {u:Value} {o:Obj} {n:String} {vs:Array Value} {Q:Unit → Shared → Prop} (ho:s.heap.get? it = some o) (hc:o.cls = .type n) (hd:o.data = .fields vs)
  (hn:["enumerate","zip","dict_itemiterator","dict_reverseitemiterator","odict_iterator","itertools.zip_longest","itertools.pairwise"].contains n = false) (hQ:Q () s):wpAny M A (letOwnedTupleGo tg (.ref it) u) Q E s:=by
 unfold letOwnedTupleGo
 cases tg <;> first
  | exact wpAny_pure hQ
  | (cases u <;> first
    | exact wpAny_pure hQ
    | (refine wpAny_bind (wpAny_load ho ?_)
       rw [hc,hd]
       show wpAny M A (if (["enumerate","zip","dict_itemiterator","dict_reverseitemiterator","odict_iterator","itertools.zip_longest","itertools.pairwise"].contains n && vs[0]? == some (rawInt _)) = true then _ else _) Q E s
       rw [if_neg (by intro h; rw [hn,Bool.false_and] at h; cases h)]
       exact wpAny_pure hQ))
def Itl (K:PySem.W.Frag) (a:Addr):It:=
 ⟨fun i H=>∃ xs x,SqL K H a xs ∧ xs[i]? = some x,fun i H x H'=>H' = H ∧ ∀ xs,SqL K H a xs → xs[i]? = some x,fun i H=>∃ xs,SqL K H a xs ∧ xs.length ≤ i⟩
def Itt (K:PySem.W.Frag) (a:Addr):It:=
 ⟨fun i H=>∃ xs x,SqT K H a xs ∧ xs[i]? = some x,fun i H x H'=>H' = H ∧ ∀ xs,SqT K H a xs → xs[i]? = some x,fun i H=>∃ xs,SqT K H a xs ∧ xs.length ≤ i⟩
def Itr (lo:Int) (n:Nat):It:=⟨fun i _=>i < n,fun i H x H'=>H' = H ∧ x = .int (lo + i),fun i _=>n ≤ i⟩
theorem turn_list {P:Program} {w:World} {K:PySem.W.Frag} {tg:Expr} (a it:Addr):Turn P w K tg (Itl K a) [it] it (fun i h=>h.IsListIter it a i) where
 mem:=by simp
 obj:=fun i h st b hb=>by
  have e:b = it:=by simpa using hb
  subst e
  obtain ⟨o,e,c,d⟩:=st
  exact ⟨o,e,fun v z=>by rw [d] at z; cases z⟩
 keep:=fun i h h' st k=>st.at fun o e=>k it (by simp) o e
 item:=by
  intro X hP hw hK hc i pins s σ H E I hf st hg
  subst hP hw hK
  obtain ⟨xs,x,hq,hx⟩:=hg
  obtain ⟨its,rv,p,hz⟩:=I.list hq
  obtain ⟨u,hu,ru⟩:=rv.get hx
  obtain ⟨f0,f1,f2,f3,f4,f5⟩:=hf it (by simp)
  refine wpAny_pyNext_list_item st p.isList (x:=u) (by simpa using hu) fun h' st' sb=>?_
  have I1:Inv X pins σ H { s with heap:=h' }:=I.turned (t':=s.toks) (fun b o hb e=>(sb.2 b hb).trans e) f0 f1 f3 f4 f5
  obtain ⟨o,e,c,d⟩:=id st'
  exact ⟨u,rfl,go_of (s:={ s with heap:=h' }) e c d (by decide) ⟨x,H,I1,ru,⟨rfl,fun ys hy=>by rw [I.list_inj hy hq]; exact hx⟩,st',fun b hb=>(hf b hb).1⟩⟩
 done:=by
  intro X hP hw hK hc i pins s σ H E I hf st hg
  subst hP hw hK
  obtain ⟨xs,hq,hx⟩:=hg
  obtain ⟨its,rv,p,hz⟩:=I.list hq
  obtain ⟨f0,f1,f2,f3,f4,f5⟩:=hf it (by simp)
  have hl:=rv.length
  exact wpAny_pyNext_list_end (I.ok.hd hc) st p.isList (by simp; omega) fun h' eb=>⟨rfl,I.turned (t':=s.toks) (fun b o hb e=>eb b o hb e) f0 f1 f3 f4 f5⟩
 self:=fun _ _ _ _ _ st h=>wpAny_pyIter_listiter st h
theorem turn_tuple {P:Program} {w:World} {K:PySem.W.Frag} {tg:Expr} (a it:Addr):Turn P w K tg (Itt K a) [it] it (fun i h=>h.IsTupleIter it a i) where
 mem:=by simp
 obj:=fun i h st b hb=>by
  have e:b = it:=by simpa using hb
  subst e
  obtain ⟨o,e,c,d⟩:=st
  exact ⟨o,e,fun v z=>by rw [d] at z; cases z⟩
 keep:=fun i h h' st k=>st.at fun o e=>k it (by simp) o e
 item:=by
  intro X hP hw hK hc i pins s σ H E I hf st hg
  subst hP hw hK
  obtain ⟨xs,x,hq,hx⟩:=hg
  obtain ⟨its,rv,p,hz⟩:=I.tuple hq
  obtain ⟨u,hu,ru⟩:=rv.get hx
  obtain ⟨f0,f1,f2,f3,f4,f5⟩:=hf it (by simp)
  refine wpAny_pyNext_tuple_item st (show s.heap.IsTuple a its.toArray from p) (x:=u) (by simpa using hu) fun h' st' sb=>?_
  have I1:Inv X pins σ H { s with heap:=h' }:=I.turned (t':=s.toks) (fun b o hb e=>(sb.2 b hb).trans e) f0 f1 f3 f4 f5
  obtain ⟨o,e,c,d⟩:=id st'
  exact ⟨u,rfl,go_of (s:={ s with heap:=h' }) e c d (by decide) ⟨x,H,I1,ru,⟨rfl,fun ys hy=>by rw [I.tuple_inj hy hq]; exact hx⟩,st',fun b hb=>(hf b hb).1⟩⟩
 done:=by
  intro X hP hw hK hc i pins s σ H E I hf st hg
  subst hP hw hK
  obtain ⟨xs,hq,hx⟩:=hg
  obtain ⟨its,rv,p,hz⟩:=I.tuple hq
  obtain ⟨f0,f1,f2,f3,f4,f5⟩:=hf it (by simp)
  have hl:=rv.length
  exact wpAny_pyNext_tuple_end (I.ok.hd hc) st (show s.heap.IsTuple a its.toArray from p) (by simp; omega) fun h' eb=>⟨rfl,I.turned (t':=s.toks) (fun b o hb e=>eb b o hb e) f0 f1 f3 f4 f5⟩
 self:=fun _ _ _ _ _ st h=>wpAny_pyIter_tupleiter st h
theorem turn_range {P:Program} {w:World} {K:PySem.W.Frag} {tg:Expr} (it:Addr) (lo:Int) (n:Nat):Turn P w K tg (Itr lo n) [it] it (fun i h=>IsRangeIter h it (lo + (i:Nat) * 1) ((n:Int) - (i:Nat)) 1) where
 mem:=by simp
 obj:=fun i h st b hb=>by
  have e:b = it:=by simpa using hb
  subst e
  exact ⟨_,st,fun v z=>by
   have z':Data.fields _ = Data.cell v:=z
   cases z'⟩
 keep:=fun i h h' st k=>k it (by simp) _ st
 item:=by
  intro X hP hw hK hc i pins s σ H E I hf st hg
  subst hP hw hK
  obtain ⟨f0,f1,f2,f3,f4,f5⟩:=hf it (by simp)
  have W:=Walks.range (prog:=X.prog) (w:=X.w) (I.ok.hd hc) it lo 1 n
  refine W.item i s _ _ hg st fun v h' tk hv st' kk=>?_
  obtain ⟨t,rfl⟩:=hv
  have I1:Inv X pins σ H { s with heap:=h',toks:=tk }:=I.turned (fun b o hb e=>kk b o (by simpa using hb) e) f0 f1 f3 f4 f5
  refine ⟨_,rfl,go_of (s:={ s with heap:=h',toks:=tk }) (n:="range_iterator") st' rfl rfl (by decide) ⟨.int (lo + i),H,I1,⟨t,?_⟩,⟨rfl,rfl⟩,st',fun b hb=>(hf b hb).1⟩⟩
  rw [Int.mul_one]
 done:=by
  intro X hP hw hK hc i pins s σ H E I hf st hg
  subst hP hw hK
  obtain ⟨f0,f1,f2,f3,f4,f5⟩:=hf it (by simp)
  exact wpAny_pyNext_range_end (I.ok.hd hc) st (by have:n ≤ i:=hg; omega) fun h' eb=>⟨rfl,I.turned (t':=s.toks) (fun b o hb e=>eb b o hb e) f0 f1 f3 f4 f5⟩
 self:=fun _ _ _ _ _ st h=>wpAny_pyIter_rangeiter st h
end L2
namespace L2
open PySem PySem.Spec PyProof.Rows
section
variable {X:Cx} {tg:Expr}
def iList (K:PySem.W.Frag) (tl:TE):TI:=fun σ H R=>tl σ H fun x H1=>∃ a,x = .ref a ∧ (∃ xs,SqL K H1 a xs) ∧ R (Itl K a) H1
def iTup (K:PySem.W.Frag) (tl:TE):TI:=fun σ H R=>tl σ H fun x H1=>∃ a,x = .ref a ∧ (∃ xs,SqT K H1 a xs) ∧ R (Itt K a) H1
theorem pi_list {l:Expr} {tl:TE} (hl:PE X l tl):PI X tg l (iList X.K tl):=by
 intro pins s σ H R I h
 refine thn (hl pins s σ H _ I h) fun v s1 ⟨x,H1,I1,r1,q1⟩=>?_
 obtain ⟨a,e,⟨xs,hq⟩,q⟩:=q1
 subst e
 cases r1
 obtain ⟨its,rv,p,hz⟩:=I1.list hq
 refine wpAny_pyIter_list p.isList ?_
 refine ⟨s1.heap.objs.size,[s1.heap.objs.size],_,_,H1,rfl,I1.kept (t':=s1.toks) fun b o e=>Heap.get?_push_of_some _ e,turn_list a _,⟨_,Heap.get?_push_size _ rfl,rfl,rfl⟩,fun b hb=>?_,q⟩
 have e:b = s1.heap.objs.size:=by simpa using hb
 subst e
 exact I1.fpOk (Nat.le_refl _) (I1.hok.fresh (Nat.le_refl _))
theorem pi_tup {l:Expr} {tl:TE} (hl:PE X l tl):PI X tg l (iTup X.K tl):=by
 intro pins s σ H R I h
 refine thn (hl pins s σ H _ I h) fun v s1 ⟨x,H1,I1,r1,q1⟩=>?_
 obtain ⟨a,e,⟨xs,hq⟩,q⟩:=q1
 subst e
 cases r1
 obtain ⟨its,rv,p,hz⟩:=I1.tuple hq
 refine wpAny_pyIter_tuple (show s1.heap.IsTuple a its.toArray from p) ?_
 refine ⟨s1.heap.objs.size,[s1.heap.objs.size],_,_,H1,rfl,I1.kept (t':=s1.toks) fun b o e=>Heap.get?_push_of_some _ e,turn_tuple a _,⟨_,Heap.get?_push_size _ rfl,rfl,rfl⟩,fun b hb=>?_,q⟩
 have e:b = s1.heap.objs.size:=by simpa using hb
 subst e
 exact I1.fpOk (Nat.le_refl _) (I1.hok.fresh (Nat.le_refl _))
theorem range_it {pins:List (Addr × Obj)} {σ:St} {H:Hp} {s:Shared} {R:It → Hp → Prop} {E:Value → Shared → Prop} {lo hi:Int} {t u v:Tok} {tk:Nat} (I:Inv X pins σ H s) (h1:-(2 ^ 62) ≤ lo) (h2:lo < 2 ^ 62) (h3:-(2 ^ 62) ≤ hi) (h4:hi < 2 ^ 62)
  (q:R (Itr lo (hi - lo).toNat) H):wpAny (model X.prog X.w) X.A (pyIter (.ref s.heap.objs.size)) (PIE X pins σ tg R) E { s with heap:=s.heap.push { cls:=.type "range",data:=.fields #[.int lo t,.int hi u,.int 1 v] },toks:=tk }:=by
 refine wpAny_pyIter_range (IsRange.new ..) (small_one h1 h2 h3 h4) ?_
 have I1:Inv X pins σ H { s with heap:=s.heap.push { cls:=.type "range",data:=.fields #[.int lo t,.int hi u,.int 1 v] },toks:=tk }:=I.kept fun b o e=>Heap.get?_push_of_some _ e
 refine ⟨(s.heap.push { cls:=.type "range",data:=.fields #[.int lo t,.int hi u,.int 1 v] }).objs.size,[(s.heap.push { cls:=.type "range",data:=.fields #[.int lo t,.int hi u,.int 1 v] }).objs.size],_,_,H,rfl,
  I1.kept (t':=tk) fun b o e=>Heap.get?_push_of_some _ e,turn_range _ lo (hi - lo).toNat,?_,fun b hb=>?_,q⟩
 ·have e1:lo + ((0:Nat):Int) * 1 = lo:=by simp
  have e2:(((hi - lo).toNat:Nat):Int) - ((0:Nat):Int) = Builtin.Range.rangeSize lo hi 1:=by rw [rangeSize_one]; split <;> omega
  show IsRangeIter _ _ (lo + ((0:Nat):Int) * 1) ((((hi - lo).toNat:Nat):Int) - ((0:Nat):Int)) 1
  rw [e1,e2]
  exact Heap.get?_push_size _ rfl
 ·have e:b = (s.heap.push { cls:=.type "range",data:=.fields #[.int lo t,.int hi u,.int 1 v] }).objs.size:=by simpa using hb
  subst e
  exact I1.fpOk (Nat.le_refl _) (I1.hok.fresh (Nat.le_refl _))
def iRng1 (ta:TA):TI:=fun σ H R=>ta σ H fun vs H1=>∃ j:Int,vs = [.int j] ∧ -(2 ^ 62) ≤ j ∧ j < 2 ^ 62 ∧ R (Itr 0 j.toNat) H1
theorem pi_range1 {a:Expr} {ta:TA} {p pos:Pos} (hg:Gl X "range") (hm:X.mg "range" = none) (ha:PA X [a] ta) (hs:starEach [a] X.env = [(false,eval a X.env)]:=by rfl):PI X tg (.Call (.Name "range" p) [a] [] pos) (iRng1 ta):=by
 intro pins s σ H R I h
 refine Call_ (ld_blt I hg hm boot_range (PyProof.Rows.callWith_type1 (thn (ha pos pins s σ H _ I h) fun us s1 ⟨vs,H1,I1,r1,q1⟩=>?_) hs rfl))
 obtain ⟨j,e,q1,q2,q⟩:=q1
 subst e
 cases r1 with
 | cons r rr=>
  cases rr
  obtain ⟨t,rfl⟩:=r
  exact call_range_1 (range_it I1 (by omega) (by omega) q1 q2 (by simpa using q))
def tFor (wi:TI) (g:TG) (tb:TS):TS:=fun D σ H=>wi σ H fun J H1=>∃ W:Nat → Nat → St → Hp → Prop,(∃ m,W 0 m σ H1) ∧ ∀ i m σ H,W i m σ H →
 (J.stop i H ∧ D.nx σ H) ∨ (J.go i H ∧ ∃ N:St → Hp → Prop,(∀ σ' H',N σ' H' → ∃ m',m' < m ∧ W (i + 1) m' σ' H') ∧ ∀ x H',J.yld i H x H' → g x σ H' fun σ2 H2=>tb { D with nx:=N,ct:=N,bk:=D.nx } σ2 H2)
def pinsAt (fp:List Addr) (h:Heap):List (Addr × Obj):=fp.filterMap fun b=>(h.get? b).map fun o=>(b,o)
theorem mem_pinsAt {fp:List Addr} {h:Heap} {b:Addr} {o:Obj} (hb:b ∈ fp) (e:h.get? b = some o):(b,o) ∈ pinsAt fp h:=List.mem_filterMap.mpr ⟨b,hb,by rw [e]; rfl⟩
theorem of_pinsAt {fp:List Addr} {h:Heap} {p:Addr × Obj} (hp:p ∈ pinsAt fp h):p.1 ∈ fp ∧ h.get? p.1 = some p.2:=by
 obtain ⟨b,hb,e⟩:=List.mem_filterMap.mp hp
 cases q:h.get? b with
 | none=>rw [q] at e; cases e
 | some o=>
  rw [q] at e
  have e':(b,o) = p:=Option.some.inj e
  subst e'
  exact ⟨hb,q⟩
theorem Inv.pinned {pins:List (Addr × Obj)} {σ:St} {H:Hp} {s:Shared} {fp:List Addr} (I:Inv X pins σ H s) (hf:∀ b ∈ fp,FpOk X pins H b) (ho:∀ b ∈ fp,∃ o,s.heap.get? b = some o ∧ ∀ v,o.data ≠ .cell v):Inv X (pins ++ pinsAt fp s.heap) σ H s:=
 I.pins_of fun p hp=>(List.mem_append.mp hp).elim (fun z=>I.pin p (List.mem_append_right _ z)) fun z=>by
  obtain ⟨hb,e⟩:=of_pinsAt z
  obtain ⟨f0,f1,f2,_⟩:=hf p.1 hb
  obtain ⟨o,e',d⟩:=ho p.1 hb
  rw [e] at e'; cases e'
  exact ⟨e,f0,f1,f2,d⟩
theorem Inv.unpinned {pins pl:List (Addr × Obj)} {σ:St} {H:Hp} {s:Shared} (I:Inv X (pins ++ pl) σ H s):Inv X pins σ H s:=I.pins_of fun p hp=>I.pin p (List.mem_append_right _ (List.mem_append_left _ hp))
theorem ps_for {iter:Expr} {body:List Stmt} {wi:TI} {g:TG} {tb:TS} {pos:Pos} (hp:PassesOwn (model X.prog X.w) X.A X.env X.xe) (hc:X.calm = true) (hi:PI X tg iter wi) (hg:PG X tg g) (hb:PSs X body tb)
  (hs:∀ x,foldedSetIterable iter X.env x = pure x:=by intro _; rfl):PS X (.For tg iter body [] pos) (tFor wi g tb):=by
 intro pins s σ H D I h
 refine wpAny_For (thn (hi pins s σ H _ I h) fun v s1 h1=>thn h1 fun itv s2 h2=>?_) hs
 obtain ⟨it,fp,tn,J,H2,e,I2,T,st2,f2,W,⟨m0,w0⟩,turn⟩:=h2
 subst e
 have stat:∀ {H':Hp},(∀ b ∈ fp,H' b = none) → ∀ b ∈ fp,FpOk X pins H' b:=fun hn b hb=>⟨hn b hb,(f2 b hb).2⟩
 refine codeAny_forLoop_any (fun n s'=>∃ i σ' H',Inv X pins σ' H' s' ∧ tn i s'.heap ∧ (∀ b ∈ fp,H' b = none) ∧ W i n σ' H') ?_ m0 ⟨0,σ,H2,I2,st2,fun b hb=>(f2 b hb).1,w0⟩
 rintro n s3 ⟨i,σ3,H3,I3,st3,fr3,w3⟩
 rcases turn i n σ3 H3 w3 with ⟨stop,qn⟩ | ⟨go,N,hN,step⟩
 ·refine wpAny_passesOwn hp (thn (T.done X rfl rfl rfl hc i pins s3 σ3 H3 X.xe I3 (stat fr3) st3 stop) fun r s4 ⟨hr,I4⟩=>?_)
  subst hr
  exact wpAny_execs_nil ⟨σ3,H3,I4,qn⟩
 ·refine wpAny_passesOwn hp (thn (T.item X rfl rfl rfl hc i pins s3 σ3 H3 X.xe I3 (stat fr3) st3 go) fun r s4 ⟨u,hr,h4⟩=>?_)
  subst hr
  refine wpAny_passesOwn hp (thn h4 fun _ s5 ⟨x,H5,I5,r5,y5,st5,fr5⟩=>?_)
  have I5':=I5.pinned (stat fr5) (T.obj _ _ st5)
  refine wpAny_passesOwn hp (thn (hg _ s5 σ3 H5 x u _ I5' r5 (step x H5 y5)) fun _ s6 ⟨σ6,H6,I6,q6⟩=>?_)
  refine wpAny_passesOwn hp (thn (hb _ s6 σ6 H6 _ I6 q6) fun f s7 q7=>?_)
  have again:∀ {σ7:St} {H7:Hp},Inv X (pins ++ pinsAt fp s5.heap) σ7 H7 s7 → N σ7 H7 → ∃ m,m < n ∧ ∃ i σ' H',Inv X pins σ' H' s7 ∧ tn i s7.heap ∧ (∀ b ∈ fp,H' b = none) ∧ W i m σ' H':=fun {σ7 H7} I7 n7=>by
   obtain ⟨m',hm,w7⟩:=hN σ7 H7 n7
   refine ⟨m',hm,i + 1,σ7,H7,I7.unpinned,T.keep _ _ _ st5 fun b hb o e=>(I7.pin (b,o) (List.mem_append_right _ (List.mem_append_right _ (mem_pinsAt hb e)))).1,fun b hb=>?_,w7⟩
   obtain ⟨o,e,d⟩:=T.obj _ _ st5 b hb
   exact (I7.pin (b,o) (List.mem_append_right _ (List.mem_append_right _ (mem_pinsAt hb e)))).2.1
  cases f with
  | next=>obtain ⟨σ7,H7,I7,n7⟩:=q7; exact again I7 n7
  | cont=>obtain ⟨σ7,H7,I7,n7⟩:=q7; exact again I7 n7
  | brk=>obtain ⟨σ7,H7,I7,q7⟩:=q7; exact ⟨σ7,H7,I7.unpinned,q7⟩
  | ret v=>obtain ⟨x7,σ7,H7,I7,r7,q7⟩:=q7; exact ⟨x7,σ7,H7,I7.unpinned,r7,q7⟩
end
theorem for_list {K:PySem.W.Frag} {a:Addr} {xs:List V} {g:TG} {tb:TS} {D:Ends} {σ:St} {H:Hp} (Pv:Nat → St → Hp → Prop) (h0:Pv 0 σ H) (hl:∀ i σ H,i ≤ xs.length → Pv i σ H → SqL K H a xs)
  (hs:∀ i x σ H,xs[i]? = some x → Pv i σ H → g x σ H fun σ2 H2=>tb { D with nx:=Pv (i + 1),ct:=Pv (i + 1),bk:=D.nx } σ2 H2) (hd:∀ σ H,Pv xs.length σ H → D.nx σ H):
  ∃ W:Nat → Nat → St → Hp → Prop,(∃ m,W 0 m σ H) ∧ ∀ i m σ H,W i m σ H →
   ((Itl K a).stop i H ∧ D.nx σ H) ∨ ((Itl K a).go i H ∧ ∃ N:St → Hp → Prop,(∀ σ' H',N σ' H' → ∃ m',m' < m ∧ W (i + 1) m' σ' H') ∧ ∀ x H',(Itl K a).yld i H x H' → g x σ H' fun σ2 H2=>tb { D with nx:=N,ct:=N,bk:=D.nx } σ2 H2):=by
 refine ⟨fun i m σ H=>m = xs.length - i ∧ i ≤ xs.length ∧ Pv i σ H,⟨xs.length,by simp,Nat.zero_le _,h0⟩,?_⟩
 rintro i m σ H ⟨rfl,hi,p⟩
 have q:=hl i σ H hi p
 by_cases hlt:i < xs.length
 ·refine .inr ⟨⟨xs,xs[i],q,by simp [hlt]⟩,Pv (i + 1),fun σ' H' p'=>⟨xs.length - (i + 1),by omega,rfl,hlt,p'⟩,fun x H' y=>?_⟩
  obtain ⟨e,y⟩:=y
  subst e
  exact hs i x σ _ (y xs q) p
 ·have e:i = xs.length:=by omega
  subst e
  exact .inl ⟨⟨xs,q,Nat.le_refl _⟩,hd σ H p⟩
theorem for_tup {K:PySem.W.Frag} {a:Addr} {xs:List V} {g:TG} {tb:TS} {D:Ends} {σ:St} {H:Hp} (Pv:Nat → St → Hp → Prop) (h0:Pv 0 σ H) (hl:∀ i σ H,i ≤ xs.length → Pv i σ H → SqT K H a xs)
  (hs:∀ i x σ H,xs[i]? = some x → Pv i σ H → g x σ H fun σ2 H2=>tb { D with nx:=Pv (i + 1),ct:=Pv (i + 1),bk:=D.nx } σ2 H2) (hd:∀ σ H,Pv xs.length σ H → D.nx σ H):
  ∃ W:Nat → Nat → St → Hp → Prop,(∃ m,W 0 m σ H) ∧ ∀ i m σ H,W i m σ H →
   ((Itt K a).stop i H ∧ D.nx σ H) ∨ ((Itt K a).go i H ∧ ∃ N:St → Hp → Prop,(∀ σ' H',N σ' H' → ∃ m',m' < m ∧ W (i + 1) m' σ' H') ∧ ∀ x H',(Itt K a).yld i H x H' → g x σ H' fun σ2 H2=>tb { D with nx:=N,ct:=N,bk:=D.nx } σ2 H2):=by
 refine ⟨fun i m σ H=>m = xs.length - i ∧ i ≤ xs.length ∧ Pv i σ H,⟨xs.length,by simp,Nat.zero_le _,h0⟩,?_⟩
 rintro i m σ H ⟨rfl,hi,p⟩
 have q:=hl i σ H hi p
 by_cases hlt:i < xs.length
 ·refine .inr ⟨⟨xs,xs[i],q,by simp [hlt]⟩,Pv (i + 1),fun σ' H' p'=>⟨xs.length - (i + 1),by omega,rfl,hlt,p'⟩,fun x H' y=>?_⟩
  obtain ⟨e,y⟩:=y
  subst e
  exact hs i x σ _ (y xs q) p
 ·have e:i = xs.length:=by omega
  subst e
  exact .inl ⟨⟨xs,q,Nat.le_refl _⟩,hd σ H p⟩
theorem for_range {lo:Int} {n:Nat} {g:TG} {tb:TS} {D:Ends} {σ:St} {H:Hp} (Pv:Nat → St → Hp → Prop) (h0:Pv 0 σ H)
  (hs:∀ i σ H,i < n → Pv i σ H → g (.int (lo + i)) σ H fun σ2 H2=>tb { D with nx:=Pv (i + 1),ct:=Pv (i + 1),bk:=D.nx } σ2 H2) (hd:∀ σ H,Pv n σ H → D.nx σ H):
  ∃ W:Nat → Nat → St → Hp → Prop,(∃ m,W 0 m σ H) ∧ ∀ i m σ H,W i m σ H →
   ((Itr lo n).stop i H ∧ D.nx σ H) ∨ ((Itr lo n).go i H ∧ ∃ N:St → Hp → Prop,(∀ σ' H',N σ' H' → ∃ m',m' < m ∧ W (i + 1) m' σ' H') ∧ ∀ x H',(Itr lo n).yld i H x H' → g x σ H' fun σ2 H2=>tb { D with nx:=N,ct:=N,bk:=D.nx } σ2 H2):=by
 refine ⟨fun i m σ H=>m = n - i ∧ i ≤ n ∧ Pv i σ H,⟨n,by simp,Nat.zero_le _,h0⟩,?_⟩
 rintro i m σ H ⟨rfl,hi,p⟩
 by_cases hlt:i < n
 ·refine .inr ⟨hlt,Pv (i + 1),fun σ' H' p'=>⟨n - (i + 1),by omega,rfl,hlt,p'⟩,fun x H' y=>?_⟩
  obtain ⟨e,y⟩:=y
  subst e y
  exact hs i σ _ hlt p
 ·have e:i = n:=by omega
  subst e
  exact .inl ⟨Nat.le_refl _,hd σ H p⟩
theorem while_by {c:TT} {tb:TS} {D:Ends} {σ:St} {H:Hp} (Pv:St → Hp → Prop) (μ:St → Hp → Nat) (h0:Pv σ H)
  (hs:∀ σ H,Pv σ H → c σ H fun b H1=>if b = true then tb { D with nx:=fun σ' H'=>Pv σ' H' ∧ μ σ' H' < μ σ H,ct:=fun σ' H'=>Pv σ' H' ∧ μ σ' H' < μ σ H,bk:=D.nx } σ H1 else D.nx σ H1)
  (mono:∀ σ H Q Q',(∀ b H1,Q b H1 → Q' b H1) → c σ H Q → c σ H Q'):tWhile c tb D σ H:=by
 refine ⟨fun m σ H=>m = μ σ H ∧ Pv σ H,⟨_,rfl,h0⟩,?_⟩
 rintro m σ H ⟨rfl,p⟩
 refine mono σ H _ _ (fun b H1 q=>?_) (hs σ H p)
 cases b with
 | true=>exact ⟨_,fun σ' H' ⟨p',l⟩=>⟨_,l,rfl,p'⟩,q⟩
 | false=>exact q
end L2
namespace L2
open PySem PySem.Spec PyProof.Rows
abbrev R2:=V → V → Hp → VK → Prop
def OpR (X:Cx) (f:Value → Value → Sem Value) (r:R2):Prop:=
 ∀ (pins:List (Addr × Obj)) (s:Shared) (σ:St) (H:Hp) (x y:V) (v u:Value) (Q:VK),Inv X pins σ H s → RelV x v → RelV y u → r x y H Q →
  wpAny (model X.prog X.w) X.A (f v u) (EP X pins σ Q) X.xe s
def UnR (X:Cx) (f:Value → Sem Value) (r:V → Hp → VK → Prop):Prop:=
 ∀ (pins:List (Addr × Obj)) (s:Shared) (σ:St) (H:Hp) (x:V) (v:Value) (Q:VK),Inv X pins σ H s → RelV x v → r x H Q →
  wpAny (model X.prog X.w) X.A (f v) (EP X pins σ Q) X.xe s
def CallR (X:Cx) (f:Value) (r:List V → Hp → VK → Prop):Prop:=
 ∀ (pins:List (Addr × Obj)) (s:Shared) (σ:St) (H:Hp) (xs:List V) (us:List Value) (Q:VK),Inv X pins σ H s → Vals xs us → r xs H Q →
  wpAny (model X.prog X.w) X.A (call f us) (EP X pins σ Q) X.xe s
def TruR (X:Cx) (r:V → Hp → (Bool → Hp → Prop) → Prop):Prop:=
 ∀ (pins:List (Addr × Obj)) (s:Shared) (σ:St) (H:Hp) (x:V) (v:Value) (Q:Bool → Hp → Prop),Inv X pins σ H s → RelV x v → r x H Q →
  wpAny (model X.prog X.w) X.A (truthy v) (TP X pins σ Q) X.xe s
def tOp (r:R2) (ta tb:TE):TE:=fun σ H Q=>ta σ H fun x H1=>tb σ H1 fun y H2=>r x y H2 Q
def tUn (r:V → Hp → VK → Prop) (ta:TE):TE:=fun σ H Q=>ta σ H fun x H1=>r x H1 Q
def rI (C:Int → Int → Prop) (g:Int → Int → V):R2:=fun x y H Q=>∃ i j,x = .int i ∧ y = .int j ∧ C i j ∧ Q (g i j) H
def rI0 (g:Int → Int → V):R2:=fun x y H Q=>∃ i j,x = .int i ∧ y = .int j ∧ Q (g i j) H
def rU (g:Int → V):V → Hp → VK → Prop:=fun x H Q=>∃ i,x = .int i ∧ Q (g i) H
section
variable {X:Cx} {a b c:Expr} {ta tb tc:TE} {pos:Pos}
theorem binT (ha:PE X a ta) (hb:PE X b tb) {pins:List (Addr × Obj)} {s:Shared} {σ:St} {H:Hp} {R:V → V → Hp → Prop} (I:Inv X pins σ H s)
  (h:ta σ H fun x H1=>tb σ H1 fun y H2=>R x y H2) {Q:Value → Shared → Prop} {f:Value → Value → Sem Value}
  (hf:∀ v u s2 x y H2,Inv X pins σ H2 s2 → RelV x v → RelV y u → R x y H2 → wpAny (model X.prog X.w) X.A (f v u) Q X.xe s2):
  wpAny (model X.prog X.w) X.A (eval a X.env) (fun v s₁=>wpAny (model X.prog X.w) X.A (eval b X.env) (fun u s₂=>wpAny (model X.prog X.w) X.A (f v u) Q X.xe s₂) X.xe s₁) X.xe s:=by
 refine thn (ha pins s σ H _ I h) fun v s1 ⟨x,H1,I1,r1,q1⟩=>?_
 refine thn (hb pins s1 σ H1 _ I1 q1) fun u s2 ⟨y,H2,I2,r2,q2⟩=>?_
 exact hf v u s2 x y H2 I2 r1 r2 q2
theorem pe_op {op:Operator} {r:R2} (ho:OpR X (binaryOp op) r) (ha:PE X a ta) (hb:PE X b tb):PE X (.BinOp a op b pos) (tOp r ta tb):=by
 intro pins s σ H Q I h
 exact wpAny_BinOp (binT ha hb I h fun v u s2 x y H2 I2 rx ry q=>ho pins s2 σ H2 x y v u Q I2 rx ry q)
theorem pe_un {op:UnaryOp} {r:V → Hp → VK → Prop} (ho:UnR X (unaryOp op) r) (ha:PE X a ta):PE X (.UnaryOp op a pos) (tUn r ta):=by
 intro pins s σ H Q I h
 exact UnaryOp_ (thn (ha pins s σ H _ I h) fun v s1 ⟨x,H1,I1,r1,q1⟩=>ho pins s1 σ H1 x v Q I1 r1 q1)
theorem opI {f:Value → Value → Sem Value} {C:Int → Int → Prop} {g:Int → Int → Int}
  (rule:∀ (i j:Int) (t u:Tok) (s:Shared) (Q:Value → Shared → Prop) (E:Value → Shared → Prop),C i j → Q (.int (g i j) s.toks) { s with toks:=s.toks + 1 } → wpAny (model X.prog X.w) X.A (f (.int i t) (.int j u)) Q E s):
  OpR X f (rI C fun i j=>.int (g i j)):=by
 intro pins s σ H x y v u Q I rx ry h
 obtain ⟨i,j,rfl,rfl,hc,q⟩:=h
 obtain ⟨t,rfl⟩:=rx
 obtain ⟨t',rfl⟩:=ry
 exact rule i j t t' s _ _ hc ⟨.int (g i j),H,I.tok _,⟨_,rfl⟩,q⟩
theorem opI0 {f:Value → Value → Sem Value} {g:Int → Int → Int}
  (rule:∀ (i j:Int) (t u:Tok) (s:Shared) (Q:Value → Shared → Prop) (E:Value → Shared → Prop),Q (.int (g i j) s.toks) { s with toks:=s.toks + 1 } → wpAny (model X.prog X.w) X.A (f (.int i t) (.int j u)) Q E s):
  OpR X f (rI0 fun i j=>.int (g i j)):=by
 intro pins s σ H x y v u Q I rx ry h
 obtain ⟨i,j,rfl,rfl,q⟩:=h
 obtain ⟨t,rfl⟩:=rx
 obtain ⟨t',rfl⟩:=ry
 exact rule i j t t' s _ _ ⟨.int (g i j),H,I.tok _,⟨_,rfl⟩,q⟩
theorem opB0 {f:Value → Value → Sem Value} {g:Int → Int → Bool}
  (rule:∀ (i j:Int) (t u:Tok) (s:Shared) (Q:Value → Shared → Prop) (E:Value → Shared → Prop),Q (.bool (g i j)) s → wpAny (model X.prog X.w) X.A (f (.int i t) (.int j u)) Q E s):
  OpR X f (rI0 fun i j=>.bl (g i j)):=by
 intro pins s σ H x y v u Q I rx ry h
 obtain ⟨i,j,rfl,rfl,q⟩:=h
 obtain ⟨t,rfl⟩:=rx
 obtain ⟨t',rfl⟩:=ry
 exact rule i j t t' s _ _ ⟨.bl (g i j),H,I,rfl,q⟩
def CDiv (i j:Int):Prop:=0 < j ∧ j < 1073741824
def CPow (i j:Int):Prop:=0 ≤ j ∧ j ≤ 1000000 ∧ i.natAbs < 2 ^ 64
def CMul (i j:Int):Prop:=(-(2 ^ 64) < i ∧ i < 2 ^ 64) ∨ (-(2 ^ 64) < j ∧ j < 2 ^ 64)
theorem two_pow_nn (k:Nat):(0:Int) ≤ 2 ^ k:=by
 rw [two_pow_cast]
 exact Int.natCast_nonneg _
theorem op_add:OpR X (binaryOp .Add) (rI0 fun i j=>.int (i + j)):=opI0 fun _ _ _ _ _ _ _ q=>add_int q
theorem op_sub:OpR X (binaryOp .Sub) (rI0 fun i j=>.int (i - j)):=opI0 fun _ _ _ _ _ _ _ q=>sub_int q
theorem op_fdiv:OpR X (binaryOp .FloorDiv) (rI CDiv fun i j=>.int (i / j)):=opI fun i j _ _ _ _ _ hc q=>by
 have h1:(0:Int) < j:=hc.1
 have h2:j < 1073741824:=hc.2
 exact floordiv_int (by omega) (by rw [Int.fdiv_eq_ediv_of_nonneg i (by omega)]; exact q) (.inl (PyProof.noPylong_small (by omega)))
theorem op_mod:OpR X (binaryOp .Mod) (rI (fun _ j=>0 < j) fun i j=>.int (i % j)):=opI fun i j _ _ _ _ _ hc q=>by
 have h1:(0:Int) < j:=hc
 exact mod_int' (by omega) (by rw [Int.fmod_eq_emod_of_nonneg i (by omega)]; exact q)
theorem op_shl:OpR X (binaryOp .LShift) (rI CPow fun i j=>.int (i * 2 ^ j.toNat)):=opI fun _ _ _ _ _ _ _ hc q=>lshift_int_small hc.1 hc.2.1 hc.2.2 q
theorem op_shr:OpR X (binaryOp .RShift) (rI (fun _ j=>0 ≤ j) fun i j=>.int (i / 2 ^ j.toNat)):=opI fun i j _ _ _ _ _ hc q=>
 rshift_int hc (by rw [Int.fdiv_eq_ediv_of_nonneg i (two_pow_nn _)]; exact q)
theorem op_and:OpR X (binaryOp .BitAnd) (rI0 fun i j=>.int (Builtin.bitAnd i j)):=opI0 fun _ _ _ _ _ _ _ q=>and_int q
theorem unI {f:Value → Sem Value} {g:Int → Int}
  (rule:∀ (i:Int) (t:Tok) (s:Shared) (Q:Value → Shared → Prop) (E:Value → Shared → Prop),Q (.int (g i) s.toks) { s with toks:=s.toks + 1 } → wpAny (model X.prog X.w) X.A (f (.int i t)) Q E s):
  UnR X f (rU fun i=>.int (g i)):=by
 intro pins s σ H x v Q I rx h
 obtain ⟨i,rfl,q⟩:=h
 obtain ⟨t,rfl⟩:=rx
 exact rule i t s _ _ ⟨.int (g i),H,I.tok _,⟨_,rfl⟩,q⟩
theorem un_neg:UnR X (unaryOp .USub) (rU fun i=>.int (-i)):=unI fun _ _ _ _ _ q=>neg_int q
end
def scal:V → V → Bool
 | .non,.non=>true | .non,.int _=>true | .int _,.non=>true | .non,.bl _=>true | .bl _,.non=>true | .non,.str _=>true | .str _,.non=>true
 | .int _,.int _=>true | .bl _,.bl _=>true | .str _,.str _=>true | .byt _,.byt _=>true
 | .int _,.str _=>true | .str _,.int _=>true | .bl _,.str _=>true | .str _,.bl _=>true
 | _,_=>false
def rEq:R2:=fun x y H Q=>scal x y = true ∧ Q (.bl (decide (x = y))) H
def rNe:R2:=fun x y H Q=>scal x y = true ∧ Q (.bl (!decide (x = y))) H
theorem dec_int {i j:Int}:decide (V.int i = V.int j) = (i == j):=by
 rw [Bool.eq_iff_iff]
 simp
theorem dec_bl {i j:Bool}:decide (V.bl i = V.bl j) = (i == j):=by
 rw [Bool.eq_iff_iff]
 simp
theorem dec_str {i j:Str}:decide (V.str i = V.str j) = (i == j):=by
 rw [Bool.eq_iff_iff]
 simp
theorem dec_byt {i j:Array UInt8}:decide (V.byt i = V.byt j) = (i.toList == j.toList):=by
 rw [Bool.eq_iff_iff]
 cases i
 cases j
 simp
section
variable {X:Cx} {a b c:Expr} {ta tb tc:TE} {pos:Pos}
theorem fin_bl {pins:List (Addr × Obj)} {σ:St} {H:Hp} {s:Shared} {Q:VK} {k k':Bool} (I:Inv X pins σ H s) (q:Q (.bl k) H) (e:k = k'):EP X pins σ Q (.bool k') s:=by
 subst e
 exact ⟨.bl k,H,I,rfl,q⟩
theorem op_eq:OpR X (compareOp .Eq) rEq:=by
 intro pins s σ H x y v u Q I rx ry h
 obtain ⟨hs,q⟩:=h
 cases x with
 | non=>
  cases rx
  cases y with
  | non=>cases ry; exact PySem.EqNone.eq_none_none (fin_bl I q (by simp))
  | bl j=>cases ry; exact PySem.EqNone.eq_none_bool (fin_bl I q (by simp))
  | int j=>obtain ⟨t',rfl⟩:=ry; exact PySem.EqNone.eq_none_int (fin_bl I q (by simp))
  | str j=>obtain ⟨t',rfl⟩:=ry; exact PySem.EqNone.eq_none_str (fin_bl I q (by simp))
  | _=>exact absurd (show false = true from hs) Bool.false_ne_true
 | bl i=>
  cases rx
  cases y with
  | non=>cases ry; exact PySem.EqNone.eq_bool_none (fin_bl I q (by simp))
  | bl j=>cases ry; exact eq_bool (fin_bl I q dec_bl)
  | str j=>obtain ⟨t',rfl⟩:=ry; exact PySem.EqMixed.eq_bool_str (fin_bl I q (by simp))
  | _=>exact absurd (show false = true from hs) Bool.false_ne_true
 | int i=>
  obtain ⟨t,rfl⟩:=rx
  cases y with
  | non=>cases ry; exact PySem.EqNone.eq_int_none (fin_bl I q (by simp))
  | int j=>obtain ⟨t',rfl⟩:=ry; exact eq_int (fin_bl I q dec_int)
  | str j=>obtain ⟨t',rfl⟩:=ry; exact PySem.EqMixed.eq_int_str (fin_bl I q (by simp))
  | _=>exact absurd (show false = true from hs) Bool.false_ne_true
 | str i=>
  obtain ⟨t,rfl⟩:=rx
  cases y with
  | non=>cases ry; exact PySem.EqNone.eq_str_none (fin_bl I q (by simp))
  | bl j=>cases ry; exact PySem.EqMixed.eq_str_bool (fin_bl I q (by simp))
  | int j=>obtain ⟨t',rfl⟩:=ry; exact PySem.EqMixed.eq_str_int (fin_bl I q (by simp))
  | str j=>obtain ⟨t',rfl⟩:=ry; exact eq_str (fin_bl I q dec_str)
  | _=>exact absurd (show false = true from hs) Bool.false_ne_true
 | byt i=>
  obtain ⟨t,rfl⟩:=rx
  cases y with
  | byt j=>obtain ⟨t',rfl⟩:=ry; exact PySem.W.eq_bytes (fin_bl I q dec_byt)
  | _=>exact absurd (show false = true from hs) Bool.false_ne_true
 | _=>cases y <;> exact absurd (show false = true from hs) Bool.false_ne_true
theorem op_ne:OpR X (compareOp .NotEq) rNe:=by
 intro pins s σ H x y v u Q I rx ry h
 obtain ⟨hs,q⟩:=h
 cases x with
 | non=>
  cases rx
  cases y with
  | non=>cases ry; exact PySem.EqNone.ne_none_none (fin_bl I q (by simp))
  | bl j=>cases ry; exact PySem.EqNone.ne_none_bool (fin_bl I q (by simp))
  | int j=>obtain ⟨t',rfl⟩:=ry; exact PySem.EqNone.ne_none_int (fin_bl I q (by simp))
  | str j=>obtain ⟨t',rfl⟩:=ry; exact PySem.EqNone.ne_none_str (fin_bl I q (by simp))
  | _=>exact absurd (show false = true from hs) Bool.false_ne_true
 | bl i=>
  cases rx
  cases y with
  | non=>cases ry; exact PySem.EqNone.ne_bool_none (fin_bl I q (by simp))
  | bl j=>cases ry; exact ne_bool (fin_bl I q (congrArg not dec_bl))
  | str j=>obtain ⟨t',rfl⟩:=ry; exact PySem.EqMixed.ne_bool_str (fin_bl I q (by simp))
  | _=>exact absurd (show false = true from hs) Bool.false_ne_true
 | int i=>
  obtain ⟨t,rfl⟩:=rx
  cases y with
  | non=>cases ry; exact PySem.EqNone.ne_int_none (fin_bl I q (by simp))
  | int j=>obtain ⟨t',rfl⟩:=ry; exact ne_int (fin_bl I q (congrArg not dec_int))
  | str j=>obtain ⟨t',rfl⟩:=ry; exact PySem.EqMixed.ne_int_str (fin_bl I q (by simp))
  | _=>exact absurd (show false = true from hs) Bool.false_ne_true
 | str i=>
  obtain ⟨t,rfl⟩:=rx
  cases y with
  | non=>cases ry; exact PySem.EqNone.ne_str_none (fin_bl I q (by simp))
  | bl j=>cases ry; exact PySem.EqMixed.ne_str_bool (fin_bl I q (by simp))
  | int j=>obtain ⟨t',rfl⟩:=ry; exact PySem.EqMixed.ne_str_int (fin_bl I q (by simp))
  | str j=>obtain ⟨t',rfl⟩:=ry; exact ne_str (fin_bl I q (congrArg not dec_str))
  | _=>exact absurd (show false = true from hs) Bool.false_ne_true
 | byt i=>
  obtain ⟨t,rfl⟩:=rx
  cases y with
  | byt j=>obtain ⟨t',rfl⟩:=ry; exact PySem.W.ne_bytes (fin_bl I q (congrArg not dec_byt))
  | _=>exact absurd (show false = true from hs) Bool.false_ne_true
 | _=>cases y <;> exact absurd (show false = true from hs) Bool.false_ne_true
theorem op_lt:OpR X (compareOp .Lt) (rI0 fun i j=>.bl (decide (i < j))):=opB0 fun _ _ _ _ _ _ _ q=>lt_int q
theorem op_le:OpR X (compareOp .LtE) (rI0 fun i j=>.bl (decide (i ≤ j))):=opB0 fun _ _ _ _ _ _ _ q=>le_int q
theorem op_gt:OpR X (compareOp .Gt) (rI0 fun i j=>.bl (decide (j < i))):=opB0 fun _ _ _ _ _ _ _ q=>gt_int q
theorem op_ge:OpR X (compareOp .GtE) (rI0 fun i j=>.bl (decide (j ≤ i))):=opB0 fun _ _ _ _ _ _ _ q=>ge_int q
theorem nomark (b:Expr) {op:CmpOp} (h:op ≠ .In:=by decide) (h2:op ≠ .NotIn:=by decide):behindInMarks op b = false:=by
 have e1:(op == CmpOp.In) = false:=by cases op <;> first | rfl | exact absurd rfl h
 have e2:(op == CmpOp.NotIn) = false:=by cases op <;> first | rfl | exact absurd rfl h2
 cases b <;> simp [behindInMarks,e1,e2]
theorem pe_cmpR {op:CmpOp} {r:R2} (ho:OpR X (compareOp op) r) (ha:PE X a ta) (hb:PE X b tb) (hm:behindInMarks op b = false):PE X (.Compare a [op] [b] pos) (tOp r ta tb):=by
 intro pins s σ H Q I h
 exact wpAny_Compare1 (binT ha hb I h fun v u s2 x y H2 I2 rx ry q=>ho pins s2 σ H2 x y v u Q I2 rx ry q) hm
def tTest (t:TE):TT:=fun σ H Q=>t σ H fun x H'=>∃ k,x = .bl k ∧ Q k H'
theorem pt_cmpR {op:CmpOp} {r:R2} (ho:OpR X (compareOp op) r) (ha:PE X a ta) (hb:PE X b tb) (hm:behindInMarks op b = false):PT X (.Compare a [op] [b] pos) (tTest (tOp r ta tb)):=by
 intro pins s σ H Q I h
 refine wpAny_isTrue_Compare1 (thn (ha pins s σ H _ I h) fun v s1 ⟨x,H1,I1,r1,q1⟩=>thn (hb pins s1 σ H1 _ I1 q1) fun u s2 ⟨y,H2,I2,r2,q2⟩=>
  thn (ho pins s2 σ H2 x y v u _ I2 r1 r2 q2) fun c s3 ⟨z,H3,I3,r3,k,e,q3⟩=>?_) hm
 subst e
 cases r3
 exact wpAny_truthy_bool ⟨H3,I3,q3⟩
def tChain (r r':R2) (ta tb tc:TE):TE:=fun σ H Q=>ta σ H fun x H1=>tb σ H1 fun y H2=>r x y H2 fun z H3=>∃ k,z = .bl k ∧
 (if k = true then tc σ H3 fun w' H4=>r' y w' H4 Q else Q (.bl false) H3)
theorem pe_chain {op op':CmpOp} {r r':R2} (ho:OpR X (compareOp op) r) (ho':OpR X (compareOp op') r') (ha:PE X a ta) (hb:PE X b tb) (hc:PE X c tc)
  (hm:lastMarks [op,op'] [b,c] = false:=by with_unfolding_all rfl):PE X (.Compare a [op,op'] [b,c] pos) (tChain r r' ta tb tc):=by
 intro pins s σ H Q I h
 refine Compare_chain (thn (ha pins s σ H _ I h) fun v s1 ⟨x,H1,I1,r1,q1⟩=>chain_link (thn (hb pins s1 σ H1 _ I1 q1) fun u s2 ⟨y,H2,I2,r2,q2⟩=>
  thn (ho pins s2 σ H2 x y v u _ I2 r1 r2 q2) fun d s3 ⟨z,H3,I3,r3,k,e,q3⟩=>?_)) hm
 subst e
 cases r3
 refine wpAny_truthy_bool ?_
 cases k with
 | false=>exact ite_ff ⟨.bl false,H3,I3,rfl,q3⟩
 | true=>exact ite_tt (chain_last (thn (hc pins s3 σ H3 _ I3 q3) fun w' s4 ⟨z',H4,I4,r4,q4⟩=>ho' pins s4 σ H4 y z' u w' Q I4 r2 r4 q4))
theorem pt_chain {op op':CmpOp} {r r':R2} (ho:OpR X (compareOp op) r) (ho':OpR X (compareOp op') r') (ha:PE X a ta) (hb:PE X b tb) (hc:PE X c tc)
  (hm:lastMarks [op,op'] [b,c] = false:=by with_unfolding_all rfl):PT X (.Compare a [op,op'] [b,c] pos) (tTest (tChain r r' ta tb tc)):=by
 intro pins s σ H Q I h
 refine isTrue_chain (thn (ha pins s σ H _ I h) fun v s1 ⟨x,H1,I1,r1,q1⟩=>test_link (thn (hb pins s1 σ H1 _ I1 q1) fun u s2 ⟨y,H2,I2,r2,q2⟩=>
  thn (ho pins s2 σ H2 x y v u _ I2 r1 r2 q2) fun d s3 ⟨z,H3,I3,r3,k,e,q3⟩=>?_)) hm
 subst e
 cases r3
 refine wpAny_truthy_bool ?_
 cases k with
 | false=>
  obtain ⟨k',e',q'⟩:=q3
  cases e'
  exact ite_ff ⟨H3,I3,q'⟩
 | true=>
  refine ite_tt (test_last (thn (hc pins s3 σ H3 _ I3 q3) fun w' s4 ⟨z',H4,I4,r4,q4⟩=>thn (ho' pins s4 σ H4 y z' u w' _ I4 r2 r4 q4) fun d' s5 ⟨z2,H5,I5,r5,k2,e2,q5⟩=>?_))
  subst e2
  cases r5
  exact wpAny_truthy_bool ⟨H5,I5,q5⟩
def TruV (K:PySem.W.Frag) (x:V) (H:Hp) (k:Bool):Prop:=
 match x with
 | .non=>k = false
 | .bl b=>k = b
 | .int i=>k = (i != 0)
 | .str y=>y.length ≤ sizeLine ∧ k = ((y.length:Int) != 0)
 | .byt y=>y.size ≤ sizeLine ∧ k = ((y.size:Int) != 0)
 | .ref p=>(∃ xs,SqL K H p xs ∧ k = !xs.isEmpty) ∨ (∃ xs,SqT K H p xs ∧ k = !xs.isEmpty) ∨ ∃ kvs,H p = some (.dK kvs) ∧ k = !kvs.isEmpty
 | _=>False
theorem isEmpty_kv {κ:Type} {kvs:List (κ × V)} {vs:List (κ × Value)} (r:KV kvs vs):(!vs.isEmpty) = !kvs.isEmpty:=by
 cases r <;> rfl
theorem isEmpty_of {xs:List V} {its:List Value} (r:Vals xs its):(!its.toArray.isEmpty) = !xs.isEmpty:=by
 cases r <;> simp
theorem line63:(sizeLine:Nat) < 2 ^ 63:=by rw [sizeLine_eq]; decide
theorem tru_ok:TruR X (fun x H Q=>∃ k,TruV X.K x H k ∧ Q k H):=by
 intro pins s σ H x v Q I rx h
 obtain ⟨k,e,q⟩:=h
 have hl:=line63
 have hs:sizeLine = 16777216:=sizeLine_eq
 cases x with
 | non=>
  cases rx
  have e':k = false:=e
  subst e'
  exact truthy_none ⟨H,I,q⟩
 | bl b=>
  cases rx
  have e':k = b:=e
  subst e'
  exact wpAny_truthy_bool ⟨H,I,q⟩
 | int i=>
  obtain ⟨t,rfl⟩:=rx
  have e':k = (i != 0):=e
  subst e'
  exact PySem.P.truthy_int ⟨H,I,q⟩
 | str y=>
  obtain ⟨t,rfl⟩:=rx
  obtain ⟨hy,e'⟩:y.length ≤ sizeLine ∧ k = ((y.length:Int) != 0):=e
  subst e'
  exact PySem.P.truthy_str (by omega) ⟨H,I.tok _,q⟩
 | byt y=>
  obtain ⟨t,rfl⟩:=rx
  obtain ⟨hy,e'⟩:y.size ≤ sizeLine ∧ k = ((y.size:Int) != 0):=e
  subst e'
  exact PySem.W.truthy_bytes (by omega) ⟨H,I.tok _,q⟩
 | ref p=>
  cases rx
  have e':(∃ xs,SqL X.K H p xs ∧ k = !xs.isEmpty) ∨ (∃ xs,SqT X.K H p xs ∧ k = !xs.isEmpty) ∨ ∃ kvs,H p = some (.dK kvs) ∧ k = !kvs.isEmpty:=e
  rcases e' with ⟨xs,hx,e'⟩ | ⟨xs,hx,e'⟩ | ⟨kvs,hx,e'⟩
  ·subst e'
   obtain ⟨its,r,pl,hz⟩:=I.list hx
   have hlen:=r.length
   exact wpAny_truthy_list pl.isList (by simp only [List.size_toArray]; omega) ⟨H,I.tok _,by rw [isEmpty_of r]; exact q⟩
  ·subst e'
   obtain ⟨its,r,pl,hz⟩:=I.tuple hx
   have hlen:=r.length
   exact truthy_tuple pl (by simp only [List.size_toArray]; omega) ⟨H,I.tok _,by rw [isEmpty_of r]; exact q⟩
  ·subst e'
   obtain ⟨hz,hS,vs,r,m⟩:kvs.length ≤ sizeLine ∧ (p == sysModules) = false ∧ ∃ vs,KV kvs vs ∧ s.heap.DictOf (mixKind X.prog X.w) p vs:=I.hok p _ hx
   have hlen:kvs.length = vs.length:=Paired.length r
   exact wpAny_truthy_dict hS m (by omega) ⟨H,I.tok _,by rw [isEmpty_kv r]; exact q⟩
 | _=>exact (show False from e).elim
theorem pt_truth (ha:PE X a ta) (he:∀ whole,isTrue a X.env whole = (do let v ← whole; standAt a.pos; holding [v] (truthy v))):
  PT X a (fun σ H Q=>ta σ H fun x H'=>∃ k,TruV X.K x H' k ∧ Q k H'):=by
 intro pins s σ H Q I h
 exact isTrue_plain (thn (ha pins s σ H _ I h) fun v s1 ⟨x,H1,I1,r1,q1⟩=>tru_ok pins s1 σ H1 x v Q I1 r1 q1) (he _)
theorem vals1 {x:V} {us:List Value} (r:Vals [x] us):∃ u,us = [u] ∧ RelV x u:=by
 cases r with
 | cons r1 r2=>cases r2; exact ⟨_,rfl,r1⟩
theorem vals2 {x y:V} {us:List Value} (r:Vals [x,y] us):∃ u w',us = [u,w'] ∧ RelV x u ∧ RelV y w':=by
 cases r with
 | cons r1 r2=>
  cases r2 with
  | cons r3 r4=>cases r4; exact ⟨_,_,rfl,r1,r3⟩
theorem call_max2 (hc:X.calm = true):CallR X (.builtin "max") (fun xs H Q=>∃ i j,xs = [.int i,.int j] ∧ Q (.int (if j > i then j else i)) H):=by
 intro pins s σ H xs us Q I r h
 obtain ⟨i,j,rfl,q⟩:=h
 obtain ⟨u,w',rfl,⟨t,rfl⟩,⟨t',rfl⟩⟩:=vals2 r
 refine max_two_ints (I.ok.hd hc) fun h' tk k=>⟨_,H,I.kept k,?_,q⟩
 by_cases hj:j > i
 ·rw [if_pos hj,if_pos hj]; exact ⟨_,rfl⟩
 ·rw [if_neg hj,if_neg hj]; exact ⟨_,rfl⟩
theorem call_min2 (hc:X.calm = true):CallR X (.builtin "min") (fun xs H Q=>∃ i j,xs = [.int i,.int j] ∧ Q (.int (if j < i then j else i)) H):=by
 intro pins s σ H xs us Q I r h
 obtain ⟨i,j,rfl,q⟩:=h
 obtain ⟨u,w',rfl,⟨t,rfl⟩,⟨t',rfl⟩⟩:=vals2 r
 refine min_two_ints (I.ok.hd hc) fun h' tk k=>⟨_,H,I.kept k,?_,q⟩
 by_cases hj:j < i
 ·rw [if_pos hj,if_pos hj]; exact ⟨_,rfl⟩
 ·rw [if_neg hj,if_neg hj]; exact ⟨_,rfl⟩
end
end L2
namespace L2
open PySem PySem.Spec PyProof.Rows
structure ObjM (h:Heap) (x dx C:Addr) (mA:Str → Option Value):Prop where
 obj:h.get? x = some (PySem.W.instObj C dx)
 ns:h.Ns1 dx mA
 ne:dx ≠ x
theorem lookIn_ns {h:Heap} {dx:Addr} {mA:Str → Option Value} (n:h.Ns1 dx mA):∃ od,h.get? dx = some od ∧ ∀ name,PySem.W.lookIn name od = some (mA name):=by
 obtain ⟨o,es,ep,ho,hd,hk,_,hm⟩:=n
 refine ⟨o,ho,fun name=>?_⟩
 have e:=hm name
 unfold nsFind findBy at e
 rw [← Array.find?_toList] at e
 unfold PySem.W.lookIn
 rw [hd]
 dsimp only
 split
 ·rename_i y q
  rw [q] at e
  exact congrArg some e
 ·rename_i q
  rw [q] at e
  have a:es.toList.any (·.refKey) = false:=by
   rw [List.any_eq_false]
   intro y hy
   obtain ⟨z,t,hkey⟩:=hk y (Array.mem_toList_iff.mp hy)
   simp [DictEntry.refKey,hkey]
  have a':¬ es.toList.any (·.refKey) = true:=by rw [a]; exact Bool.false_ne_true
  rw [if_neg a']
  exact congrArg some e
theorem ObjM.look {h:Heap} {x dx C:Addr} {mA:Str → Option Value} (I:ObjM h x dx C mA):∃ od,PySem.W.InstAt h x (PySem.W.instObj C dx) C (some od) ∧ ∀ name,PySem.W.lookIn name od = some (mA name):=
 let ⟨od,ho,hl⟩:=lookIn_ns I.ns
 ⟨od,⟨I.obj,rfl,rfl,ho⟩,hl⟩
section
variable {prog:Program} {w:World} {A:Around} {E:Value → Shared → Prop} {s:Shared} {K:PySem.W.Frag} {x dx C f:Addr} {mA:Str → Option Value} {name:Str} {v:Value}
theorem get_map {expr:Bool} {Q:Value → Shared → Prop} (X:K.In s.heap) (I:ObjM s.heap x dx C mA) (hg:PySem.W.plainGet K C name = true) (hh:PySem.W.hasDictIn K C = true)
  (ha:PySem.W.findIn K (.ref C) name = some none) (hv:mA name = some v) (hv':PySem.W.handedIn v = true) (h:Q v { s with toks:=s.toks + 1 }):
  wpAny (model prog w) A (getAttr (.ref x) name expr) Q E s:=by
 obtain ⟨od,J,hl⟩:=I.look
 exact PySem.W.get_value X J (PySem.W.plainGet_of hg).1 (PySem.W.findObj_own hh ha rfl (by rw [hl,hv])) hv' h
theorem set_map {ns:List Str} {Q:Unit → Shared → Prop} (X:K.In s.heap) (I:ObjM s.heap x dx C mA)
  (hs:PySem.W.findIn K (.ref C) "__setattr__" = some (some (.builtin "object.__setattr__"))) (hp:PySem.W.plainOver K C = true) (ht:PySem.W.takerIn K C name = some none) (hh:PySem.W.hasDictIn K C = true)
  (hw:PySem.Within mA ns) (hsz:ns.length ≤ sizeLine)
  (h:∀ h',ObjM h' x dx C (fun y=>if y = name then some v else mA y) → Heap.SameBut dx s.heap h' → Q () { s with heap:=h',toks:=s.toks + 2 }):
  wpAny (model prog w) A (setAttr (.ref x) name v) Q E s:=by
 obtain ⟨od,J,hl⟩:=I.look
 refine PySem.W.set_plain X J hs (PySem.W.osa_open (s:={ s with toks:=s.toks + 1 }) (r:=none) X J hp ht fun b=>?_)
 obtain ⟨cd,hc,hd'⟩:=PySem.W.any_some hh
 have hx:s.heap.get? x = some ⟨.ref C,some dx,.plain,#[]⟩:=I.obj
 refine wpAny_bind (wpAny_pure (wpAny_bind (wpAny_bind (wpAny_loadPart hx (wpAny_bind (PySem.W.Looks.here (s:={ s with toks:=s.toks + 1 }) (PySem.W.looks_clsIn X hc) ?_))))))
 rw [hd']
 refine wpAny_pure (a:=some dx) (wpAny_bind (wpAny_pure (wpAny_bind ?_)))
 refine wpAny_nsSet1 (s:={ s with toks:=s.toks + 1 }) I.ns fun h' hn2 hs2=>?_
 obtain ⟨oD,esD,epD,hoD,hdD,hcD⟩:=hn2.count (PySem.Within.cons name v hw)
 refine wpAny_bind (wpAny_lookBehind hoD (by rw [hdD]; exact pastItsLine_dict (Nat.le_trans hcD (by rw [List.length_cons]; omega))) ?_)
 exact wpAny_pure (h _ ⟨(hs2.2 _ (Ne.symm I.ne)).trans I.obj,hn2,I.ne⟩ hs2)
theorem make_map {R:Result → Shared → Prop} {vs:List Value} {kw:List (Str × Value)} (X:K.In s.heap) (hm:PySem.W.makesIn K C = true)
  (hi:PySem.W.findIn K (.ref C) "__init__" = some (some (.ref f))) (hf:PySem.W.typeIn K (.ref f) = some (.type "function"))
  (h:codeAny (model prog w) (A.under (.builtin "type.__call__" ⟨.ref C :: vs,kw⟩)) (.call (.ref f) ⟨.ref (s.heap.objs.size + 1) :: vs,kw⟩) (PySem.W.InitBack (s.heap.objs.size + 1) R)
   { s with heap:=(s.heap.push PySem.W.emptyDict).push (PySem.W.instObj C s.heap.objs.size) }):
  codeAny (model prog w) A (.call (.ref C) ⟨vs,kw⟩) R s:=by
 obtain ⟨hh,g,d,t,os⟩:=s
 exact PySem.W.make_core (PySem.W.makes_of X hm) (PySem.W.looks_findIn X hi) (fun self=>PySem.W.bind_fn X self hf) (.inl rfl) h
end
def putF (f:Str) (v:V):List (Str × V) → List (Str × V)
 | []=>[(f,v)]
 | (g,x) :: r=>if g = f then (g,v) :: r else (g,x) :: putF f v r
theorem lookup_putF (f g:Str) (v:V):∀ fs:List (Str × V),(putF f v fs).lookup g = if g = f then some v else fs.lookup g
 | []=>by
  show List.lookup g [(f,v)] = _
  by_cases h:g = f
  ·have hb:(g == f) = true:=beq_iff_eq.mpr h
   simp only [List.lookup,hb,if_pos h]
  ·have hb:(g == f) = false:=beq_eq_false_iff_ne.mpr h
   simp only [List.lookup,hb,if_neg h]
 | (k,x) :: r=>by
  have ih:=lookup_putF f g v r
  rw [show putF f v ((k,x) :: r) = (if k = f then (k,v) :: r else (k,x) :: putF f v r) from rfl]
  by_cases hk:k = f
  ·rw [if_pos hk]
   by_cases h:g = k
   ·have hb:(g == k) = true:=beq_iff_eq.mpr h
    simp only [List.lookup,hb,if_pos (h.trans hk)]
   ·have hb:(g == k) = false:=beq_eq_false_iff_ne.mpr h
    simp only [List.lookup,hb,if_neg (fun e:g = f=>h (e.trans hk.symm))]
  ·rw [if_neg hk]
   by_cases h:g = k
   ·have hb:(g == k) = true:=beq_iff_eq.mpr h
    simp only [List.lookup,hb,if_neg (fun e:g = f=>hk (h.symm.trans e))]
   ·have hb:(g == k) = false:=beq_eq_false_iff_ne.mpr h
    simp only [List.lookup,hb]
    exact ih
theorem keys_putF (f:Str) (v:V):∀ fs:List (Str × V),f ∈ (putF f v fs).map (·.1) ∧ ∀ g,g ∈ fs.map (·.1) → g ∈ (putF f v fs).map (·.1)
 | []=>⟨by simp [putF],fun g h=>by simp at h⟩
 | (k,x) :: r=>by
  obtain ⟨i1,i2⟩:=keys_putF f v r
  rw [show putF f v ((k,x) :: r) = (if k = f then (k,v) :: r else (k,x) :: putF f v r) from rfl]
  by_cases hk:k = f
  ·rw [if_pos hk]
   subst hk
   exact ⟨by simp,fun g h=>by simpa using h⟩
  ·rw [if_neg hk]
   refine ⟨?_,fun g h=>?_⟩
   ·rw [List.map_cons]
    exact List.mem_cons_of_mem _ i1
   ·rw [List.map_cons] at h ⊢
    rcases List.mem_cons.mp h with e | e
    ·exact List.mem_cons.mpr (.inl e)
    ·exact List.mem_cons_of_mem _ (i2 g e)
theorem length_putF (f:Str) (v:V):∀ fs:List (Str × V),(putF f v fs).length ≤ fs.length + 1
 | []=>by simp [putF]
 | (k,x) :: r=>by
  have ih:=length_putF f v r
  rw [show putF f v ((k,x) :: r) = (if k = f then (k,v) :: r else (k,x) :: putF f v r) from rfl]
  by_cases hk:k = f
  ·rw [if_pos hk,List.length_cons,List.length_cons]; omega
  ·rw [if_neg hk,List.length_cons,List.length_cons]; omega
theorem RelO.some_of {v:V} {o:Option Value} (r:RelO (some v) o):∃ u,o = some u ∧ RelV v u:=by
 cases o with
 | none=>exact (show False from r).elim
 | some u=>exact ⟨u,rfl,r⟩
theorem handed_of {v:V} {u:Value} (r:RelV v u):PySem.W.handedIn u = true:=by
 cases v with
 | non=>cases (show u = Value.none from r); rfl
 | bl b=>cases (show u = Value.bool b from r); rfl
 | int i=>obtain ⟨t,e⟩:=(show ∃ t,u = Value.int i t from r); cases e; rfl
 | str x=>obtain ⟨t,e⟩:=(show ∃ t,u = Value.str x t from r); cases e; rfl
 | byt b=>obtain ⟨t,e⟩:=(show ∃ t,u = Value.bytes b t from r); cases e; rfl
 | flt b=>obtain ⟨t,e⟩:=(show ∃ t,u = Value.float b t from r); cases e; rfl
 | ref a=>cases (show u = Value.ref a from r); rfl
 | ty n=>cases (show u = Value.type n from r); rfl
section
variable {P:Program} {w:World} {H H':Hp} {h h':Heap} {a C dx:Addr} {fs fs':List (Str × V)}
theorem ins_get (hok:HOk P w H h) (e:H a = some (.ins C dx fs)):∃ mA,ObjM h a dx C mA ∧ (∀ f,RelO (fs.lookup f) (mA f)) ∧ PySem.Within mA (fs.map (·.1)) ∧ fs.length ≤ 1000 ∧ H dx = some (.own a):=by
 obtain ⟨d,z,ne,ob,mA,n,r,q⟩:=(show ObjOk P w H h a (.ins C dx fs) from hok a _ e)
 exact ⟨mA,⟨ob,n,ne⟩,r,q,z,d⟩
end
structure Cls (K:PySem.W.Frag) (C:Addr):Prop where
 pg:PySem.W.plainGet K C Str.empty = true
 hd:PySem.W.hasDictIn K C = true
 po:PySem.W.plainOver K C = true
 sa:PySem.W.findIn K (.ref C) "__setattr__" = some (some (.builtin "object.__setattr__"))
theorem Cls.get {K:PySem.W.Frag} {C:Addr} (c:Cls K C) (f:Str):PySem.W.plainGet K C f = true:=c.pg
def NoAttr (K:PySem.W.Frag) (C:Addr) (f:Str):Prop:=PySem.W.findIn K (.ref C) f = some none
theorem NoAttr.taker {K:PySem.W.Frag} {C:Addr} {f:Str} (n:NoAttr K C f):PySem.W.takerIn K C f = some none:=by
 unfold PySem.W.takerIn
 rw [show PySem.W.findIn K (.ref C) f = some none from n]
 rfl
section
variable {X:Cx} {pins:List (Addr × Obj)} {σ:St} {H:Hp} {s:Shared} {a C dx:Addr} {fs:List (Str × V)} {f:Str} {v:V} {A:Around} {E:Value → Shared → Prop}
theorem getattr_ok {b:Bool} {Q:Value → Shared → Prop} (I:Inv X pins σ H s) (e:H a = some (.ins C dx fs)) (c:Cls X.K C) (n:NoAttr X.K C f) (l:fs.lookup f = some v)
  (h:∀ u s',Inv X pins σ H s' → RelV v u → Q u s'):wpAny (model X.prog X.w) A (getAttr (.ref a) f b) Q E s:=by
 obtain ⟨mA,O,r,_,_,_⟩:=ins_get I.hok e
 obtain ⟨u,hu,ru⟩:=RelO.some_of (v:=v) (o:=mA f) (by rw [← l]; exact r f)
 exact get_map I.kIn O (c.get f) c.hd n hu (handed_of ru) (h u _ (I.tok _) ru)
theorem setattr_ok {y:V} {u:Value} {Q:Unit → Shared → Prop} (I:Inv X pins σ H s) (e:H a = some (.ins C dx fs)) (c:Cls X.K C) (n:NoAttr X.K C f) (hl:fs.length < 1000) (ry:RelV y u)
  (h:∀ s',Inv X pins σ (upd H a (.ins C dx (putF f y fs))) s' → Q () s'):wpAny (model X.prog X.w) A (setAttr (.ref a) f u) Q E s:=by
 obtain ⟨mA,O,r,wi,_,ho⟩:=ins_get I.hok e
 have hz:(fs.map (·.1)).length ≤ sizeLine:=by rw [List.length_map,sizeLine_eq]; omega
 refine set_map I.kIn O c.sa c.po n.taker c.hd wi hz fun h' O' sb=>h _ ?_
 have hd:∃ o,h'.get? dx = some o:=let ⟨o,_,_,e',_⟩:=O'.ns; ⟨o,e'⟩
 refine I.write (x:=a) (e:=dx) (by rw [e]; exact True.intro) (.inr ho) (fun b q hb z=>(sb.2 b hb).trans z) hd ?_
 refine ⟨by rw [upd_ne O.ne]; exact ho,?_,O.ne,O'.obj,_,O'.ns,fun g=>?_,fun g hg=>?_⟩
 ·have:=length_putF f y fs; omega
 ·show RelO ((putF f y fs).lookup g) (if g = f then some u else mA g)
  rw [lookup_putF]
  by_cases q:g = f
  ·rw [if_pos q,if_pos q]; exact ry
  ·rw [if_neg q,if_neg q]; exact r g
 ·by_cases q:g = f
  ·rw [q]; exact (keys_putF f y fs).1
  ·refine (keys_putF f y fs).2 g (wi g fun z=>hg ?_)
   show (if g = f then some u else mA g) = none
   rw [if_neg q]; exact z
theorem Inv.made (I:Inv X pins σ H s):Inv X pins σ (upd (upd H s.heap.objs.size (.own (s.heap.objs.size + 1))) (s.heap.objs.size + 1) (.ins C s.heap.objs.size []))
  { s with heap:=(s.heap.push PySem.W.emptyDict).push (PySem.W.instObj C s.heap.objs.size) }:=by
 have e1:(s.heap.push PySem.W.emptyDict).get? s.heap.objs.size = some PySem.W.emptyDict:=Heap.get?_push_size s.heap rfl
 have e2:((s.heap.push PySem.W.emptyDict).push (PySem.W.instObj C s.heap.objs.size)).get? (s.heap.objs.size + 1) = some (PySem.W.instObj C s.heap.objs.size):=by
  have:=Heap.get?_push_size (s.heap.push PySem.W.emptyDict) (o:=PySem.W.instObj C s.heap.objs.size) rfl
  rwa [Heap.size_push] at this
 have e3:(s.heap.push PySem.W.emptyDict).Ns s.heap.objs.size (fun _=>none):=⟨PySem.W.emptyDict,#[],_,e1,rfl,(fun e he=>absurd he (by simp)),fun _=>rfl⟩
 have I1:=I.laid (a:=s.heap.objs.size) (o:=.own (s.heap.objs.size + 1)) (h':=s.heap.push PySem.W.emptyDict) (t':=s.toks) (fun b u q=>Heap.get?_push_of_some _ q) (Nat.le_refl _) ⟨_,e1⟩
 refine I1.laid (a:=s.heap.objs.size + 1) (o:=.ins C s.heap.objs.size []) (t':=s.toks) (fun b u q=>Heap.get?_push_of_some _ q) (Nat.le_of_eq (Heap.size_push _ _)) ?_
 have ne:s.heap.objs.size ≠ s.heap.objs.size + 1:=Nat.ne_of_lt (Nat.lt_succ_self _)
 refine ⟨by rw [upd_ne ne,upd_same],Nat.zero_le _,ne,e2,fun _=>none,(Heap.Ns1.of_empty e3).at fun o q=>Heap.get?_push_of_some _ q,fun _=>True.intro,fun y hy=>absurd rfl hy⟩
theorem attr_of {prog:Program} {w:World} {env:Env} {e:Expr} {f:Str} {pos:Pos} {s:Shared} {Q:Value → Shared → Prop} (hb:attributeBase e f env (eval e env) = eval e env)
  (h:wpAny (model prog w) A (eval e env) (fun o s₁=>wpAny (model prog w) A (getAttr o f true) Q E s₁) E s):wpAny (model prog w) A (eval (.Attribute e f pos) env) Q E s:=
 Attribute_any_ h (by rw [arm_eval_Attribute,hb])
end
def tFld (K:PySem.W.Frag) (ta:TE) (f:Str):TE:=fun σ H Q=>ta σ H fun x H1=>∃ a C dx fs v,x = .ref a ∧ H1 a = some (.ins C dx fs) ∧ Cls K C ∧ NoAttr K C f ∧ fs.lookup f = some v ∧ Q v H1
def sFld (K:PySem.W.Frag) (ta tv:TE) (f:Str):TS:=fun D σ H=>tv σ H fun y H1=>ta σ H1 fun x H2=>∃ a C dx fs,x = .ref a ∧ H2 a = some (.ins C dx fs) ∧ Cls K C ∧ NoAttr K C f ∧ fs.length < 1000 ∧
 D.nx σ (upd H2 a (.ins C dx (putF f y fs)))
section
variable {X:Cx} {o e value:Expr} {f:Str} {pos pos' tpos:Pos} {ta tv:TE}
theorem pe_fld (he:PE X e ta) (hb:attributeBase e f X.env (eval e X.env) = eval e X.env):PE X (.Attribute e f pos) (tFld X.K ta f):=by
 intro pins s σ H Q I h
 refine attr_of hb (thn (he pins s σ H _ I h) fun u s1 ⟨x,H1,I1,rx,a,C,dx,fs,v,ex,ea,c,n,l,q⟩=>?_)
 subst ex
 obtain rfl:u = Value.ref a:=rx
 exact getattr_ok I1 ea c n l fun u' s2 I2 ru=>⟨v,H1,I2,ru,q⟩
theorem ps_fld (ha:PE X o ta) (hv:PE X value tv) (hs:swapsWith value (some (.Attribute o f pos')) pos.line X.env = pure false):PS X (.Assign [.Attribute o f pos'] value pos) (sFld X.K ta tv f):=by
 intro pins s σ H D I h
 refine plainObj_wpAny_Assign_Attribute (thn (hv pins s σ H _ I h) fun u s1 ⟨y,H1,I1,ry,q⟩=>thn (ha pins s1 σ H1 _ I1 q) fun ov s2 ⟨x,H2,I2,rx,a,C,dx,fs,ex,ea,c,n,l,q2⟩=>?_) hs
 subst ex
 obtain rfl:ov = Value.ref a:=rx
 exact setattr_ok I2 ea c n l ry fun s3 I3=>⟨σ,_,I3,q2⟩
end
section
variable {X:Cx} {pins:List (Addr × Obj)} {σ:St} {H:Hp} {s:Shared} {A:Around} {E:Value → Shared → Prop} {Q:Value → Shared → Prop} {c:Value} {b:Bool}
end
end L2
namespace L2
open PySem PySem.Spec PyProof.Rows
structure Room (k:Nat) (A:Around):Prop where
 hd:A.handled = none
 dp:A.depth + 3 * k + 5 < recursionLimit
 un:A.units + 16 * k + 200 < cLine
theorem Room.mono {j k:Nat} {A:Around} (r:Room k A) (h:j ≤ k):Room j A:=⟨r.hd,by have:=r.dp; omega,by have:=r.un; omega⟩
theorem Room.deeper {k:Nat} {A:Around} (r:Room (k + 1) A) (env:Env):Room k (A.deeper env):=
 ⟨r.hd,by have:=r.dp; show A.depth + 1 + 3 * k + 5 < _; omega,by have:=r.un; show A.units + 3 + 16 * k + 200 < _; omega⟩
theorem Room.in1 {k:Nat} {A:Around} (r:Room (k + 1) A):Room k A.in1:=
 ⟨r.hd,by have:=r.dp; show A.depth + 3 * k + 5 < _; omega,by have:=r.un; show A.units + 1 + 16 * k + 200 < _; omega⟩
theorem make_depth {A:Around} {C:Addr} {us:List Value} {kw:List (Str × Value)}:(A.under (.builtin "type.__call__" ⟨.ref C :: us,kw⟩)).depth = A.depth + 1:=by
 first | rfl | simp [Around.under,Code.weight,Code.isCreation,Code.isGuard,Code.isCaller,Code.frames,Code.isFrame,guardIds]
theorem make_units {A:Around} {C:Addr} {us:List Value} {kw:List (Str × Value)}:(A.under (.builtin "type.__call__" ⟨.ref C :: us,kw⟩)).units = A.units + 1:=by
 first | rfl | simp [Around.under,Code.cUnits,Code.frames,Code.isFrame]
theorem Room.make {k:Nat} {A:Around} (r:Room (k + 1) A) (C:Addr) (us:List Value) (kw:List (Str × Value)):Room k (A.under (.builtin "type.__call__" ⟨.ref C :: us,kw⟩)):=
 ⟨r.hd,by have:=r.dp; rw [make_depth]; omega,by have:=r.un; rw [make_units]; omega⟩
theorem Room.depth {k:Nat} {A:Around} (r:Room k A):A.depth < recursionLimit:=by have:=r.dp; omega
theorem Room.units {k:Nat} {A:Around} (r:Room k A):A.units + 64 < cLine:=by have:=r.un; omega
def tNil:TA:=fun _ H Q=>Q [] H
def tCons (ta:TE) (tr:TA):TA:=fun σ H Q=>ta σ H fun x H1=>tr σ H1 fun xs H2=>Q (x :: xs) H2
section
variable {X:Cx} {e:Expr} {es:List Expr} {te:TE} {t:TA} {pos:Pos}
theorem pa_nil:PA X [] tNil:=fun _ _ _ _ H Q I h=>Calls.spliced_nil ⟨[],H,I,.nil,h⟩
theorem pa_cons (ha:PE X e te) (hr:PA X es t) (hs:starEach (e :: es) X.env = (false,eval e X.env) :: starEach es X.env:=by rfl):PA X (e :: es) (tCons te t):=by
 intro pos pins s σ H Q I h
 rw [hs]
 show wpAny _ _ (spliced ((false,eval e X.env) :: backTo pos (starEach es X.env))) _ _ s
 refine Calls.spliced_cons (thn (ha pins s σ H _ I h) fun u s1 ⟨x,H1,I1,r1,q1⟩=>?_)
 exact thn (hr pos pins s1 σ H1 _ I1 q1) fun us s2 ⟨xs,H2,I2,r2,q2⟩=>⟨x :: xs,H2,I2,.cons r1 r2,q2⟩
def tTup (t:TA):TE:=fun σ H Q=>t σ H fun xs H1=>xs.length ≤ sizeLine ∧ ∀ p,H1 p = none → Q (.ref p) (upd H1 p (.tup xs))
def tLst (t:TA):TE:=fun σ H Q=>t σ H fun xs H1=>xs.length ≤ sizeLine ∧ ∀ p,H1 p = none → Q (.ref p) (upd H1 p (.lst xs))
theorem pe_tup {x1} (h:PA X es t):PE X (.Tuple es x1 pos) (tTup t):=by
 intro pins s σ H Q I hq
 refine wpAny_Tuple_spliced (thn (h pos pins s σ H _ I hq) fun us s1 ⟨xs,H1,I1,r,z,q⟩=>⟨by rw [← r.length]; exact z,?_⟩)
 have hf:H1 s1.heap.objs.size = none:=I1.hok.fresh (Nat.le_refl _)
 refine ⟨.ref s1.heap.objs.size,upd H1 s1.heap.objs.size (.tup xs),I1.laid (t':=s1.toks) (fun b u e=>Heap.get?_push_of_some _ e) (Nat.le_refl _) ?_,rfl,q _ hf⟩
 exact ⟨z,us,r,⟨_,Heap.get?_push_size _ rfl,rfl,_,rfl⟩⟩
theorem pe_lst (h:PA X es t):PE X (.List es pos) (tLst t):=by
 intro pins s σ H Q I hq
 refine wpAny_List_spliced (thn (h pos pins s σ H _ I hq) fun us s1 ⟨xs,H1,I1,r,z,q⟩=>⟨by rw [← r.length]; exact z,?_⟩)
 have hf:H1 s1.heap.objs.size = none:=I1.hok.fresh (Nat.le_refl _)
 refine ⟨.ref s1.heap.objs.size,upd H1 s1.heap.objs.size (.lst xs),I1.laid (t':=s1.toks) (fun b u e=>Heap.get?_push_of_some _ e) (Nat.le_refl _) ?_,rfl,q _ hf⟩
 exact ⟨z,us,0,r,Heap.get?_push_size _ rfl⟩
end
abbrev Sp:=List V → Hp → VK → XK → Prop
abbrev CXT:=List Env → Hp → Shared → XK → Value → Shared → Prop
structure Env0 (P:Program) (w:World) (K:PySem.W.Frag) (mg:Str → Option Value) (base:Heap) (A:Around) (outer:List Env) (s:Shared) (H:Hp):Prop where
 frames:A.frames = some outer
 mod:Mod K mg base
 bs:∀ b o,base.get? b = some o → s.heap.get? b = some o ∧ H b = none
 bsz:base.objs.size ≤ s.heap.objs.size
 funs:s.heap.FunFrames base outer
 frf:∀ b ∈ frs outer,H b = none
 hok:HOk P w H s.heap
 bare:AllBare s.gens
def CE (outer:List Env) (P:Program) (w:World) (H:Hp) (s:Shared) (Q:VK) (u:Value) (s':Shared):Prop:=
 ∃ v H',s'.os = s.os ∧ AllBare s'.gens ∧ Un (frs outer) [] H H' s.heap s'.heap ∧ HOk P w H' s'.heap ∧ RelV v u ∧ Q v H'
def CR (CX:CXT) (outer:List Env) (P:Program) (w:World) (H:Hp) (s:Shared) (Q:VK) (E:XK) (r:Result) (s':Shared):Prop:=
 match r with
 | .ok (.ret u)=>CE outer P w H s Q u s'
 | .ok _=>False
 | .error e=>CX outer H s E e s'
structure FnOk (P:Program) (w:World) (K:PySem.W.Frag) (mg:Str → Option Value) (base:Heap) (CX:CXT) (k:Nat) (f:Addr) (fd:FuncData) (ps:List Str) (sp:Sp):Prop where
 len:∀ vs H Q E,sp vs H Q E → vs.length = ps.length
 run:∀ (A:Around) (outer:List Env) (s:Shared) (H:Hp) (args:Args) (us:List Value) (vs:List V) (Q:VK) (E:XK),Room k A → Env0 P w K mg base A outer s H → BindsTo s fd args (ps.zip us) → Vals vs us → sp vs H Q E →
  codeAny (model P w) A (.call (.ref f) args) (CR CX outer P w H s Q E) s
theorem FnOk.mono {P:Program} {w:World} {K:PySem.W.Frag} {mg:Str → Option Value} {base:Heap} {CX:CXT} {j k:Nat} {f:Addr} {fd:FuncData} {ps:List Str} {sp:Sp} (F:FnOk P w K mg base CX j f fd ps sp) (h:j ≤ k):
  FnOk P w K mg base CX k f fd ps sp:=⟨F.len,fun A outer s H args us vs Q E hr=>F.run A outer s H args us vs Q E (hr.mono h)⟩
theorem Env0.make {P:Program} {w:World} {K:PySem.W.Frag} {mg:Str → Option Value} {base:Heap} {A:Around} {outer:List Env} {s:Shared} {H:Hp} (e:Env0 P w K mg base A outer s H) (C:Addr) (us:List Value) (kw:List (Str × Value)):
  Env0 P w K mg base (A.under (.builtin "type.__call__" ⟨.ref C :: us,kw⟩)) outer s H:=⟨by first | exact e.frames | (simpa [Around.under,Code.envs,Code.isFrame,pushEnvs] using e.frames),e.mod,e.bs,e.bsz,e.funs,e.frf,e.hok,e.bare⟩
section
variable {X:Cx} {pins:List (Addr × Obj)} {σ:St} {H:Hp} {s s':Shared}
theorem Inv.env0 (I:Inv X pins σ H s):Env0 X.prog X.w X.K X.mg X.base X.A X.stack s H:=
 ⟨I.ok.frames,I.ok.mod,I.bs,Nat.le_trans I.ok.bsz I.sz,I.stack,I.stkFree,I.hok,I.bare⟩
theorem Inv.after {Q:VK} {u:Value} (I:Inv X pins σ H s) (h:CE X.stack X.prog X.w H s Q u s'):EP X pins σ Q u s':=by
 obtain ⟨v,H',os,bare,un,hok,r,q⟩:=h
 obtain ⟨hh,g,d,t,os'⟩:=s'
 obtain rfl:os' = s.os:=os
 exact ⟨v,H',I.call (h':=hh) (g':=g) (d':=d) (t':=t) (ch:=[]) un hok bare (fun b z=>absurd z (by simp)),r,q⟩
end
def tCall (sp:Sp) (dvs:List V) (E:XK) (t:TA):TE:=fun σ H Q=>t σ H fun vs H1=>sp (vs ++ dvs) H1 Q E
def tMake (C:Addr) (sp:Sp) (dvs:List V) (E:XK) (t:TA):TE:=fun σ H Q=>t σ H fun vs H1=>∀ x dx,H1 x = none → H1 dx = none → dx ≠ x →
 sp (.ref x :: (vs ++ dvs)) (upd (upd H1 dx (.own x)) x (.ins C dx [])) (fun v H2=>v = .non ∧ Q (.ref x) H2) E
def Binds (K:PySem.W.Frag) (fd:FuncData) (ps:List Str) (ds:List Value):Prop:=
 ∀ (s:Shared) (us:List Value),K.In s.heap → (us ++ ds).length = ps.length → BindsTo s fd ⟨us,[]⟩ (ps.zip (us ++ ds))
theorem Binds.all {K:PySem.W.Frag} {fd:FuncData} {ps:List Str} (h:∀ us:List Value,us.length = ps.length → bindArgs fd ⟨us,[]⟩ = pure (ps.zip us)):Binds K fd ps []:=fun s us _ hl=>by
 rw [List.append_nil] at hl ⊢
 exact .of_eq (h us hl)
def Passes (CX:CXT) (X:Cx) (E:XK):Prop:=∀ (pins:List (Addr × Obj)) (σ:St) (H:Hp) (s:Shared) (e:Value) (s':Shared),Inv X pins σ H s → CX X.stack H s E e s' → X.xe e s'
section
variable {X:Cx} {CX:CXT} {k:Nat} {f C:Addr} {fd:FuncData} {ps:List Str} {sp:Sp} {dvs:List V} {ds:List Value} {E:XK} {x m:Str} {p pos apos:Pos} {e o:Expr} {es:List Expr} {ta:TE} {t:TA}
theorem run_fn {pins:List (Addr × Obj)} {σ:St} {H:Hp} {s:Shared} {Q:VK} {us:List Value} {vs:List V} (F:FnOk X.prog X.w X.K X.mg X.base CX k f fd ps sp) (hr:Room k X.A) (hb:Binds X.K fd ps ds) (hd:Vals dvs ds) (hx:Passes CX X E)
  (I:Inv X pins σ H s) (r:Vals vs us) (h:sp (vs ++ dvs) H Q E):wpAny (model X.prog X.w) X.A (call (.ref f) us) (EP X pins σ Q) X.xe s:=by
 have r2:Vals (vs ++ dvs) (us ++ ds):=r.append hd
 have hl:(us ++ ds).length = ps.length:=by rw [← r2.length]; exact F.len _ _ _ _ h
 refine wpAny_call (codeAny_mono (F.run X.A X.stack s H ⟨us,[]⟩ (us ++ ds) (vs ++ dvs) Q E hr I.env0 (hb s us I.kIn hl) r2 h) fun r s' hq=>?_)
 cases r with
 | error e=>exact hx pins σ H s e s' I hq
 | ok fl=>
  cases fl with
  | ret u=>exact I.after hq
  | next=>exact False.elim hq
  | brk=>exact False.elim hq
  | cont=>exact False.elim hq
theorem pe_call (F:FnOk X.prog X.w X.K X.mg X.base CX k f fd ps sp) (hr:Room k X.A) (hg:Gl X x) (hm:X.mg x = some (.ref f)) (hk:PySem.W.keepIn X.K (.ref f) = true) (hb:Binds X.K fd ps ds) (hd:Vals dvs ds) (hx:Passes CX X E)
  (ha:PA X (e :: es) t) (hdb:(x == ("__debug__":Str)) = false:=by decide) (he:starEach (e :: es) X.env = (false,eval e X.env) :: starEach es X.env:=by rfl) (hpl:(backTo pos (starEach es X.env)).any (·.1) = false:=by rfl):
  PE X (.Call (.Name x p) (e :: es) [] pos) (tCall sp dvs E t):=by
 intro pins s σ H Q I h
 refine wpAny_Call_Name_kw (ld_glob I hg hm ?_ hdb)
 refine PySem.W.callWith_K (h₀:=X.base) I.ok.mod.kin hk (thn (ha pos pins s σ H _ I h) fun us s1 ⟨vs,H1,I1,r,q⟩=>⟨I1.kIn,?_⟩) he hpl
 exact run_fn F hr hb hd hx I1 r q
structure Mk (K:PySem.W.Frag) (C f:Addr):Prop where
 makes:PySem.W.makesIn K C = true
 init:PySem.W.findIn K (.ref C) "__init__" = some (some (.ref f))
 fn:PySem.W.isFn K (.ref f) = true
 kp:PySem.W.keepIn K (.ref C) = true
theorem run_make {pins:List (Addr × Obj)} {σ:St} {H:Hp} {s:Shared} {Q:VK} {us:List Value} {vs:List V} (M:Mk X.K C f) (F:FnOk X.prog X.w X.K X.mg X.base CX k f fd ps sp) (hr:Room (k + 1) X.A) (hb:Binds X.K fd ps ds) (hd:Vals dvs ds)
  (hx:Passes CX X E) (I:Inv X pins σ H s) (r:Vals vs us)
  (h:∀ x dx,H x = none → H dx = none → dx ≠ x → sp (.ref x :: (vs ++ dvs)) (upd (upd H dx (.own x)) x (.ins C dx [])) (fun v H2=>v = .non ∧ Q (.ref x) H2) E):
  wpAny (model X.prog X.w) X.A (call (.ref C) us) (EP X pins σ Q) X.xe s:=by
 have hq:=h (s.heap.objs.size + 1) s.heap.objs.size (I.hok.fresh (Nat.le_succ _)) (I.hok.fresh (Nat.le_refl _)) (Nat.ne_of_lt (Nat.lt_succ_self _))
 have I2:=Inv.made (C:=C) I
 have r2:Vals (V.ref (s.heap.objs.size + 1) :: (vs ++ dvs)) (Value.ref (s.heap.objs.size + 1) :: (us ++ ds)):=.cons rfl (r.append hd)
 have hl:(Value.ref (s.heap.objs.size + 1) :: us ++ ds).length = ps.length:=by
  have e:=r2.length
  rw [F.len _ _ _ _ hq] at e
  exact e.symm
 refine wpAny_call (make_map (f:=f) I.kIn M.makes M.init (beq_iff_eq.mp M.fn) (codeAny_mono (F.run _ X.stack _ _ ⟨Value.ref (s.heap.objs.size + 1) :: us,[]⟩ (Value.ref (s.heap.objs.size + 1) :: (us ++ ds)) _ _ E (hr.make C us [])
  (I2.env0.make C us []) (hb _ (Value.ref (s.heap.objs.size + 1) :: us) I2.kIn hl) r2 hq) fun r s' hq'=>?_))
 cases r with
 | error e=>exact hx pins σ _ _ e s' I2 hq'
 | ok fl=>
  cases fl with
  | ret u=>
   obtain ⟨v,H',I3,rv,ev,q3⟩:=I2.after hq'
   subst ev
   exact ⟨rv,⟨V.ref (s.heap.objs.size + 1),H',I3,rfl,q3⟩⟩
  | next=>exact False.elim hq'
  | brk=>exact False.elim hq'
  | cont=>exact False.elim hq'
theorem pe_make (M:Mk X.K C f) (F:FnOk X.prog X.w X.K X.mg X.base CX k f fd ps sp) (hr:Room (k + 1) X.A) (hg:Gl X x) (hm:X.mg x = some (.ref C)) (hb:Binds X.K fd ps ds) (hd:Vals dvs ds) (hx:Passes CX X E)
  (ha:PA X (e :: es) t) (hdb:(x == ("__debug__":Str)) = false:=by decide) (he:starEach (e :: es) X.env = (false,eval e X.env) :: starEach es X.env:=by rfl) (hpl:(backTo pos (starEach es X.env)).any (·.1) = false:=by rfl):
  PE X (.Call (.Name x p) (e :: es) [] pos) (tMake C sp dvs E t):=by
 intro pins s σ H Q I h
 refine wpAny_Call_Name_kw (ld_glob I hg hm ?_ hdb)
 refine PySem.W.callWith_K (h₀:=X.base) I.ok.mod.kin M.kp (thn (ha pos pins s σ H _ I h) fun us s1 ⟨vs,H1,I1,r,q⟩=>⟨I1.kIn,?_⟩) he hpl
 exact run_make M F hr hb hd hx I1 r q
theorem pe_make0 (M:Mk X.K C f) (F:FnOk X.prog X.w X.K X.mg X.base CX k f fd ps sp) (hr:Room (k + 1) X.A) (hg:Gl X x) (hm:X.mg x = some (.ref C)) (hb:Binds X.K fd ps ds) (hd:Vals dvs ds) (hx:Passes CX X E)
  (hdb:(x == ("__debug__":Str)) = false:=by decide):PE X (.Call (.Name x p) [] [] pos) (tMake C sp dvs E tNil):=by
 intro pins s σ H Q I h
 refine wpAny_Call_Name_kw (ld_glob I hg hm ?_ hdb)
 exact PySem.W.callWith_K0 I.kIn M.kp (run_make (us:=[]) M F hr hb hd hx I .nil h)
end
section
variable {X:Cx} {CX:CXT} {k:Nat} {f C:Addr} {fd:FuncData} {ps ks:List Str} {sp:Sp} {E:XK} {x m:Str} {p pos apos kpos:Pos} {e o:Expr} {es:List Expr} {kws:List Keyword} {te ta:TE} {t tk:TA} {nm:Option Str}
variable {g:List Value → List Value → List Value} {gV:List V → List V → List V}
end
structure FnScope (N P:List Str) (sc:Scope):Prop where
 kind:sc.kind = .function
 co:sc.isCoroutine = false
 gen:sc.isGenerator = false
 nd:N.Nodup
 pre:N.take P.length = P
 par:∀ x ∈ P,sc.names.lookup x = some .local ∨ sc.names.lookup x = some .cell
 nofree:∀ y ∈ sc.names,y.2 ≠ .free
theorem bindL_out {kindOf:Str → Option NameKind} {x:Str}:∀ {binds:List (Str × Value)} {m:Str → Option Value},(∀ v,(x,v) ∉ binds) → bindL kindOf binds m x = m x
 | [],_,_=>rfl
 | (n,v) :: r,m,h=>by
  unfold bindL
  rw [bindL_out fun w hw=>h w (List.mem_cons_of_mem _ hw)]
  split
  ·have:x ≠ n:=by rintro rfl; exact h v List.mem_cons_self
   simp [this]
  ·rfl
theorem bindC_out {kindOf:Str → Option NameKind} {x:Str}:∀ {binds:List (Str × Value)} {m:Str → Option Value},(∀ v,(x,v) ∉ binds) → bindC kindOf binds m x = m x
 | [],_,_=>rfl
 | (n,v) :: r,m,h=>by
  unfold bindC
  rw [bindC_out fun w hw=>h w (List.mem_cons_of_mem _ hw)]
  split
  ·rfl
  ·have:x ≠ n:=by rintro rfl; exact h v List.mem_cons_self
   simp [this]
theorem bindL_get {kindOf:Str → Option NameKind} {x:Str} {v:Value}:∀ {P:List Str} {vs:List Value} {i:Nat} {m:Str → Option Value},P.Nodup → P[i]? = some x → vs[i]? = some v → kindOf x = some .local →
  bindL kindOf (P.zip vs) m x = some v
 | [],_,_,_,_,h,_,_=>by simp at h
 | _ :: _,[],_,_,_,_,h,_=>by simp at h
 | p :: P,w :: vs,0,m,nd,h1,h2,hk=>by
  simp at h1 h2; subst h1; subst h2
  show bindL kindOf ((p,w) :: P.zip vs) m p = _
  unfold bindL
  rw [bindL_out fun v hv=>(List.nodup_cons.mp nd).1 (List.of_mem_zip hv).1,if_pos hk]
  simp
 | p :: P,w :: vs,i + 1,m,nd,h1,h2,hk=>by
  show bindL kindOf ((p,w) :: P.zip vs) m x = _
  unfold bindL
  exact bindL_get (i:=i) (List.nodup_cons.mp nd).2 (by simpa using h1) (by simpa using h2) hk
theorem bindC_get {kindOf:Str → Option NameKind} {x:Str} {v:Value}:∀ {P:List Str} {vs:List Value} {i:Nat} {m:Str → Option Value},P.Nodup → P[i]? = some x → vs[i]? = some v → kindOf x ≠ some .local →
  bindC kindOf (P.zip vs) m x = some v
 | [],_,_,_,_,h,_,_=>by simp at h
 | _ :: _,[],_,_,_,_,h,_=>by simp at h
 | p :: P,w :: vs,0,m,nd,h1,h2,hk=>by
  simp at h1 h2; subst h1; subst h2
  show bindC kindOf ((p,w) :: P.zip vs) m p = _
  unfold bindC
  rw [bindC_out fun v hv=>(List.nodup_cons.mp nd).1 (List.of_mem_zip hv).1,if_neg hk]
  simp
 | p :: P,w :: vs,i + 1,m,nd,h1,h2,hk=>by
  show bindC kindOf ((p,w) :: P.zip vs) m x = _
  unfold bindC
  exact bindC_get (i:=i) (List.nodup_cons.mp nd).2 (by simpa using h1) (by simpa using h2) hk
def start (N:List Str) (vs:List V):St:=vs.map some ++ List.replicate (N.length - vs.length) none
def cxOf (CX:CXT) (P:Program) (w:World) (K:PySem.W.Frag) (mg:Str → Option Value) (base:Heap) (N:List Str) (qual:Str) (scope:Scope) (f:Addr) (cd:Value) (A:Around) (outer:List Env) (s:Shared) (H:Hp) (E:XK):Cx where
 prog:=P
 w:=w
 K:=K
 mg:=mg
 base:=base
 A:=A.deeper (envOfC qual scope s.heap.objs.size f cd)
 N:=N
 s_0:=s
 H_0:=H
 env:=envOfC qual scope s.heap.objs.size f cd
 outer:=outer
 stack:=envOfC qual scope s.heap.objs.size f cd :: outer
 ex:=[]
 calm:=true
 fn:=fun _=>true
 pn:=[]
 xe:=fun e s'=>wpAny (model P w) (A.deeper (envOfC qual scope s.heap.objs.size f cd)) (leaving (envOfC qual scope s.heap.objs.size f cd) e) (fun _ s''=>CX outer H s E e s'') (fun e' s''=>CX outer H s E e' s'') s'
theorem cell_has {sc:Scope} {n:Nat} {x:Str} (h:sc.names.lookup x = some .cell):∃ c,(cellsFrom n sc.names []).lookup x = some c:=by
 have q:=PySem.W.cellsFrom_some sc.names n [] (.inl h)
 exact Option.isSome_iff_exists.mp q
theorem inv_start {CX:CXT} {P:Program} {w:World} {K:PySem.W.Frag} {mg:Str → Option Value} {base:Heap} {N ps:List Str} {qual:Str} {scope:Scope} {f:Addr} {cd:Value} {A:Around} {outer:List Env} {s s1:Shared} {H:Hp} {E:XK} {us:List Value} {vs:List V}
  (S:FnScope N ps scope) (hd:A.handled = none) (e0:Env0 P w K mg base A outer s H) (hl:vs.length = ps.length) (r:Vals vs us)
  (x:InCallC s s.heap.objs.size (bindL (envOfC qual scope s.heap.objs.size f cd).kindOf (ps.zip us) fun _=>none) (cellsFrom (s.heap.objs.size + 1) scope.names []) (bindC (envOfC qual scope s.heap.objs.size f cd).kindOf (ps.zip us) fun _=>none) s1):
  Inv (cxOf CX P w K mg base N qual scope f cd A outer s H E) [] (start N vs) H s1:=by
 have hpl:ps.length ≤ N.length:=by have:=congrArg List.length S.pre; rw [List.length_take] at this; omega
 obtain ⟨h1,tk,rfl,hk⟩:=x.done
 have noA:∀ b:Addr,b ∉ (cxOf CX P w K mg base N qual scope f cd A outer s H E).ex:=fun b z=>absurd (show b ∈ ([]:List Addr) from z) (by simp)
 refine ⟨⟨e0.mod,S.kind,rfl,rfl,Nat.le_refl _,fun y z c h1 h2=>?_,fun y hy=>?_,fun y c _ h=>?_,fun _=>hd,Around.frames_deeper e0.frames,.inr ⟨rfl,rfl⟩,fun b z=>absurd z (noA b),e0.bs,e0.bsz,fun b _ _=>noA b,fun b z=>absurd z (noA b),e0.funs,e0.frf⟩,
  rfl,e0.bare,Un.kept hk,⟨_,x.toInCall.ns,fun i y v h1 h2 h3=>?_⟩,fun y c h=>⟨_,x.cell y c h⟩,e0.hok.fresh (Nat.le_refl _),fun y c h=>?_,fun p hp=>absurd (show p ∈ ([]:List (Addr × Obj)) from hp) (by simp),e0.hok.kept hk,?_⟩
 ·exact name_of_addr x.apart (PySem.mem_of_lookup h1) (PySem.mem_of_lookup h2)
 ·have hy:scope.names.lookup y = some .cell ∨ scope.names.lookup y = some .free:=hy
  rcases hy with hy | hy
  ·exact cell_has hy
  ·exact absurd rfl (S.nofree _ (PySem.mem_of_lookup hy))
 ·exact Nat.le_of_lt (x.above y c (PySem.mem_of_lookup h))
 ·have hi:i < vs.length:=by
   unfold start at h2
   by_cases hi:i < vs.length
   ·exact hi
   ·rw [List.getElem?_append_right (by simpa using hi)] at h2
    rw [List.getElem?_replicate] at h2
    split at h2 <;> cases h2
  have ha:vs[i]? = some v:=by
   unfold start at h2
   rw [List.getElem?_append_left (by simpa using hi),List.getElem?_map] at h2
   cases e:vs[i]? with
   | none=>rw [e] at h2; cases h2
   | some a=>rw [e] at h2; cases h2; rfl
  obtain ⟨u,hu,rv⟩:=r.get ha
  have hp:ps[i]? = some y:=by
   rw [← S.pre,List.getElem?_take_of_lt (by omega)]; exact h1
  have ndP:ps.Nodup:=by rw [← S.pre]; exact S.nd.sublist (List.take_sublist _ _)
  refine ⟨u,rv,?_⟩
  rcases S.par y (List.mem_of_getElem? hp) with k | k
  ·exact .inl ⟨k,bindL_get ndP hp hu k⟩
  ·obtain ⟨c,e⟩:=cell_has (n:=s.heap.objs.size + 1) k
   refine .inr ⟨.inl k,c,e,?_⟩
   have q:=x.cell y c e
   rw [bindC_get ndP hp hu (by show scope.names.lookup y ≠ _; rw [k]; decide)] at q
   exact q
 ·exact e0.hok.fresh (Nat.le_of_lt (x.above y c (PySem.mem_of_lookup h)))
 ·unfold start
  show _ = N.length
  rw [List.length_append,List.length_map,List.length_replicate]
  omega
theorem fn_of {CX:CXT} {P:Program} {w:World} {K:PySem.W.Frag} {mg:Str → Option Value} {base:Heap} {k:Nat} {f:Addr} {name qual:Str} {params:Arguments} {body:List Stmt} {scope:Scope} {dV kV doc pm cdv ct oc:Value} {an od:Option Addr}
  {osl:Array (Option Value)} {N ps:List Str} {sp:Sp} (lk:K.lookup f = some ⟨oc,od,.func (PySem.W.fnOf name qual params body scope dV kV doc pm an cdv ct),osl⟩) (hcd:PySem.W.codeIn K cdv qual = true) (S:FnScope N ps scope)
  (len:∀ vs H Q E,sp vs H Q E → vs.length = ps.length)
  (hbody:∀ (A:Around) (outer:List Env) (s:Shared) (H:Hp) (vs:List V) (Q:VK) (E:XK),Room k (A.deeper (envOfC qual scope s.heap.objs.size f cdv)) → sp vs H Q E →
   ∃ t,PSs (cxOf CX P w K mg base N qual scope f cdv A outer s H E) body t ∧ t { nx:=fun _ H'=>Q .non H',rt:=Q } (start N vs) H):
  FnOk P w K mg base CX (k + 1) f (PySem.W.fnOf name qual params body scope dV kV doc pm an cdv ct) ps sp:=by
 refine ⟨len,fun A outer s H args us vs Q E hr e0 hb r hsp=>?_⟩
 have hl:=len _ _ _ _ hsp
 have KX:K.In s.heap:=e0.mod.kin.keeps fun b o e=>(e0.bs b o e).1
 have lim:s.heap.NoLimit:=e0.mod.nolimit.keeps fun b o e=>(e0.bs b o e).1
 have hkind:∀ y ∈ ps.zip us,scope.names.lookup y.1 = some .local ∨ (scope.names.lookup y.1 = some .cell ∧ ((cellsFrom (s.heap.objs.size + 1) scope.names []).lookup y.1).isSome = true):=fun ⟨n,v⟩ hy=>by
  rcases S.par n (List.of_mem_zip hy).1 with q | q
  ·exact .inl q
  ·exact .inr ⟨q,PySem.W.cellsFrom_some _ _ _ (.inl q)⟩
 refine codeAny_call_function hr.depth (KX _ _ lk) rfl S.co S.gen rfl (PySem.W.codeRec_of KX hcd) (hb _ _ _ _ ?_)
 refine wpAny_newFunctionEnv_cells S.kind hkind fun env he s1 x=>?_
 subst he
 refine ⟨lim.keeps x.toInCall.keep,codeAny_func ?_⟩
 obtain ⟨t,ht,hq⟩:=hbody A outer s H vs Q E (hr.deeper _) hsp
 have I:Inv (cxOf CX P w K mg base N qual scope f cdv A outer s H E) [] (start N vs) H s1:=inv_start S hr.hd e0 hl r x
 refine wpAny_mono (ht [] s1 (start N vs) H _ I hq) (fun fl s' hs=>?_) fun e s' hs=>hs
 have fin:∀ {σ':St} {H':Hp} {v:V} {u:Value},Inv (cxOf CX P w K mg base N qual scope f cdv A outer s H E) [] σ' H' s' → RelV v u → Q v H' → CE outer P w H s Q u s':=
  fun {σ' H' v u} J rv q=>⟨v,H',J.os,J.bare,J.base,J.hok,rv,q⟩
 cases fl with
 | ret u=>
  obtain ⟨v,σ',H',J,rv,q⟩:=hs
  exact fin J rv q
 | next=>
  obtain ⟨σ',H',J,q⟩:=hs
  exact fin (v:=V.non) (u:=Value.none) J rfl q
 | brk=>
  obtain ⟨_,_,_,q⟩:=hs
  exact False.elim q
 | cont=>
  obtain ⟨_,_,_,q⟩:=hs
  exact False.elim q
end L2
namespace L2
open PySem PySem.Spec PyProof.Rows
section
variable {X:Cx} {x:Str} {p pos:Pos} {e:Expr} {es:List Expr} {t:TA} {id T:String} {r:List V → Hp → VK → Prop}
def tCB (r:List V → Hp → VK → Prop) (t:TA):TE:=fun σ H Q=>t σ H fun vs H1=>r vs H1 Q
theorem pe_callB (hc:CallR X (.builtin id) r) (hg:Gl X x) (hm:X.mg x = none) (hv:bootBuiltins x = some (.builtin id)) (ha:PA X (e :: es) t) (hn:x ≠ "__name__":=by decide) (hdb:(x == ("__debug__":Str)) = false:=by decide)
  (he:starEach (e :: es) X.env = (false,eval e X.env) :: starEach es X.env:=by rfl) (hpl:(backTo pos (starEach es X.env)).any (·.1) = false:=by rfl):PE X (.Call (.Name x p) (e :: es) [] pos) (tCB r t):=by
 intro pins s σ H Q I h
 refine wpAny_Call_Name_kw (ld_blt I hg hm hv ?_ hn hdb)
 exact PyProof.Rows.callWith_builtin1 (thn (ha pos pins s σ H _ I h) fun us s1 ⟨vs,H1,I1,r1,q1⟩=>hc pins s1 σ H1 vs us Q I1 r1 q1) he hpl
theorem pe_callTy (hc:CallR X (.type T) r) (hg:Gl X x) (hm:X.mg x = none) (hv:bootBuiltins x = some (.type T)) (ha:PA X (e :: es) t) (hn:x ≠ "__name__":=by decide) (hdb:(x == ("__debug__":Str)) = false:=by decide)
  (he:starEach (e :: es) X.env = (false,eval e X.env) :: starEach es X.env:=by rfl) (hpl:(backTo pos (starEach es X.env)).any (·.1) = false:=by rfl):PE X (.Call (.Name x p) (e :: es) [] pos) (tCB r t):=by
 intro pins s σ H Q I h
 refine wpAny_Call_Name_kw (ld_blt I hg hm hv ?_ hn hdb)
 exact PyProof.Rows.callWith_type1 (thn (ha pos pins s σ H _ I h) fun us s1 ⟨vs,H1,I1,r1,q1⟩=>hc pins s1 σ H1 vs us Q I1 r1 q1) he hpl
end
end L2
namespace HT
open PySem PyProof.Rows
section
open PySem.SeqAt
open PySem.AutoSeq1 (wpAny_loadPart')
open PySem.MeetsSeq PySem.MeetsSeq2 PySem.MeetsSeq3
end
section
variable {prog:Program} {w:World} {A:Around} {E:Value → Shared → Prop} {s:Shared}
theorem cat_tup {t b:Addr} {vs ws:List Value} {Q:Value → Shared → Prop} (ht:IsTup s.heap t vs.toArray) (hb:IsTup s.heap b ws.toArray) (hv:vs ≠ [])
  (h1:ws = [] → Q (.ref t) s) (h2:ws ≠ [] → Q (.ref s.heap.objs.size) { s with heap:=s.heap.push { cls:=.type "tuple",data:=.seq (vs ++ ws).toArray } })
  (hsz:vs.length + ws.length ≤ sizeLine):wpAny (model prog w) A (binaryOp .Add (.ref t) (.ref b)) Q E s:=by
 obtain ⟨⟨cls,dd,data,sl⟩,ho,hc,n,hd⟩:=id ht
 obtain ⟨⟨cls2,dd2,data2,sl2⟩,ho2,hc2,n2,hd2⟩:=id hb
 simp only at hc hd hc2 hd2
 subst hc hd hc2 hd2
 have e:vs.toArray ++ ws.toArray = (vs ++ ws).toArray:=by simp
 by_cases hw:ws = []
 ·exact concat_meets ⟨_,ho,rfl⟩ ⟨_,ho2,rfl⟩ noFill_tuple_add seq_tuple_add PySem.F.slot_tuple_add PySem.F.entry_tuple_add (PySem.F.args_tuple_add_2 _ _)
   (tuple_addW1 t b vs.toArray ws.toArray n n2 dd dd2 sl sl2 (by simpa using hv) (by simp [hw])) ⟨ho,ho2,h1 hw⟩
 ·refine concat_meets ⟨_,ho,rfl⟩ ⟨_,ho2,rfl⟩ noFill_tuple_add seq_tuple_add PySem.F.slot_tuple_add PySem.F.entry_tuple_add (PySem.F.args_tuple_add_2 _ _)
   (tuple_addW2 t b vs.toArray ws.toArray n n2 dd dd2 sl sl2 (by simpa using hv) (by simpa using hw) (by rw [List.size_toArray,List.size_toArray]; exact hsz)) ⟨ho,ho2,?_⟩
  rw [e]
  exact h2 hw
def sIx (n d:Nat):Option Int → Nat
 | none=>d
 | some v=>if v < 0 then (v + (n:Int)).toNat else min v.toNat n
end
end HT
namespace L2
open PySem PySem.Spec PyProof.Rows
abbrev TO:=St → Hp → (Option Int → Hp → Prop) → Prop
def PO (X:Cx) (e:Option Expr) (t:TO):Prop:=
 ∀ (pins:List (Addr × Obj)) (s:Shared) (σ:St) (H:Hp) (Q:Option Int → Hp → Prop),Inv X pins σ H s → t σ H Q →
  wpAny (model X.prog X.w) X.A (evalPart e X.env) (fun u s'=>∃ o H',Inv X pins σ H' s' ∧ IsPart u o ∧ Q o H') X.xe s
def tNoPart:TO:=fun _ H Q=>Q none H
def tPart (t:TE):TO:=fun σ H Q=>t σ H fun x H1=>∃ i,x = .int i ∧ Q (some i) H1
section
variable {X:Cx} {e:Expr} {te:TE} {lo hi:Option Expr} {tl th:TO} {pos p2:Pos}
theorem po_none:PO X none tNoPart:=by
 intro pins s σ H Q I h
 rw [evalPart_none]
 exact wpAny_pure ⟨none,H,I,.none,h⟩
theorem po_some (h:PE X e te):PO X (some e) (tPart te):=by
 intro pins s σ H Q I hw
 rw [evalPart_some]
 refine thn (h pins s σ H _ I hw) fun u s1 ⟨x,H1,I1,r1,q1⟩=>?_
 obtain ⟨i,rfl,q⟩:=q1
 obtain ⟨t,rfl⟩:=r1
 exact ⟨some i,H1,I1,.int i t,q⟩
def SlR (X:Cx) (r:V → Option Int → Option Int → Hp → VK → Prop):Prop:=
 ∀ (pins:List (Addr × Obj)) (s:Shared) (σ:St) (H:Hp) (x:V) (v vl vu:Value) (lo hi:Option Int) (sl:Addr) (Q:VK),Inv X pins σ H s → RelV x v → s.heap.IsSliceOf sl vl vu .none → IsPart vl lo → IsPart vu hi → r x lo hi H Q →
  ∃ T id,typeLookup (.type T) "__getitem__" = pure (some (.builtin id)) ∧ s.TypeIs v T ∧ wpAny (model X.prog X.w) X.A (getItem v (.ref sl)) (EP X pins σ Q) X.xe s
def tSl (r:V → Option Int → Option Int → Hp → VK → Prop) (te:TE) (tl th:TO):TE:=fun σ H Q=>te σ H fun x H1=>tl σ H1 fun l H2=>th σ H2 fun u H3=>r x l u H3 Q
theorem pe_slice {r:V → Option Int → Option Int → Hp → VK → Prop} (hr:SlR X r) (he:PE X e te) (hl:PO X lo tl) (hu:PO X hi th):PE X (.Subscript e (.Slice lo hi none p2) pos) (tSl r te tl th):=by
 intro pins s σ H Q I h
 refine Subscript_ (thn (he pins s σ H _ I h) fun v s1 ⟨x,H1,I1,r1,q1⟩=>?_)
 refine wpAny_Slice (thn (hl pins s1 σ H1 _ I1 q1) fun vl s2 ⟨l,H2,I2,pl,q2⟩=>thn (hu pins s2 σ H2 _ I2 q2) fun vu s3 ⟨u,H3,I3,pu,q3⟩=>?_)
 rw [evalPart_none]
 refine wpAny_pure ?_
 have I4:Inv X pins σ H3 { s3 with heap:=s3.heap.push { cls:=.type "slice",data:=.fields #[vl,vu,.none] } }:=I3.kept (t':=s3.toks) fun b ob q=>Heap.get?_push_of_some _ q
 obtain ⟨T,id,hT,ht,hg⟩:=hr pins { s3 with heap:=s3.heap.push { cls:=.type "slice",data:=.fields #[vl,vu,.none] } } σ H3 x v vl vu l u s3.heap.objs.size Q I4 r1 (Heap.IsSliceOf.new ..) pl pu q3
 show wpAny (model X.prog X.w) X.A (subscriptTail e (.Slice lo hi none p2) v (.ref s3.heap.objs.size)) (EP X pins σ Q) X.xe { s3 with heap:=s3.heap.push { cls:=.type "slice",data:=.fields #[vl,vu,.none] } }
 exact tail_any (ops:=[.ref s3.heap.objs.size,v]) ht hT hg (by with_unfolding_all rfl)
def cutV (xs:List V) (lo hi:Option Int):List V:=(xs.drop (HT.sIx xs.length 0 lo)).take (HT.sIx xs.length xs.length hi - HT.sIx xs.length 0 lo)
theorem cutV_length (xs:List V) (lo hi:Option Int):(cutV xs lo hi).length ≤ xs.length:=by
 unfold cutV
 rw [List.length_take,List.length_drop]
 omega
def rCatT (K:PySem.W.Frag):R2:=fun x y H Q=>∃ a b xs ys,x = .ref a ∧ y = .ref b ∧ SqT K H a xs ∧ SqT K H b ys ∧ xs ≠ [] ∧ xs.length + ys.length ≤ sizeLine ∧
 (ys = [] → Q (.ref a) H) ∧ (ys ≠ [] → ∀ p,H p = none → Q (.ref p) (upd H p (.tup (xs ++ ys))))
theorem Vals.nil_iff {xs:List V} {us:List Value} (r:Vals xs us):us = [] ↔ xs = []:=by
 cases r with
 | nil=>simp
 | cons _ _=>simp
theorem op_catT:OpR X (binaryOp .Add) (rCatT X.K):=by
 intro pins s σ H x y v u Q I rx ry h
 obtain ⟨a,b,xs,ys,rfl,rfl,ha,hb,hx,hz,q1,q2⟩:=h
 cases rx
 cases ry
 obtain ⟨its,r1,p1,_⟩:=I.tuple ha
 obtain ⟨its2,r2,p2,_⟩:=I.tuple hb
 refine HT.cat_tup p1 p2 (fun z=>hx (r1.nil_iff.mp z)) (fun z=>⟨.ref a,H,I,rfl,q1 (r2.nil_iff.mp z)⟩) (fun z=>?_) (by rw [← r1.length,← r2.length]; exact hz)
 refine ⟨.ref s.heap.objs.size,_,I.laid (t':=s.toks) (o:=.tup (xs ++ ys)) (fun b ob q=>Heap.get?_push_of_some _ q) (Nat.le_refl _) ?_,rfl,q2 (fun w=>z (r2.nil_iff.mpr w)) _ (I.hok.fresh (Nat.le_refl _))⟩
 exact ⟨by rw [List.length_append]; exact hz,_,r1.append r2,IsTup.new _ _⟩
end
end L2
namespace L2
open PySem PySem.Spec PyProof.Rows
def ixN (n:Nat) (i:Int):Option Nat:=if 0 ≤ i then (if i < n then some i.toNat else none) else if -(n:Int) ≤ i then some (i + n).toNat else none
def atI {α:Type} (xs:List α) (i:Int):Option α:=(ixN xs.length i).bind fun j=>xs[j]?
theorem ixN_seq {n:Nat} {i:Int} {j:Nat} (h:ixN n i = some j):seqIndex? i n = some j ∧ j < n ∧ -(n:Int) ≤ i ∧ i < n:=by
 unfold ixN at h
 by_cases h0:0 ≤ i
 ·rw [if_pos h0] at h
  by_cases h1:i < n
  ·rw [if_pos h1] at h
   have e:i.toNat = j:=Option.some.inj h
   exact ⟨by rw [seqIndex_of h0 h1,e],by omega,by omega,h1⟩
  ·rw [if_neg h1] at h; cases h
 ·rw [if_neg h0] at h
  by_cases h1:-(n:Int) ≤ i
  ·rw [if_pos h1] at h
   have e:(i + n).toNat = j:=Option.some.inj h
   exact ⟨by rw [seqIndex_neg (by omega) h1,e],by omega,h1,by omega⟩
  ·rw [if_neg h1] at h; cases h
theorem atI_get {α:Type} {xs:List α} {i:Int} {v:α} (h:atI xs i = some v):∃ j,seqIndex? i xs.length = some j ∧ xs[j]? = some v ∧ j < xs.length ∧ -(xs.length:Int) ≤ i ∧ i < xs.length:=by
 unfold atI at h
 cases e:ixN xs.length i with
 | none=>rw [e] at h; cases h
 | some j=>
  rw [e] at h
  obtain ⟨h1,h2,h3,h4⟩:=ixN_seq e
  exact ⟨j,h1,h,h2,h3,h4⟩
theorem atI_nat {α:Type} {xs:List α} {j:Nat} {v:α} (h:xs[j]? = some v):atI xs (j:Int) = some v:=by
 have hj:j < xs.length:=(List.getElem?_eq_some_iff.mp h).1
 have e:ixN xs.length (j:Int) = some j:=by
  unfold ixN
  rw [if_pos (by omega),if_pos (by omega)]; simp
 unfold atI; rw [e]; exact h
def PlainIx (b:Expr):Prop:=∀ o i,subscripted b false o i = operate [o,i] (getItem o i)
def IxR (X:Cx) (r:R2):Prop:=
 ∀ (value slice:Expr) (pins:List (Addr × Obj)) (s:Shared) (σ:St) (H:Hp) (x y:V) (v u:Value) (Q:VK),Inv X pins σ H s → RelV x v → RelV y u → r x y H Q →
  subscripted slice false v u = operate [v,u] (getItem v u) → wpAny (model X.prog X.w) X.A (subscriptTail value slice v u) (EP X pins σ Q) X.xe s
def MtR (X:Cx) (id:String) (r:V → List V → Hp → VK → Prop):Prop:=
 ∀ (pins:List (Addr × Obj)) (s:Shared) (σ:St) (H:Hp) (x:V) (xs:List V) (v:Value) (us:List Value) (Q:VK),Inv X pins σ H s → RelV x v → Vals xs us → r x xs H Q →
  wpAny (model X.prog X.w) X.A (call (.builtin id) (v :: us)) (EP X pins σ Q) X.xe s
section
variable {X:Cx} {a b:Expr} {ta tb:TE} {pos:Pos}
theorem pe_ix {r:R2} (hr:IxR X r) (ha:PE X a ta) (hb:PE X b tb) (hs:PlainIx b):PE X (.Subscript a b pos) (tOp r ta tb):=by
 intro pins s σ H Q I h
 exact Subscript_ (binT ha hb I h fun v u s2 x y H2 I2 rx ry q=>hr a b pins s2 σ H2 x y v u Q I2 rx ry q (hs _ _))
def rIxL (K:PySem.W.Frag):R2:=fun x y H Q=>∃ p xs i v,x = .ref p ∧ y = .int i ∧ SqL K H p xs ∧ atI xs i = some v ∧ Q v H
def rIxT (K:PySem.W.Frag):R2:=fun x y H Q=>∃ p xs i v,x = .ref p ∧ y = .int i ∧ SqT K H p xs ∧ atI xs i = some v ∧ Q v H
theorem ix_list:IxR X (rIxL X.K):=by
 intro value slice pins s σ H x y v u Q I rx ry h hs
 obtain ⟨p,xs,i,z,rfl,rfl,hq,he,q⟩:=h
 cases rx
 obtain ⟨t,rfl⟩:=ry
 obtain ⟨its,r,pl,hz⟩:=I.list hq
 obtain ⟨j,h1,h2,h3,h4,h5⟩:=atI_get he
 obtain ⟨w,ew,rw'⟩:=r.get h2
 have hl:=r.length
 have hn:=line63
 have fin:EP X pins σ Q w s:=⟨z,H,I,rw',q⟩
 by_cases h0:0 ≤ i
 ·have hj:i.toNat = j:=by
   rw [seqIndex_of h0 h5] at h1
   exact Option.some.inj h1
  exact item_listR pl.isList h0 (by omega) (by rw [hj]; simpa using ew) fin hs
 ·have hj:(i + (its.toArray.size:Int)).toNat = j:=by
   rw [seqIndex_neg (by omega) h4] at h1
   rw [List.size_toArray,← hl]
   exact Option.some.inj h1
  exact subscriptTail_builtinR (x:=w) pl.isList.typeIs slot_list_getitem.lookup
   (wpAny_getItem_list_neg (Q:=fun r s'=>r = w ∧ EP X pins σ Q r s') pl.isList (by omega) (by rw [List.size_toArray] <;> omega) (by omega) (by rw [hj]; simpa using ew) ⟨rfl,fin⟩) hs
theorem ix_tup:IxR X (rIxT X.K):=by
 intro value slice pins s σ H x y v u Q I rx ry h hs
 obtain ⟨p,xs,i,z,rfl,rfl,hq,he,q⟩:=h
 cases rx
 obtain ⟨t,rfl⟩:=ry
 obtain ⟨its,r,pl,hz⟩:=I.tuple hq
 obtain ⟨j,h1,h2,h3,h4,h5⟩:=atI_get he
 obtain ⟨w,ew,rw'⟩:=r.get h2
 have hl:=r.length
 have hn:=line63
 have fin:EP X pins σ Q w s:=⟨z,H,I,rw',q⟩
 exact subscriptTail_builtinR (x:=w) pl.typeIs slot_tuple_getitem.lookup
  (getItem_tuple (j:=j) (Q:=fun r s'=>r = w ∧ EP X pins σ Q r s') pl (by omega) (by omega) (by rw [List.size_toArray,← hl]; exact h1) (by simpa using ew) ⟨rfl,fin⟩) hs
theorem mapSeq_set (its:List Value) (n j:Nat) (u:Value):Obj.mapSeq (·.setIfInBounds j u) { cls:=.type "list",data:=.seq its.toArray n } = { cls:=.type "list",data:=.seq (its.set j u).toArray n }:=by
 simp [Obj.mapSeq]
theorem Inv.lst {pins:List (Addr × Obj)} {σ:St} {H:Hp} {s:Shared} {p:Addr} {xs:List V} (I:Inv X pins σ H s) (h:H p = some (.lst xs)):
  ∃ (its:List Value) (n:Nat),Vals xs its ∧ s.heap.get? p = some { cls:=.type "list",data:=.seq its.toArray n } ∧ xs.length ≤ sizeLine:=by
 obtain ⟨z,its,n,r,e⟩:=I.hok p _ h
 exact ⟨its,n,r,e,z⟩
theorem Inv.lstUpd {pins:List (Addr × Obj)} {σ:St} {H:Hp} {s:Shared} {p:Addr} {xs ys:List V} {its its':List Value} {n n':Nat} {f:Obj → Obj} (I:Inv X pins σ H s) (h:H p = some (.lst xs))
  (ho:s.heap.get? p = some { cls:=.type "list",data:=.seq its.toArray n }) (hf:f { cls:=.type "list",data:=.seq its.toArray n } = { cls:=.type "list",data:=.seq its'.toArray n' }) (r:Vals ys its') (hz:ys.length ≤ sizeLine) (t:Nat):
  Inv X pins σ (upd H p (.lst ys)) { s with heap:=s.heap.update p f,toks:=t }:=by
 have e:(s.heap.update p f).get? p = some { cls:=.type "list",data:=.seq its'.toArray n' }:=by
  rw [Heap.get?_update_self f ho (by rw [hf] <;> rfl),hf]
 refine I.write (x:=p) (e:=p) (by rw [h]; trivial) (.inl rfl) (fun b u hb q=>(Heap.get?_update_other _ _ (Ne.symm hb)).trans q) ⟨_,e⟩ ?_
 exact ⟨hz,its',n',r,e⟩
def rSetL:V → V → V → Hp → (Hp → Prop) → Prop:=fun o i v H Q=>∃ p xs k j,o = .ref p ∧ i = .int k ∧ H p = some (.lst xs) ∧ ixN xs.length k = some j ∧ Q (upd H p (.lst (xs.set j v)))
theorem set_list:PSet X rSetL:=by
 intro pins s σ H o i v ov iv u Q I ro ri rv h
 obtain ⟨p,xs,k,j,rfl,rfl,hp,hj,q⟩:=h
 cases ro
 obtain ⟨t,rfl⟩:=ri
 obtain ⟨its,n,r,ho,hz⟩:=I.lst hp
 obtain ⟨h1,h2,h3,h4⟩:=ixN_seq hj
 have hl:=r.length
 have hn:=line63
 have I':Inv X pins σ (upd H p (.lst (xs.set j v))) { s with heap:=s.heap.update p (Obj.mapSeq (·.setIfInBounds j u)) }:=
  I.lstUpd hp ho (mapSeq_set its n j u) (r.set rv j) (by rw [List.length_set]; exact hz) s.toks
 by_cases h0:0 ≤ k
 ·have hk:k.toNat = j:=by
   rw [seqIndex_of h0 h4] at h1
   exact Option.some.inj h1
  exact PySem.W.ki_setAt ho h0 (by omega) (by rw [List.size_toArray,← hl]; exact h4) (by rw [hk]; exact ⟨_,I',q⟩)
 ·have hk:(k + (its.toArray.size:Int)).toNat = j:=by
   rw [seqIndex_neg (by omega) h3] at h1
   rw [List.size_toArray,← hl]
   exact Option.some.inj h1
  exact PySem.W.ki_setBack ho (by omega) (by rw [List.size_toArray,← hl]; exact h3) (by omega) (by rw [hk]; exact ⟨_,I',q⟩)
theorem slice_bounds (lo hi:Option Int) (n:Nat):(sliceBounds lo hi none n).1 = ((HT.sIx n 0 lo:Nat):Int) ∧ (sliceBounds lo hi none n).2.1 = ((HT.sIx n n hi:Nat):Int) ∧ (sliceBounds lo hi none n).2.2 = 1:=by
 refine ⟨?_,?_,rfl⟩
 ·cases lo with
  | none=>simp [sliceBounds,HT.sIx]
  | some i=>
   simp only [sliceBounds,HT.sIx,Option.getD_none,show (1:Int) > 0 by decide,if_true]
   by_cases h:i < 0
   ·simp only [h,if_true] <;> omega
   ·simp only [h,if_false] <;> omega
 ·cases hi with
  | none=>simp [sliceBounds,HT.sIx]
  | some i=>
   simp only [sliceBounds,HT.sIx,Option.getD_none,show (1:Int) > 0 by decide,if_true]
   by_cases h:i < 0
   ·simp only [h,if_true] <;> omega
   ·simp only [h,if_false] <;> omega
theorem slicePick_cut (its:List Value) (lo hi:Option Int):slicePick its.toArray lo hi none = ((its.drop (HT.sIx its.length 0 lo)).take (HT.sIx its.length its.length hi - HT.sIx its.length 0 lo)).toArray:=by
 obtain ⟨h1,h2,h3⟩:=slice_bounds lo hi its.toArray.size
 unfold slicePick
 rw [h1,h2,h3]
 simp only [sliceRange_one,pick_run,List.size_toArray] <;> rfl
def rSlL (K:PySem.W.Frag):V → Option Int → Option Int → Hp → VK → Prop:=fun x lo hi H Q=>∃ a xs,x = .ref a ∧ SqL K H a xs ∧ ∀ p,H p = none → Q (.ref p) (upd H p (.lst (cutV xs lo hi)))
theorem sl_list:SlR X (rSlL X.K):=by
 intro pins s σ H x v vl vu lo hi sl Q I rx hs pl pu h
 obtain ⟨a,xs,rfl,hx,q⟩:=h
 cases rx
 obtain ⟨its,r,ht,hz⟩:=I.list hx
 have hlen:=r.length
 refine ⟨"list",_,slot_list_getitem.lookup,ht.isList.typeIs,?_⟩
 refine wpAny_getItem_list_slice ht.isList hs pl pu .none (by simp) ?_ (by rw [List.size_toArray] <;> omega)
 rw [slicePick_cut,← hlen]
 refine ⟨.ref s.heap.objs.size,_,I.laid (t':=s.toks) (o:=.lst (cutV xs lo hi)) (fun b ob q=>Heap.get?_push_of_some _ q) (Nat.le_refl _) ?_,rfl,q _ (I.hok.fresh (Nat.le_refl _))⟩
 exact ⟨Nat.le_trans (cutV_length xs lo hi) hz,_,0,(r.drop (HT.sIx xs.length 0 lo)).take (HT.sIx xs.length xs.length hi - HT.sIx xs.length 0 lo),Heap.get?_push_size _ rfl⟩
def flatV:V → Bool
 | .non=>true
 | .bl _=>true
 | .int _=>true
 | .str _=>true
 | _=>false
def eqV:V → V → Bool
 | .non,.non=>true
 | .bl a,.bl b=>a == b
 | .bl a,.int b=>(if a then 1 else 0) == b
 | .int a,.bl b=>a == (if b then 1 else 0)
 | .int a,.int b=>a == b
 | .str a,.str b=>a == b
 | _,_=>false
theorem eqAt_V {A:Around} {s:Shared} {y x:V} {u v:Value} (ry:RelV y u) (rx:RelV x v) (fy:flatV y = true) (fx:flatV x = true):SeqAt.EqAt A s u v (eqV y x):=by
 cases y with
 | non=>
  cases ry
  cases x with
  | non=>cases rx; exact SeqAt.EqAt.same _
  | bl b=>cases rx; exact SeqAt.EqAt.none_bool b
  | int b=>obtain ⟨t,rfl⟩:=rx; exact SeqAt.EqAt.none_int b t
  | str b=>obtain ⟨t,rfl⟩:=rx; exact SeqAt.EqAt.none_str b t
  | _=>exact absurd (show false = true from fx) Bool.false_ne_true
 | bl a=>
  cases ry
  cases x with
  | non=>cases rx; exact SeqAt.EqAt.bool_none a
  | bl b=>cases rx; exact SeqAt.EqAt.bool_bool a b
  | int b=>obtain ⟨t,rfl⟩:=rx; exact SeqAt.EqAt.bool_int a b t
  | str b=>obtain ⟨t,rfl⟩:=rx; exact SeqAt.EqAt.bool_str a b t
  | _=>exact absurd (show false = true from fx) Bool.false_ne_true
 | int a=>
  obtain ⟨t',rfl⟩:=ry
  cases x with
  | non=>cases rx; exact SeqAt.EqAt.int_none a t'
  | bl b=>cases rx; exact SeqAt.EqAt.int_bool a t' b
  | int b=>obtain ⟨t,rfl⟩:=rx; exact SeqAt.EqAt.int_int a t' b t
  | str b=>obtain ⟨t,rfl⟩:=rx; exact SeqAt.EqAt.int_str a t' b t
  | _=>exact absurd (show false = true from fx) Bool.false_ne_true
 | str a=>
  obtain ⟨t',rfl⟩:=ry
  cases x with
  | non=>cases rx; exact SeqAt.EqAt.str_none a t'
  | bl b=>cases rx; exact SeqAt.EqAt.str_bool a t' b
  | int b=>obtain ⟨t,rfl⟩:=rx; exact SeqAt.EqAt.str_int a t' b t
  | str b=>obtain ⟨t,rfl⟩:=rx; exact SeqAt.EqAt.str_str a t' b t
  | _=>exact absurd (show false = true from fx) Bool.false_ne_true
 | _=>exact absurd (show false = true from fy) Bool.false_ne_true
def eqU (x:V) (u:Value):Bool:=match u with
 | .none=>eqV .non x
 | .bool b=>eqV (.bl b) x
 | .int i _=>eqV (.int i) x
 | .str z _=>eqV (.str z) x
 | _=>false
theorem eqU_of {x y:V} {u:Value} (r:RelV y u) (f:flatV y = true):eqU x u = eqV y x:=by
 cases y with
 | non=>cases r; rfl
 | bl b=>cases r; rfl
 | int i=>obtain ⟨t,rfl⟩:=r; rfl
 | str z=>obtain ⟨t,rfl⟩:=r; rfl
 | _=>exact absurd (show false = true from f) Bool.false_ne_true
theorem any_eqU {x:V}:∀ {xs:List V} {us:List Value},Vals xs us → xs.all flatV = true → us.any (eqU x) = xs.any fun y=>eqV y x
 | _,_,.nil,_=>rfl
 | y :: xs,u :: us,.cons r t,f=>by
  rw [List.all_cons,Bool.and_eq_true] at f
  rw [List.any_cons,List.any_cons,eqU_of r f.1,any_eqU t f.2]
theorem mem_eqAt {A:Around} {s:Shared} {x:V} {v:Value} (rx:RelV x v) (fx:flatV x = true):∀ {xs:List V} {us:List Value},Vals xs us → xs.all flatV = true → ∀ u ∈ us,SeqAt.EqAt A s u v (eqU x u)
 | _,_,.nil,_=>fun u hu=>by cases hu
 | y :: xs,u :: us,.cons r t,f=>fun u' hu=>by
  rw [List.all_cons,Bool.and_eq_true] at f
  rcases List.mem_cons.mp hu with rfl | hu
  ·rw [eqU_of r f.1]; exact eqAt_V r rx f.1 fx
  ·exact mem_eqAt rx fx t f.2 u' hu
def inV (x:V) (xs:List V):Bool:=xs.any fun y=>eqV y x
def rIn (K:PySem.W.Frag) (neg:Bool):R2:=fun x y H Q=>∃ p xs,y = .ref p ∧ (SqL K H p xs ∨ SqT K H p xs) ∧ flatV x = true ∧ xs.all flatV = true ∧ Q (.bl (if neg then !inV x xs else inV x xs)) H
theorem op_in_seq:OpR X (compareOp .In) (rIn X.K false):=by
 intro pins s σ H x y v u Q I rx ry h
 obtain ⟨p,xs,rfl,hq,fx,fs,q⟩:=h
 cases ry
 rcases hq with hq | hq
 ·obtain ⟨its,r,pl,hz⟩:=I.list hq
  refine SeqAt.in_listAt (eqU x) pl.isList (fun w hw=>mem_eqAt rx fx r fs w (by simpa using hw)) ⟨.bl _,H,I,rfl,?_⟩
  rw [show its.toArray.any (eqU x) = its.any (eqU x) by simp,any_eqU r fs]
  exact q
 ·obtain ⟨its,r,pl,hz⟩:=I.tuple hq
  refine SeqAt.in_tupleAt (eqU x) pl (fun w hw=>mem_eqAt rx fx r fs w (by simpa using hw)) ⟨.bl _,H,I,rfl,?_⟩
  rw [show its.toArray.any (eqU x) = its.any (eqU x) by simp,any_eqU r fs]
  exact q
theorem op_notIn_seq:OpR X (compareOp .NotIn) (rIn X.K true):=by
 intro pins s σ H x y v u Q I rx ry h
 obtain ⟨p,xs,rfl,hq,fx,fs,q⟩:=h
 cases ry
 rcases hq with hq | hq
 ·obtain ⟨its,r,pl,hz⟩:=I.list hq
  refine SeqAt.notIn_listAt (eqU x) pl.isList (fun w hw=>mem_eqAt rx fx r fs w (by simpa using hw)) ⟨.bl _,H,I,rfl,?_⟩
  rw [show its.toArray.any (eqU x) = its.any (eqU x) by simp,any_eqU r fs]
  exact q
 ·obtain ⟨its,r,pl,hz⟩:=I.tuple hq
  refine SeqAt.notIn_tupleAt (eqU x) pl (fun w hw=>mem_eqAt rx fx r fs w (by simpa using hw)) ⟨.bl _,H,I,rfl,?_⟩
  rw [show its.toArray.any (eqU x) = its.any (eqU x) by simp,any_eqU r fs]
  exact q
theorem call_len_seq:CallR X (.builtin "len") (fun xs H Q=>∃ p ys,xs = [.ref p] ∧ (SqL X.K H p ys ∨ SqT X.K H p ys) ∧ Q (.int ys.length) H):=by
 intro pins s σ H xs us Q I r h
 obtain ⟨p,ys,rfl,hq,q⟩:=h
 obtain ⟨u,rfl,rx⟩:=vals1 r
 cases rx
 have hn:=line63
 rcases hq with hq | hq
 ·obtain ⟨its,r',pl,hz⟩:=I.list hq
  have hlen:=r'.length
  exact Calls.call_len_list pl.isList (by simp only [List.size_toArray] <;> omega) ⟨.int ys.length,H,I.tok _,⟨s.toks + 1,by rw [List.size_toArray,hlen]⟩,q⟩
 ·obtain ⟨its,r',pl,hz⟩:=I.tuple hq
  have hlen:=r'.length
  exact len_tuple pl (by simp only [List.size_toArray] <;> omega) ⟨.int ys.length,H,I.tok _,⟨s.toks + 1,by rw [List.size_toArray,hlen]⟩,q⟩
theorem call_list_of:CallR X (.type "list") (fun xs H Q=>∃ p ys,xs = [.ref p] ∧ (SqL X.K H p ys ∨ SqT X.K H p ys) ∧ ∀ l,H l = none → Q (.ref l) (upd H l (.lst ys))):=by
 intro pins s σ H xs us Q I r h
 obtain ⟨p,ys,rfl,hq,q⟩:=h
 obtain ⟨u,rfl,rx⟩:=vals1 r
 cases rx
 have fin:∀ (its:List Value),Vals ys its → ys.length ≤ sizeLine → ∀ (h':Heap) (c':Nat),(∀ b o',s.heap.get? b = some o' → h'.get? b = some o') →
   h'.get? s.heap.objs.size = some { cls:=.type "list",dict:=none,data:=.seq its.toArray c',slots:=#[] } → EP X pins σ Q (.ref s.heap.objs.size) { s with heap:=h' }:=fun its r' hz h' c' kp e=>
  ⟨.ref s.heap.objs.size,_,I.laid (t':=s.toks) kp (Nat.le_refl _) (show ObjOk X.prog X.w _ h' _ (.lst ys) from ⟨hz,its,c',r',e⟩),rfl,q _ (I.hok.fresh (Nat.le_refl _))⟩
 rcases hq with hq | hq
 ·obtain ⟨its,r',pl,hz⟩:=I.list hq
  have hlen:=r'.length
  obtain ⟨o,ho,hc,n,hd⟩:=pl.isList
  exact call_list_seq p (.inl rfl) ho hc hd (fun h' c' kp e=>fin its r' hz h' c' kp e) (by simp only [List.size_toArray] <;> omega)
 ·obtain ⟨its,r',pl,hz⟩:=I.tuple hq
  have hlen:=r'.length
  obtain ⟨o,ho,hc,n,hd⟩:=pl
  exact call_list_seq p (.inr rfl) ho hc hd (fun h' c' kp e=>fin its r' hz h' c' kp e) (by simp only [List.size_toArray] <;> omega)
theorem call_tuple_of:CallR X (.type "tuple") (fun xs H Q=>∃ p ys,xs = [.ref p] ∧ ((SqL X.K H p ys ∧ ∀ l,H l = none → Q (.ref l) (upd H l (.tup ys))) ∨ (SqT X.K H p ys ∧ Q (.ref p) H))):=by
 intro pins s σ H xs us Q I r h
 obtain ⟨p,ys,rfl,h⟩:=h
 obtain ⟨u,rfl,rx⟩:=vals1 r
 cases rx
 rcases h with ⟨hq,q⟩ | ⟨hq,q⟩
 ·obtain ⟨its,r',pl,hz⟩:=I.list hq
  have hlen:=r'.length
  refine call_tuple_list pl.isList (fun h' kp=>?_) (by simp only [List.size_toArray] <;> omega)
  have I1:Inv X pins σ H { s with heap:=h' }:=I.kept (t':=s.toks) kp
  have I2:Inv X pins σ (upd H h'.objs.size (.tup ys)) { s with heap:=h'.push { cls:=.type "tuple",data:=.seq its.toArray } }:=
   I1.laid (t':=s.toks) (fun b o e=>Heap.get?_push_of_some _ e) (Nat.le_refl _) (show ObjOk X.prog X.w _ _ _ (.tup ys) from ⟨hz,its,r',IsTup.new _ _⟩)
  exact ⟨.ref h'.objs.size,_,I2,rfl,q _ (I1.hok.fresh (Nat.le_refl _))⟩
 ·obtain ⟨its,r',pl,hz⟩:=I.tuple hq
  exact call_tuple_same pl ⟨.ref p,H,I,rfl,q⟩
def tyV (K:PySem.W.Frag) (T:String) (x:V) (H:Hp):Prop:=match x with
 | .str _=>T = "str"
 | .int _=>T = "int"
 | .ref p=>(T = "list" ∧ ∃ xs,SqL K H p xs) ∨ (T = "tuple" ∧ ∃ o,K.lookup p = some o ∧ o.cls = .type "tuple" ∧ o.dict = none) ∨
   (T = "dict" ∧ ((∃ kvs,H p = some (.dK kvs)) ∨ ∃ kvs,H p = some (.dT kvs))) ∨ (T = "set" ∧ ∃ S n,H p = some (.set S n))
 | _=>False
theorem tyV_is {pins:List (Addr × Obj)} {σ:St} {H:Hp} {s:Shared} {T:String} {x:V} {v:Value} (I:Inv X pins σ H s) (r:RelV x v) (ty:tyV X.K T x H):
  s.TypeIs v T ∧ ∀ a,v = .ref a → ∃ ob,s.heap.get? a = some ob ∧ ob.dict = none:=by
 cases x with
 | str z=>
  obtain ⟨t,rfl⟩:=r
  cases (show T = "str" from ty)
  exact ⟨typeIs_str s z t,fun _ e=>nomatch e⟩
 | int i=>
  obtain ⟨t,rfl⟩:=r
  cases (show T = "int" from ty)
  exact ⟨typeIs_int s i t,fun _ e=>nomatch e⟩
 | ref p=>
  cases r
  rcases ty with ⟨rfl,xs,hq⟩ | ⟨rfl,o,hk,hc,hd⟩ | ⟨rfl,hk⟩ | ⟨rfl,S,n,hk⟩
  ·obtain ⟨its,_,pl,_⟩:=I.list hq
   refine ⟨pl.isList.typeIs,fun a e=>?_⟩
   cases e
   obtain ⟨o,n,e,c,hd,_⟩:=pl
   exact ⟨o,e,hd⟩
  ·refine ⟨⟨o,I.kIn p o hk,hc⟩,fun a e=>?_⟩
   cases e
   exact ⟨o,I.kIn _ o hk,hd⟩
  ·have z:∃ o,s.heap.get? p = some o ∧ o.ExactDict:=by
    rcases hk with ⟨kvs,hk⟩ | ⟨kvs,hk⟩
    ·obtain ⟨_,_,_,_,o,_,_,e,ex,_⟩:=I.hok p _ hk
     exact ⟨o,e,ex⟩
    ·obtain ⟨_,_,_,_,o,_,_,e,ex,_⟩:=I.hok p _ hk
     exact ⟨o,e,ex⟩
   obtain ⟨o,e,ex⟩:=z
   refine ⟨⟨o,e,ex.1⟩,fun a e2=>?_⟩
   cases e2
   exact ⟨o,e,ex.2.1⟩
  ·obtain ⟨o,_,_,_,e,ex,_⟩:=I.hok p _ hk
   refine ⟨⟨o,e,ex.1⟩,fun a e2=>?_⟩
   cases e2
   exact ⟨o,e,ex.2.1⟩
 | _=>exact False.elim ty
def tBM0 (K:PySem.W.Frag) (T:String) (r:V → List V → Hp → VK → Prop) (to:TE):TE:=fun σ H Q=>to σ H fun x H1=>tyV K T x H1 ∧ r x [] H1 Q
def tBM (K:PySem.W.Frag) (T:String) (r:V → List V → Hp → VK → Prop) (to:TE) (t:TA):TE:=fun σ H Q=>to σ H fun x H1=>tyV K T x H1 ∧ t σ H1 fun xs H2=>r x xs H2 Q
variable {o e:Expr} {es:List Expr} {to:TE} {t:TA} {name:Str} {apos cpos:Pos} {T id:String} {r:V → List V → Hp → VK → Prop}
theorem pe_bm (pa:PlainAttrs T) (slot:Slot T name id) (hty:typeOf (.builtin id) = pure (.type "method_descriptor")) (hm:MtR X id r) (ho:PE X o to) (ha:PA X (e :: es) t)
  (hbase:attributeBase o name X.env (eval o X.env) = eval o X.env:=by rfl)
  (hfew:((backTo cpos (starEach (e :: es) X.env)).all (fun x=>!x.1) && (backToKw cpos (keywordEach [] X.env)).all (fun x=>x.1.isSome)
   && decide ((e :: es).length + ([]:List Keyword).length + (if ([]:List Keyword).isEmpty then 0 else 1) < 30)) = true:=by rfl)
  (hline:(apos.endLine == cpos.line) = true:=by rfl) (hs:starEach (e :: es) X.env = (false,eval e X.env) :: starEach es X.env:=by rfl) (hplain:(backTo cpos (starEach es X.env)).any (·.1) = false:=by rfl):
  PE X (.Call (.Attribute o name apos) (e :: es) [] cpos) (tBM X.K T r to t):=by
 intro pins s σ H Q I h
 refine wpAny_Call_method_late hbase hfew hline rfl (thn (ho pins s σ H _ I h) fun v s1 ⟨x,H1,I1,r1,ty,q1⟩=>?_)
 obtain ⟨h1,h2⟩:=tyV_is I1 r1 ty
 refine ⟨T,id,pa,slot,hty,h1,h2,?_⟩
 have hA:=ha cpos pins s1 σ H1 _ I1 q1
 rw [hs] at hA ⊢
 refine Calls.callWith_builtin (by show (false || (backTo cpos (starEach es X.env)).any (·.1)) = false; rw [hplain] <;> rfl) (Calls.evalArgs_plain ?_)
 exact thn hA fun us s2 ⟨vs,H2,I2,r2,q2⟩=>hm pins s2 σ H2 x vs v us Q I2 r1 r2 q2
end
end L2
namespace L2
open PySem PySem.Spec PyProof.Rows
def MtM (X:Cx) (id:String) (r:V → List V → Hp → VK → Prop):Prop:=
 ∀ (pins:List (Addr × Obj)) (s:Shared) (σ:St) (H:Hp) (x:V) (xs:List V) (v:Value) (us:List Value) (Q:VK),Inv X pins σ H s → RelV x v → Vals xs us → r x xs H Q →
  wpAny (model X.prog X.w) X.A (call (.builtin id) (v :: us)) (EP X pins σ Q) X.xe s
theorem Vals.one:∀ {x:V} {us:List Value},Vals [x] us → ∃ u,us = [u] ∧ RelV x u
 | _,_,.cons r .nil=>⟨_,rfl,r⟩
section
variable {X:Cx} {pins:List (Addr × Obj)} {σ:St} {H:Hp} {s:Shared} {l b:Addr} {xs ys zs:List V}
theorem Inv.lset {its its':List Value} {n:Nat} {f:Array Value → Array Value} {t':Nat} (I:Inv X pins σ H s) (hH:H l = some (.lst xs))
  (e:s.heap.get? l = some { cls:=.type "list",data:=.seq its.toArray n }) (hf:f its.toArray = its'.toArray) (hv:Vals ys its') (hz:ys.length ≤ sizeLine):
  Inv X pins σ (upd H l (.lst ys)) { s with heap:=s.heap.update l (Obj.mapSeq f),toks:=t' }:=by
 have q:=PySem.IsL.update e f
 rw [hf] at q
 refine I.write (x:=l) (e:=l) (by rw [hH]; exact trivial) (.inl rfl) (fun b' u hb hu=>(Heap.get?_update_other s.heap (Obj.mapSeq f) (Ne.symm hb)).trans hu) ⟨_,q⟩ ?_
 exact ⟨hz,its',_,hv,q⟩
theorem Inv.lnew {its:List Value} {t':Nat} (I:Inv X pins σ H s) (hv:Vals ys its) (hz:ys.length ≤ sizeLine):
  Inv X pins σ (upd H s.heap.objs.size (.lst ys)) { s with heap:=s.heap.push { cls:=.type "list",data:=.seq its.toArray },toks:=t' }:=
 I.laid (fun _ _ q=>Heap.get?_push_of_some _ q) (Nat.le_refl _) ⟨hz,its,0,hv,Heap.get?_push_size _ rfl⟩
theorem Inv.fresh (I:Inv X pins σ H s):H s.heap.objs.size = none:=I.hok.fresh (Nat.le_refl _)
theorem Inv.lstM (I:Inv X pins σ H s) (hH:H l = some (.lst xs)):xs.length ≤ sizeLine ∧ ∃ (its:List Value) (n:Nat),Vals xs its ∧ xs.length = its.length ∧ s.heap.get? l = some { cls:=.type "list",data:=.seq its.toArray n }:=by
 obtain ⟨z,its,n,r,e⟩:=I.hok l _ hH
 exact ⟨z,its,n,r,r.length,e⟩
theorem notLongL {n:Nat} (h:n ≤ sizeLine):Builtin.List.listTooLong n = false:=by
 unfold Builtin.List.listTooLong
 exact decide_eq_false (by omega)
end
section
variable {X:Cx}
def rAppend:V → List V → Hp → VK → Prop:=fun x vs H Q=>∃ l xs y,x = .ref l ∧ vs = [y] ∧ H l = some (.lst xs) ∧ xs.length < sizeLine ∧ Q .non (upd H l (.lst (xs ++ [y])))
theorem mt_append:MtM X "list.append" rAppend:=by
 intro pins s σ H x vs v us Q I rx rv h
 obtain ⟨l,xs,y,rfl,rfl,hH,hz,q⟩:=h
 cases rx
 obtain ⟨u,rfl,ru⟩:=rv.one
 obtain ⟨z,its,n,r,hl,e⟩:=I.lstM hH
 refine call_meets F.slot_list_append ⟨_,e,rfl⟩ F.entry_list_append (F.args_list_append_2 _ _) (PySem.list_append l its.toArray n u (by rw [List.size_toArray]; omega)) ⟨e,?_⟩
 refine ⟨.non,_,I.lset (its':=its ++ [u]) hH e (by simp) (r.append (.cons ru .nil)) ?_,rfl,q⟩
 rw [List.length_append,List.length_singleton]
 omega
def rExtend:V → List V → Hp → VK → Prop:=fun x vs H Q=>∃ l b xs zs,x = .ref l ∧ vs = [.ref b] ∧ H l = some (.lst xs) ∧ H b = some (.lst zs) ∧ xs.length + zs.length ≤ sizeLine ∧ Q .non (upd H l (.lst (xs ++ zs)))
theorem mt_extend:MtM X "list.extend" rExtend:=by
 intro pins s σ H x vs v us Q I rx rv h
 obtain ⟨l,b,xs,zs,rfl,rfl,hH,hB,hz,q⟩:=h
 cases rx
 obtain ⟨u,rfl,ru⟩:=rv.one
 cases ru
 obtain ⟨z,its,n,r,hl,e⟩:=I.lstM hH
 obtain ⟨z2,its2,n2,r2,hl2,e2⟩:=I.lstM hB
 have hsz:its.toArray.size + its2.toArray.size ≤ sizeLine:=by rw [List.size_toArray,List.size_toArray]; omega
 have hlong:¬ (!its.toArray.isEmpty && Builtin.List.listTooLong (its.toArray.size + its2.toArray.size)) = true:=by
  rw [notLongL hsz,Bool.and_false]
  exact Bool.false_ne_true
 refine call_meets F.slot_list_extend ⟨_,e,rfl⟩ F.entry_list_extend (F.args_list_extend_2 _ _)
  (AutoSeq1.list_extend_list_list_0 l its.toArray n b its2.toArray n2 hlong (by rw [List.size_toArray]; omega) (by omega)) ⟨e,e2,?_⟩
 refine ⟨.non,_,I.lset (its':=its ++ its2) hH e (by simp) (r.append r2) ?_,rfl,q⟩
 rw [List.length_append]
 omega
def rCat:R2:=fun x y H Q=>∃ l b xs zs,x = .ref l ∧ y = .ref b ∧ H l = some (.lst xs) ∧ H b = some (.lst zs) ∧ xs.length + zs.length ≤ sizeLine ∧ ∀ p,H p = none → Q (.ref p) (upd H p (.lst (xs ++ zs)))
theorem op_cat:OpR X (binaryOp .Add) rCat:=by
 intro pins s σ H x y v u Q I rx ry h
 obtain ⟨l,b,xs,zs,rfl,rfl,hH,hB,hz,q⟩:=h
 cases rx
 cases ry
 obtain ⟨z,its,n,r,hl,e⟩:=I.lstM hH
 obtain ⟨z2,its2,n2,r2,hl2,e2⟩:=I.lstM hB
 refine PySem.P.add_list e e2 ?_ (by rw [List.size_toArray,List.size_toArray]; omega)
 have ea:its.toArray ++ its2.toArray = (its ++ its2).toArray:=by simp
 rw [ea]
 exact ⟨.ref _,_,I.lnew (t':=s.toks) (r.append r2) (by rw [List.length_append]; omega),rfl,q _ I.fresh⟩
end
section
variable {prog:Program} {w:World} {A:Around} {E:Value → Shared → Prop} {s:Shared}
set_option maxRecDepth 100000 in
end
section
variable {X:Cx}
end
end L2
namespace L2
open PySem PySem.Spec PyProof.Rows
theorem Vals.ints:∀ {ns:List Int} {us:List Value},Vals (ns.map V.int) us → IntsAre us ns
 | [],us,h=>by
  rw [List.map_nil] at h
  cases h
  exact IntsAre.nil
 | n :: ns,us,h=>by
  rw [List.map_cons] at h
  cases h with
  | cons r t=>
   obtain ⟨k,rfl⟩:=r
   exact IntsAre.cons n k (Vals.ints t)
theorem vals_of_ints:∀ {us:List Value} {ns:List Int},IntsAre us ns → Vals (ns.map V.int) us
 | _,_,.nil=>by rw [List.map_nil]; exact Paired.nil
 | _,_,.cons n t h=>by rw [List.map_cons]; exact Paired.cons (show RelV (V.int n) (Value.int n t) from ⟨t,rfl⟩) (vals_of_ints h)
theorem Vals.bls:∀ {bs:List Bool} {us:List Value},Vals (bs.map V.bl) us → us = bs.map Value.bool
 | [],us,h=>by
  rw [List.map_nil] at h
  cases h
  rfl
 | b :: bs,us,h=>by
  rw [List.map_cons] at h
  cases h with
  | cons r t=>
   cases r
   rw [Vals.bls t,List.map_cons]
theorem Vals.ref1 {a:Addr} {us:List Value} (r:Vals [V.ref a] us):us = [Value.ref a]:=by
 cases r with
 | cons r t=>
  cases t
  cases r
  rfl
section
variable {prog:Program} {w:World} {A:Around} {E:Value → Shared → Prop} {s:Shared} {l:Addr} {its:List Value} {ns:List Int} {Q:Value → Shared → Prop}
theorem max_raw (hh:A.handled = none) (hl:s.heap.IsList l its.toArray) (hi:IntsAre its ns) (hne:0 < ns.length)
  (h:∀ h' tk M t',(∀ b o,s.heap.get? b = some o → h'.get? b = some o) → M ∈ ns → (∀ a,a ∈ ns → a ≤ M) → Q (.int M t') { s with heap:=h',toks:=tk }):wpAny (model prog w) A (call (.builtin "max") [.ref l]) Q E s:=by
 obtain ⟨xs,e⟩:=hi.allInts.items
 have hn:numsOf (intItems xs).toList = ns:=by rw [← e]; exact hi.numsOf
 rw [nums_intItems] at hn
 subst hn
 rw [e] at hl
 have hsz:0 < xs.size:=by simpa using hne
 refine PySem.max_intList hh hl hsz fun v h' tk hv hk=>?_
 obtain ⟨t,rfl⟩:=intItems_at hv
 obtain ⟨h1,h2⟩:=argBest_gt (numAt xs) (xs.size - 1)
 refine h h' tk _ t hk ?_ fun a ha=>?_
 ·rw [numAt_eq]; exact PySem.getD_mem (by rw [List.length_map,Array.length_toList]; omega)
 ·obtain ⟨j,hj,rfl⟩:=mem_getD ha
  rw [List.length_map,Array.length_toList] at hj
  rw [← numAt_eq]; exact h2 j (by omega)
theorem min_raw (hh:A.handled = none) (hl:s.heap.IsList l its.toArray) (hi:IntsAre its ns) (hne:0 < ns.length)
  (h:∀ h' tk M t',(∀ b o,s.heap.get? b = some o → h'.get? b = some o) → M ∈ ns → (∀ a,a ∈ ns → M ≤ a) → Q (.int M t') { s with heap:=h',toks:=tk }):wpAny (model prog w) A (call (.builtin "min") [.ref l]) Q E s:=by
 obtain ⟨xs,e⟩:=hi.allInts.items
 have hn:numsOf (intItems xs).toList = ns:=by rw [← e]; exact hi.numsOf
 rw [nums_intItems] at hn
 subst hn
 rw [e] at hl
 have hsz:0 < xs.size:=by simpa using hne
 refine PySem.min_intList hh hl hsz fun v h' tk hv hk=>?_
 obtain ⟨t,rfl⟩:=intItems_at hv
 obtain ⟨h1,h2⟩:=argBest_lt (numAt xs) (xs.size - 1)
 refine h h' tk _ t hk ?_ fun a ha=>?_
 ·rw [numAt_eq]; exact PySem.getD_mem (by rw [List.length_map,Array.length_toList]; omega)
 ·obtain ⟨j,hj,rfl⟩:=mem_getD ha
  rw [List.length_map,Array.length_toList] at hj
  rw [← numAt_eq]; exact h2 j (by omega)
end
section
variable {X:Cx}
def rMax (K:PySem.W.Frag):List V → Hp → VK → Prop:=fun vs H Q=>∃ (a:Addr) (ns:List Int),vs = [V.ref a] ∧ SqL K H a (ns.map V.int) ∧ 0 < ns.length ∧ ∀ m,m ∈ ns → (∀ y,y ∈ ns → y ≤ m) → Q (.int m) H
def rMin (K:PySem.W.Frag):List V → Hp → VK → Prop:=fun vs H Q=>∃ (a:Addr) (ns:List Int),vs = [V.ref a] ∧ SqL K H a (ns.map V.int) ∧ 0 < ns.length ∧ ∀ m,m ∈ ns → (∀ y,y ∈ ns → m ≤ y) → Q (.int m) H
theorem cr_max (hc:X.calm = true):CallR X (.builtin "max") (rMax X.K):=by
 intro pins s σ H vs us Q I r h
 obtain ⟨a,ns,rfl,hs,hne,q⟩:=h
 obtain ⟨its,rv,hl,_⟩:=I.list hs
 rw [Vals.ref1 r]
 exact max_raw (I.ok.hd hc) hl.isList rv.ints hne fun h' tk m t' hk h1 h2=>⟨.int _,H,I.kept hk,⟨_,rfl⟩,q m h1 h2⟩
theorem cr_min (hc:X.calm = true):CallR X (.builtin "min") (rMin X.K):=by
 intro pins s σ H vs us Q I r h
 obtain ⟨a,ns,rfl,hs,hne,q⟩:=h
 obtain ⟨its,rv,hl,_⟩:=I.list hs
 rw [Vals.ref1 r]
 exact min_raw (I.ok.hd hc) hl.isList rv.ints hne fun h' tk m t' hk h1 h2=>⟨.int _,H,I.kept hk,⟨_,rfl⟩,q m h1 h2⟩
def rSorted (K:PySem.W.Frag):List V → Hp → VK → Prop:=fun vs H Q=>∃ (a:Addr) (ns:List Int),vs = [V.ref a] ∧ SqL K H a (ns.map V.int) ∧ ns.length < 64 ∧
 ∀ (ns':List Int) (p:Addr),ns'.Perm ns → ns'.Pairwise (· ≤ ·) → H p = none → Q (.ref p) (upd H p (.lst (ns'.map V.int)))
theorem small64 {n:Nat} (h:n < 64):n ≤ sizeLine:=by rw [sizeLine_eq]; omega
theorem cr_sorted:CallR X (.builtin "sorted") (rSorted X.K):=by
 intro pins s σ H vs us Q I r h
 obtain ⟨a,ns,rfl,hs,h64,q⟩:=h
 obtain ⟨its,rv,hl,_⟩:=I.list hs
 rw [Vals.ref1 r]
 have hi:=rv.ints
 refine PyProof.Rows.sorted_ints hl.isList hi (by rw [hi.length]; exact h64) fun out ns' h1 h2 h3=>?_
 obtain ⟨ep,he'⟩:=PyProof.Rows.sortedAll_at s.heap its out
 have hlen:(ns'.map V.int).length ≤ sizeLine:=by rw [List.length_map,h2.length_eq]; exact small64 h64
 exact ⟨.ref _,upd H (s.heap.objs.size + 1) (.lst (ns'.map V.int)),I.laid (t':=s.toks) (fun _ _=>PyProof.Rows.sortedAll_old) (Nat.le_succ _) ⟨hlen,out.toList,ep,vals_of_ints h1,he'⟩,rfl,q ns' _ h2 h3 (I.hok.fresh (Nat.le_succ _))⟩
end
section
variable {X:Cx}
end
section
variable {X:Cx}
end
theorem iter_any {prog:Program} {w:World} {A:Around} {E:Value → Shared → Prop} {s:Shared} {l:Addr} {items:Array Value} {Q:Value → Shared → Prop} (hl:s.heap.IsList l items)
  (h:∀ s₂:Shared,s₂ = { s with heap:=s.heap.push { cls:=.type "list_iterator",data:=.fields #[.ref l,.int 0 0] } } →
   (s₂.heap.IsListIter s.heap.objs.size l 0 ∧ s₂.heap.IsList l items) → l ≠ s.heap.objs.size → Q (.ref s.heap.objs.size) s₂):wpAny (model prog w) A (pyIter (.ref l)) Q E s:=by
 have hlt:l < s.heap.objs.size:=by obtain ⟨_,e,_⟩:=hl; exact Heap.lt_size e
 exact wpAny_pyIter_list hl (h _ rfl ⟨⟨_,Heap.get?_push_size _ rfl,rfl,rfl⟩,hl.push _⟩ (Nat.ne_of_lt hlt))
theorem truth_bools {prog:Program} {w:World} {A:Around} {bs:List Bool} {its:List Value} (e:its = bs.map Value.bool):
  TruthOf prog w A (fun i v=>its.toArray[i]? = some v) (fun i=>bs.getD i false):=fun i v s Q E hv hq=>by
 have hv':its[i]? = some v:=by simpa using hv
 rw [e,List.getElem?_map] at hv'
 obtain ⟨b,hb,rfl⟩:=Option.map_eq_some_iff.mp hv'
 have hg:bs.getD i false = b:=by rw [List.getD_eq_getElem?_getD,hb] <;> rfl
 have hq':Q (bs.getD i false) s:=hq
 rw [hg] at hq'
 exact wpAny_truthy_bool hq'
theorem all_range:∀ bs:List Bool,(List.range bs.length).all (fun i=>bs.getD i false) = bs.all id
 | []=>rfl
 | b :: bs=>by
  rw [List.length_cons,List.range_succ_eq_map,List.all_cons,List.all_map,List.all_cons,← all_range bs]
  all_goals rfl
section
variable {X:Cx}
def rAll (K:PySem.W.Frag):List V → Hp → VK → Prop:=fun vs H Q=>∃ (a:Addr) (bs:List Bool),vs = [V.ref a] ∧ SqL K H a (bs.map V.bl) ∧ Q (.bl (bs.all id)) H
theorem cr_all (hc:X.calm = true):CallR X (.builtin "all") (rAll X.K):=by
 intro pins s σ H vs us Q I r h
 obtain ⟨a,bs,rfl,hs,q⟩:=h
 obtain ⟨its,rv,hl,_⟩:=I.list hs
 rw [Vals.ref1 r]
 have hb:=rv.bls
 refine call_all_walk (iter_any hl.isList fun s₂ e2 st hne=>?_)
 subst e2
 refine ⟨_,_,_,_,_,_,_,rfl,Walks.list (A:=X.A.in1) (I.ok.hd hc) _ a hne its.toArray,st,truth_bools hb,fun h' tk hk=>?_⟩
 refine ⟨.bl _,H,I.kept fun b o eo=>hk b o (fun hmem=>?_) (Heap.get?_push_of_some _ eo),?_,q⟩
 ·rcases List.mem_cons.mp hmem with e1 | hmem
  ·exact absurd (e1 ▸ Heap.lt_size eo) (Nat.lt_irrefl _)
  ·cases hmem
 ·show Value.bool _ = Value.bool _
  rw [← all_range,hb,List.size_toArray,List.length_map]
end
mutual
inductive Dp (K:PySem.W.Frag) (H:Hp):V → PyData → Prop
 | non:Dp K H .non .none
 | bl (b:Bool):Dp K H (.bl b) (.bool b)
 | int (i:Int):Dp K H (.int i) (.int i)
 | str (x:Str):Dp K H (.str x) (.str x)
 | lst {a:Addr} {xs:List V} {ds:List PyData}:SqL K H a xs → DpAll K H xs ds → Dp K H (.ref a) (.list ds)
 | tup {a:Addr} {xs:List V} {ds:List PyData}:SqT K H a xs → DpAll K H xs ds → Dp K H (.ref a) (.tuple ds)
inductive DpAll (K:PySem.W.Frag) (H:Hp):List V → List PyData → Prop
 | nil:DpAll K H [] []
 | cons {v:V} {vs:List V} {d:PyData} {ds:List PyData}:Dp K H v d → DpAll K H vs ds → DpAll K H (v :: vs) (d :: ds)
end
section
variable {X:Cx} {pins:List (Addr × Obj)} {σ:St} {H:Hp} {s:Shared}
end
section
variable {X:Cx}
end
end L2
namespace L2
open PySem PySem.Spec PyProof.Rows
abbrev CellAt (h:Heap) (c:Addr) (v:Option Value):Prop:=h.IsCell c v
def relS (scope sc:Scope):Scope:=
 { scope with names:=scope.names.map fun (n,k)=>if (k == .free && sc.kind == .function && sc.names.lookup n == some .cell) then (n,.cell) else (n,k) }
def cloFrom (cells:List (Str × Addr)):List (Str × NameKind) → List (Str × Addr) → List (Str × Addr)
 | [],acc=>acc
 | (n,k) :: r,acc=>if k == .free then cloFrom cells r ((n,(cells.lookup n).getD 0) :: acc) else cloFrom cells r acc
theorem closure_loop (env:Env) (f:Str × NameKind → List (Str × Addr) → Sem (ForInStep (List (Str × Addr))))
  (hf:∀ n k c,f (n,k) c = if k == .free then (do let a ← cellOf env n; pure (.yield ((n,a) :: c))) else pure (.yield c)):
  ∀ (names:List (Str × NameKind)) (acc:List (Str × Addr)),(∀ y ∈ names,y.2 = .free → ∃ c,env.cells.lookup y.1 = some c) → forIn names acc f = pure (cloFrom env.cells names acc)
 | [],acc,_=>by rw [List.forIn_nil]; rfl
 | (n,k) :: r,acc,h=>by
  rw [List.forIn_cons,hf]
  have ih:=fun acc=>closure_loop env f hf r acc fun y hy=>h y (List.mem_cons_of_mem _ hy)
  unfold cloFrom
  by_cases hk:(k == NameKind.free) = true
  ·rw [if_pos hk,if_pos hk]
   obtain ⟨c,hc⟩:=h (n,k) List.mem_cons_self (by simpa using hk)
   have e:cellOf env n = pure c:=by unfold cellOf; rw [hc]
   rw [e]
   have e2:(env.cells.lookup n).getD 0 = c:=by rw [hc]; rfl
   rw [e2]
   exact ih _
  ·rw [if_neg hk,if_neg hk]
   exact ih _
theorem closure_ok {scope:Scope} {env:Env} (h:∀ y ∈ scope.names,y.2 = .free → ∃ c,env.cells.lookup y.1 = some c):closureFor scope env = pure (cloFrom env.cells scope.names []):=by
 simp only [closureFor]
 rw [closure_loop env _ (fun n k c=>rfl) scope.names [] h]
 rfl
theorem mem_lookup {α:Type}:∀ {l:List (Str × α)} {n:Str} {c:α},(n,c) ∈ l → ∃ c',l.lookup n = some c'
 | (k,v) :: r,n,c,h=>by
  rw [List.lookup_cons]
  cases hb:n == k with
  | true=>exact ⟨_,rfl⟩
  | false=>
   rcases List.mem_cons.mp h with e | h
   ·cases e; simp at hb
   ·exact mem_lookup h
theorem cloFrom_mem {cells:List (Str × Addr)}:∀ {names:List (Str × NameKind)} {acc:List (Str × Addr)} {n:Str} {c:Addr},(n,c) ∈ cloFrom cells names acc → (n,c) ∈ acc ∨ ((n,.free) ∈ names ∧ c = (cells.lookup n).getD 0)
 | [],_,_,_,h=>.inl h
 | (m,k) :: r,acc,n,c,h=>by
  unfold cloFrom at h
  split at h
  ·rename_i hk
   have hk:k = .free:=by simpa using hk
   rcases cloFrom_mem h with h | ⟨h1,h2⟩
   ·rcases List.mem_cons.mp h with e | h
    ·cases e; exact .inr ⟨hk ▸ List.mem_cons_self,rfl⟩
    ·exact .inl h
   ·exact .inr ⟨List.mem_cons_of_mem _ h1,h2⟩
  ·rcases cloFrom_mem h with h | ⟨h1,h2⟩
   ·exact .inl h
   ·exact .inr ⟨List.mem_cons_of_mem _ h1,h2⟩
theorem cloFrom_acc {cells:List (Str × Addr)}:∀ {names:List (Str × NameKind)} {acc:List (Str × Addr)} {p:Str × Addr},p ∈ acc → p ∈ cloFrom cells names acc
 | [],_,_,h=>h
 | (m,k) :: r,acc,p,h=>by
  unfold cloFrom
  split
  ·exact cloFrom_acc (List.mem_cons_of_mem _ h)
  ·exact cloFrom_acc h
theorem cloFrom_has {cells:List (Str × Addr)}:∀ {names:List (Str × NameKind)} {acc:List (Str × Addr)} {n:Str},(n,.free) ∈ names → (n,(cells.lookup n).getD 0) ∈ cloFrom cells names acc
 | (m,k) :: r,acc,n,h=>by
  unfold cloFrom
  rcases List.mem_cons.mp h with e | h
  ·cases e
   exact cloFrom_acc List.mem_cons_self
  ·split
   ·exact cloFrom_has h
   ·exact cloFrom_has h
theorem cells_mem:∀ {names:List (Str × NameKind)} {h:Heap} {acc:List (Str × Addr)} {x:Str} {c:Addr},(x,c) ∈ cellsFrom h.objs.size names acc →
  (x,c) ∈ acc ∨ ((x,.cell) ∈ names ∧ h.objs.size ≤ c ∧ CellAt (pushCells h names) c none)
 | [],_,_,_,_,h=>.inl h
 | (n,k) :: r,h,acc,x,c,hm=>by
  unfold cellsFrom at hm
  unfold pushCells
  split at hm
  ·rename_i hk
   rw [if_pos hk]
   have hk:k = .cell:=by simpa using hk
   rw [← Heap.size_push h { cls:=.type "cell",data:=.cell none }] at hm
   rcases cells_mem hm with hm | ⟨h1,h2,h3⟩
   ·rcases List.mem_cons.mp hm with e | hm
    ·cases e
     exact .inr ⟨hk ▸ List.mem_cons_self,Nat.le_refl _,_,pushCells_keeps r _ _ _ (Heap.get?_push_size _ rfl),rfl⟩
    ·exact .inl hm
   ·rw [Heap.size_push] at h2
    exact .inr ⟨List.mem_cons_of_mem _ h1,Nat.le_of_succ_le h2,h3⟩
  ·rename_i hk
   rw [if_neg hk]
   rcases cells_mem hm with hm | ⟨h1,h2,h3⟩
   ·exact .inl hm
   ·exact .inr ⟨List.mem_cons_of_mem _ h1,h2,h3⟩
theorem cells_acc:∀ {names:List (Str × NameKind)} {n:Nat} {acc:List (Str × Addr)} {p:Str × Addr},p ∈ acc → p ∈ cellsFrom n names acc
 | [],_,_,_,h=>h
 | (m,k) :: r,n,acc,p,h=>by
  unfold cellsFrom
  split
  ·exact cells_acc (List.mem_cons_of_mem _ h)
  ·exact cells_acc h
theorem cells_has:∀ {names:List (Str × NameKind)} {n:Nat} {acc:List (Str × Addr)} {x:Str},(x,.cell) ∈ names → ∃ c,(x,c) ∈ cellsFrom n names acc
 | (m,k) :: r,n,acc,x,h=>by
  unfold cellsFrom
  rcases List.mem_cons.mp h with e | h
  ·cases e
   exact ⟨n,cells_acc List.mem_cons_self⟩
  ·split
   ·exact cells_has h
   ·exact cells_has h
theorem cells_inj:∀ {names:List (Str × NameKind)} {h:Heap} {acc:List (Str × Addr)} {x y:Str} {c:Addr},(∀ p ∈ acc,p.2 < h.objs.size) → (∀ x y c,(x,c) ∈ acc → (y,c) ∈ acc → x = y) →
  (x,c) ∈ cellsFrom h.objs.size names acc → (y,c) ∈ cellsFrom h.objs.size names acc → x = y
 | [],_,_,_,_,_,_,hi,h1,h2=>hi _ _ _ h1 h2
 | (n,k) :: r,h,acc,x,y,c,hl,hi,h1,h2=>by
  unfold cellsFrom at h1 h2
  split at h1
  ·rename_i hk
   rw [if_pos hk] at h2
   rw [← Heap.size_push h { cls:=.type "cell",data:=.cell none }] at h1 h2
   refine cells_inj (h:=h.push _) (fun p hp=>?_) (fun x y c a b=>?_) h1 h2
   ·rw [Heap.size_push]
    rcases List.mem_cons.mp hp with rfl | hp
    ·exact Nat.lt_succ_self _
    ·exact Nat.lt_succ_of_lt (hl p hp)
   ·rcases List.mem_cons.mp a with e | a <;> rcases List.mem_cons.mp b with e' | b
    ·cases e; cases e'; rfl
    ·cases e; exact absurd (hl _ b) (Nat.lt_irrefl _)
    ·cases e'; exact absurd (hl _ a) (Nat.lt_irrefl _)
    ·exact hi _ _ _ a b
  ·rename_i hk
   rw [if_neg hk] at h2
   exact cells_inj hl hi h1 h2
theorem newEnv_comp {M:Model} {A:Around} {E:Value → Shared → Prop} {s:Shared} {scope:Scope} {globals:Addr} {closure:List (Str × Addr)} {qual:Str} {func:Option Addr} {code:Value} {around:Env} {builtins:Addr} {Q:Env → Shared → Prop}
  (h:Q (newEnv scope s.heap.objs.size globals (cellsFrom (s.heap.objs.size + 1) scope.names closure) qual func code (some around) builtins)
   { s with heap:=pushCells (s.heap.push { cls:=.type "dict",data:=.dict #[] }) scope.names }):
  wpAny M A (newFunctionEnv scope globals closure [] qual func code (some around) builtins) Q E s:=by
 simp only [newFunctionEnv,Option.isSome_some,if_true]
 refine wpAny_bind (wpAny_alloc ?_)
 refine wpAny_bind (wpAny_layCells _ (fun n k c=>rfl) scope.names closure _ _ ?_)
 rw [show ({ s with heap:=s.heap.push { cls:=.type "dict",data:=.dict #[] } }:Shared).heap.objs.size = s.heap.objs.size + 1 from Heap.size_push ..]
 rw [List.forIn_nil]
 exact wpAny_bind (wpAny_pure (wpAny_pure h))
theorem lookup_relS {sc:Scope}:∀ {names:List (Str × NameKind)} {x:Str} {k:NameKind},
  (names.map fun (n,k)=>if (k == NameKind.free && sc.kind == .function && sc.names.lookup n == some .cell) then (n,NameKind.cell) else (n,k)).lookup x = some k →
  ∃ k',names.lookup x = some k' ∧ (k = k' ∨ (k' = .free ∧ k = .cell))
 | [],_,_,h=>by simp at h
 | (n,k₀) :: r,x,k,h=>by
  have ih:=@lookup_relS sc r x k
  have h':List.lookup x ((if (k₀ == NameKind.free && sc.kind == .function && sc.names.lookup n == some .cell) = true then (n,NameKind.cell) else (n,k₀)) :: (r.map _)) = some k:=h
  cases hx:x == n with
  | true=>
   simp only [List.lookup_cons,hx]
   by_cases hc:(k₀ == NameKind.free && sc.kind == .function && sc.names.lookup n == some .cell) = true
   ·rw [if_pos hc] at h'
    simp only [List.lookup_cons,hx] at h'
    cases h'
    simp only [Bool.and_eq_true,beq_iff_eq] at hc
    exact ⟨k₀,rfl,.inr ⟨hc.1.1,rfl⟩⟩
   ·rw [if_neg hc] at h'
    simp only [List.lookup_cons,hx] at h'
    cases h'
    exact ⟨_,rfl,.inl rfl⟩
  | false=>
   simp only [List.lookup_cons,hx]
   by_cases hc:(k₀ == NameKind.free && sc.kind == .function && sc.names.lookup n == some .cell) = true
   ·rw [if_pos hc] at h'
    simp only [List.lookup_cons,hx] at h'
    exact ih h'
   ·rw [if_neg hc] at h'
    simp only [List.lookup_cons,hx] at h'
    exact ih h'
structure BlkOk (N:List Str) (sc scope:Scope) (own:List (Str × Nat)):Prop where
 kind:scope.kind = .function
 uniq:∀ y ∈ scope.names,scope.names.lookup y.1 = some y.2
 ix:∀ p ∈ own,N[p.2]? = some p.1
 free:∀ y ∈ scope.names,y.2 = .free → sc.names.lookup y.1 = some .cell ∨ sc.names.lookup y.1 = some .free
 own:∀ y ∈ scope.names,y.2 = .local ∨ y.2 = .cell → y.1 ∈ own.map (·.1) ∨ y.1 ∉ N
def wipe (σ:St):List Nat → St
 | []=>σ
 | v :: vs=>(wipe σ vs).set v none
theorem wipe_length (σ:St):∀ vs:List Nat,(wipe σ vs).length = σ.length
 | []=>rfl
 | v :: vs=>by unfold wipe; rw [List.length_set,wipe_length σ vs]
theorem wipe_some {σ:St} {i:Nat} {x:V}:∀ {vs:List Nat},(wipe σ vs)[i]? = some (some x) → σ[i]? = some (some x) ∧ i ∉ vs
 | [],h=>⟨h,by simp⟩
 | v :: vs,h=>by
  unfold wipe at h
  by_cases hi:v = i
  ·subst hi
   by_cases hv:v < (wipe σ vs).length
   ·rw [List.getElem?_set_self hv] at h; cases h
   ·rw [List.getElem?_eq_none (by simpa using hv)] at h; cases h
  ·rw [List.getElem?_set_ne hi] at h
   obtain ⟨h1,h2⟩:=wipe_some h
   exact ⟨h1,by simp only [List.mem_cons,not_or]; exact ⟨fun e=>hi e.symm,h2⟩⟩
abbrev Cx.blk (X:Cx) (s:Shared) (H:Hp) (scope:Scope) (cenv:Env) (fp:List Addr):Cx:={ X with s_0:=s,H_0:=H,env:=cenv,outer:=X.stack,ex:=fp,fn:=fun x=>scope.names.lookup x == some .cell,pn:=[],xe:=fun _ _=>False }
section
variable {X:Cx} {pins:List (Addr × Obj)} {σ:St} {H:Hp} {s:Shared}
theorem block_start {scope:Scope} {own:List (Str × Nat)} {fp:List Addr} (I:Inv X pins σ H s) (ok:BlkOk X.N X.env.scope scope own) (hN:X.N.Nodup) (hfp:∀ b ∈ fp,FpOk X pins H b ∧ b < s.heap.objs.size):
  Inv (X.blk s H scope (compEnvC scope (cellsFrom (s.heap.objs.size + 1) scope.names (cloFrom X.env.cells scope.names [])) s.heap.objs.size X.env) fp) [] (wipe σ (own.map (·.2))) H { s with heap:=pushCells (s.heap.push { cls:=.type "dict",data:=.dict #[] }) scope.names }:=by
 have hfree:∀ y ∈ scope.names,y.2 = .free → ∃ c,X.env.cells.lookup y.1 = some c:=fun y hy e=>by
  rcases ok.free y hy e with k | k
  ·exact I.ok.has _ (.inl k)
  ·exact I.ok.has _ (.inr k)
 generalize hcenv:compEnvC scope (cellsFrom (s.heap.objs.size + 1) scope.names (cloFrom X.env.cells scope.names [])) s.heap.objs.size X.env = cenv
 have kp:∀ b o,s.heap.get? b = some o → (pushCells (s.heap.push { cls:=.type "dict",data:=.dict #[] }) scope.names).get? b = some o:=fun b o e=>pushCells_keeps _ _ _ _ (Heap.get?_push_of_some _ e)
 have hL:cenv.locals = s.heap.objs.size:=by rw [← hcenv]; rfl
 have hcl:cenv.cells = cellsFrom (s.heap.objs.size + 1) scope.names (cloFrom X.env.cells scope.names []):=by rw [← hcenv]; rfl
 have hsc:cenv.scope = relS scope X.env.scope:=by rw [← hcenv]; rfl
 rw [← Heap.size_push s.heap { cls:=.type "dict",data:=.dict #[] }] at hcl
 have cm:∀ {y c},(y,c) ∈ cloFrom X.env.cells scope.names [] → X.env.cells.lookup y = some c ∧ c < s.heap.objs.size:=fun {y c} hm=>by
  rcases cloFrom_mem hm with hm | ⟨h1,rfl⟩
  ·cases hm
  ·obtain ⟨c,hc⟩:=hfree _ h1 rfl
   rw [hc]
   obtain ⟨w,z⟩:=I.cell _ _ hc
   exact ⟨rfl,z.lt⟩
 have mem:∀ {y c},cenv.cells.lookup y = some c → (X.env.cells.lookup y = some c ∧ c < s.heap.objs.size) ∨ (s.heap.objs.size + 1 ≤ c ∧ CellAt (pushCells (s.heap.push { cls:=.type "dict",data:=.dict #[] }) scope.names) c none):=fun {y c} e=>by
  rw [hcl] at e
  rcases cells_mem (PySem.mem_of_lookup e) with hm | ⟨_,h2,h3⟩
  ·exact .inl (cm hm)
  ·rw [Heap.size_push] at h2; exact .inr ⟨h2,h3⟩
 have look:∀ {y},scope.names.lookup y = some .free → ∃ c,cenv.cells.lookup y = some c ∧ X.env.cells.lookup y = some c:=fun {y} hl=>by
  have hy:(y,NameKind.free) ∈ scope.names:=PySem.mem_of_lookup hl
  obtain ⟨c',e'⟩:=mem_lookup (cells_acc (names:=scope.names) (n:=(s.heap.push { cls:=.type "dict",data:=.dict #[] }).objs.size) (cloFrom_has (cells:=X.env.cells) (acc:=[]) hy))
  rw [← hcl] at e'
  refine ⟨c',e',?_⟩
  rw [hcl] at e'
  rcases cells_mem (PySem.mem_of_lookup e') with hm | ⟨h1,_,_⟩
  ·exact (cm hm).1
  ·have:=ok.uniq _ h1
   rw [hl] at this; cases this
 have okB:(X.blk s H scope cenv fp).Ok:=by
  refine ⟨I.ok.mod,by show cenv.scope.kind = _; rw [hsc]; exact ok.kind,by show cenv.globals = _; rw [← hcenv]; exact I.ok.glob,by show cenv.builtins = _; rw [← hcenv]; exact I.ok.blt,by show s.heap.objs.size ≤ cenv.locals; rw [hL]; exact Nat.le_refl _,
   fun y z c e1 e2=>?_,fun y hy=>?_,fun y c z e=>?_,I.ok.hd,I.ok.frames,.inl rfl,fun b hb=>⟨?_,fun y c e z=>?_⟩,I.bs,Nat.le_trans I.ok.bsz I.sz,fun b o e hb=>?_,fun b hb z=>?_,I.stack,I.stkFree⟩
  ·have e1:cenv.cells.lookup y = some c:=e1
   have e2:cenv.cells.lookup z = some c:=e2
   rw [hcl] at e1 e2
   refine cells_inj (fun p hp=>?_) (fun y z c a b=>I.ok.inj y z c (cm a).1 (cm b).1) (PySem.mem_of_lookup e1) (PySem.mem_of_lookup e2)
   rw [Heap.size_push]
   exact Nat.lt_succ_of_lt (cm (y:=p.1) (c:=p.2) hp).2
  ·show ∃ c,cenv.cells.lookup y = some c
   have key:∀ k,cenv.kindOf y = some k → (k = .cell ∨ k = .free) → ∃ c,cenv.cells.lookup y = some c:=fun k hk hk'=>by
    unfold Env.kindOf at hk
    rw [hsc] at hk
    obtain ⟨k',e,r⟩:=lookup_relS hk
    have:k' = .cell ∨ k' = .free:=by
     rcases r with rfl | ⟨rfl,_⟩
     ·exact hk'
     ·exact .inr rfl
    rcases this with rfl | rfl
    ·obtain ⟨c,hm⟩:=cells_has (n:=(s.heap.push { cls:=.type "dict",data:=.dict #[] }).objs.size) (acc:=cloFrom X.env.cells scope.names []) (PySem.mem_of_lookup e)
     obtain ⟨c',e'⟩:=mem_lookup hm
     exact ⟨c',by rw [hcl]; exact e'⟩
    ·obtain ⟨c,h1,_⟩:=look e
     exact ⟨c,h1⟩
   rcases hy with hy | hy
   ·exact key _ hy (.inl rfl)
   ·exact key _ hy (.inr rfl)
  ·have z:(scope.names.lookup y == some NameKind.cell) = true:=z
   have z:scope.names.lookup y = some .cell:=by simpa using z
   have e:cenv.cells.lookup y = some c:=e
   rw [hcl] at e
   rcases cells_mem (PySem.mem_of_lookup e) with hm | ⟨_,h2,_⟩
   ·rcases cloFrom_mem hm with hm | ⟨h1,_⟩
    ·cases hm
    ·have q:=ok.uniq _ h1
     rw [z] at q; cases q
   ·rw [Heap.size_push] at h2
    exact Nat.le_of_succ_le h2
  ·show b ≠ cenv.locals
   rw [hL]; exact Nat.ne_of_lt (hfp b hb).2
  ·have e:cenv.cells.lookup y = some c:=e
   rcases mem e with ⟨h1,_⟩ | ⟨h1,_⟩
   ·exact (hfp b hb).1.2.2.2.2.1 y c h1 z
   ·have h2:s.heap.objs.size + 1 ≤ b:=by rw [← z]; exact h1
    exact absurd (Nat.lt_of_lt_of_le (hfp b hb).2 (Nat.le_of_succ_le h2)) (Nat.lt_irrefl _)
  ·rcases (hfp b hb).1.2.2.2.1 with z | z
   ·exact I.ok.noex b o e z
   ·exact absurd (Nat.lt_of_lt_of_le (Heap.lt_size e) (Nat.le_trans I.ok.bsz z)) (Nat.lt_irrefl _)
  ·rcases List.mem_cons.mp (I.stkSub b z) with z | z
   ·exact (hfp b hb).1.2.1 z
   ·exact (hfp b hb).1.2.2.1 z
 refine ⟨okB,rfl,I.bare,Un.kept kp,⟨fun _=>none,?_,fun i y av e1 e2 e3=>?_⟩,fun y c e=>?_,?_,fun y c e=>?_,fun p hp=>?_,I.hok.kept kp,by rw [wipe_length]; exact I.len⟩
 ·show Heap.Ns _ cenv.locals _
  rw [hL]
  exact Heap.Ns.keeps (Heap.Ns.new ..) fun b o e=>pushCells_keeps _ _ _ _ e
 ·obtain ⟨e2,hne⟩:=wipe_some e2
  have hfr:scope.names.lookup y = some .free ∧ (cenv.kindOf y = some .cell ∨ cenv.kindOf y = some .free):=by
   have key:∀ k,cenv.scope.names.lookup y = some k → k = .local ∨ k = .cell ∨ k = .free → scope.names.lookup y = some .free ∧ (cenv.kindOf y = some .cell ∨ cenv.kindOf y = some .free):=fun k hk hk'=>by
    have hk0:=hk
    rw [hsc] at hk
    obtain ⟨k',e,r⟩:=lookup_relS hk
    have no:¬ (k' = .local ∨ k' = .cell):=fun hh=>by
     rcases ok.own _ (PySem.mem_of_lookup e) hh with e' | e'
     ·obtain ⟨p,hp,hpy⟩:=List.mem_map.mp e'
      have e3:=ok.ix p hp
      have:p.1 = y:=hpy
      rw [this] at e3
      exact hne (List.mem_map.mpr ⟨p,hp,nodup_ix hN e3 e1⟩)
     ·exact e' (List.mem_of_getElem? e1)
    rcases r with rfl | ⟨rfl,rfl⟩
    ·rcases hk' with rfl | rfl | rfl
     ·exact absurd (.inl rfl) no
     ·exact absurd (.inr rfl) no
     ·exact ⟨e,.inr hk0⟩
    ·exact ⟨e,.inl hk0⟩
   have e3:Vis cenv.scope y:=e3
   rcases e3 with e3 | e3 | e3
   ·exact key _ e3 (.inl rfl)
   ·exact key _ e3 (.inr (.inl rfl))
   ·exact key _ e3 (.inr (.inr rfl))
  obtain ⟨m,hn,hl⟩:=I.loc
  have hvis:Vis X.env.scope y:=(ok.free _ (PySem.mem_of_lookup hfr.1) rfl).elim (fun k=>.inr (.inl k)) (fun k=>.inr (.inr k))
  obtain ⟨w,r,q⟩:=hl i y av e1 e2 hvis
  refine ⟨w,r,.inr ⟨hfr.2,?_⟩⟩
  obtain ⟨c,h1,h2⟩:=look hfr.1
  rcases q with ⟨k,_⟩ | ⟨_,c',e',z⟩
  ·have k:X.env.scope.names.lookup y = some .local:=k
   rcases ok.free _ (PySem.mem_of_lookup hfr.1) rfl with k' | k' <;> rw [show X.env.scope.names.lookup y = _ from k'] at k <;> cases k
  ·rw [h2] at e'; cases e'
   exact ⟨c,h1,z.keeps kp⟩
 ·have e:cenv.cells.lookup y = some c:=e
  rcases mem e with ⟨h1,_⟩ | ⟨_,z⟩
  ·obtain ⟨w,z⟩:=I.cell y c h1
   exact ⟨w,z.keeps kp⟩
  ·exact ⟨_,z⟩
 ·show H cenv.locals = none
  rw [hL]; exact I.hok.fresh (Nat.le_refl _)
 ·have e:cenv.cells.lookup y = some c:=e
  rcases mem e with ⟨h1,_⟩ | ⟨h1,_⟩
  ·exact I.freeC y c h1
  ·exact I.hok.fresh (Nat.le_of_succ_le h1)
 ·exact absurd (show p ∈ ([]:List (Addr × Obj)) ++ [] from hp) (by simp)
theorem app_ok {E:Value → Shared → Prop} {D:Addr} {xs:List V} {y:V} {v:Value} {Q:Value → Shared → Prop} (I:Inv X pins σ H s) (hD:H D = some (.lst xs)) (hz:xs.length < sizeLine) (r:RelV y v)
  (h:∀ s',Inv X pins σ (upd H D (.lst (xs ++ [y]))) s' → Q .none s'):wpAny (model X.prog X.w) X.A (call (.builtin "list.append") [.ref D,v]) Q E s:=by
 obtain ⟨hz',its,n,ri,e⟩:=I.hok D _ hD
 have hl:=ri.length
 refine append_at (hsz:=by rw [List.size_toArray]; omega) e fun h' sb ho'=>?_
 refine h { s with heap:=h' } (I.write (t':=s.toks) (by rw [hD]; trivial) (.inl rfl) (fun b u hb q=>(sb.2 b hb).trans q) ⟨_,ho'⟩ ⟨by rw [List.length_append]; exact hz,its ++ [v],n + 1,ri.append (.cons r .nil),?_⟩)
 rw [ho']
 simp
def PTs (X:Cx) (ifs:List Expr) (t:TT):Prop:=
 ∀ (pins:List (Addr × Obj)) (s:Shared) (σ:St) (H:Hp) (Q:Bool → Hp → Prop),Inv X pins σ H s → t σ H Q →
  wpAny (model X.prog X.w) X.A (forIn ifs true fun c r=>if r = true then do let ok ← isTrue c X.env (eval c X.env); pure (ForInStep.yield ok) else pure (ForInStep.yield r)) (TP X pins σ Q) X.xe s
def tYes:TT:=fun _ H Q=>Q true H
theorem pts_nil:PTs X [] tYes:=fun _ _ _ H _ I h=>wpAny_tests_nil ⟨H,I,h⟩
theorem pts_one {c:Expr} {t:TT} (h:PT X c t):PTs X [c] t:=fun pins s σ H Q I hw=>wpAny_tests_one (h pins s σ H Q I hw)
end
theorem thnF {α:Type} {t:Sem α} {Q Q':α → Shared → Prop} {M:Model} {A:Around} {E:Value → Shared → Prop} {s:Shared} (h:wpAny M A t Q (fun _ _=>False) s) (hQ:∀ a s,Q a s → Q' a s):wpAny M A t Q' E s:=wpAny_mono h hQ fun _ _ z=>False.elim z
theorem compLoop_any {prog:Program} {w:World} {A:Around} {R:Result → Shared → Prop} {s:Shared} {elt target iter:Expr} {ifs:List Expr} {scope:Scope} {pos:Pos} {it acc:Value} {env:Env} (I:Nat → Shared → Prop)
  (turn:∀ n s,I n s → wpAny (model prog w) A (pyNext it) (fun r s₁=>match r with
   | none=>R (.ok .next) s₁
   | some v=>wpAny (model prog w) A (letOwnedTupleGo target it v) (fun _ s₁'=>wpAny (model prog w) A (assign target env v) (fun _ s₂=>
     wpAny (model prog w) A (forIn ifs true fun c r=>if r = true then do let ok ← isTrue c env (eval c env); pure (ForInStep.yield ok) else pure (ForInStep.yield r)) (fun ok s₃=>
      if ok = true then wpAny (model prog w) A (eval elt env) (fun x s₄=>
       wpAny (model prog w) A (call (.builtin "list.append") [acc,x]) (fun _ s₅=>∃ m,m < n ∧ I m s₅) (notedBy (model prog w) A env fun e s'=>R (.error e) s') s₄) (notedBy (model prog w) A env fun e s'=>R (.error e) s') s₃
      else ∃ m,m < n ∧ I m s₃) (notedBy (model prog w) A env fun e s'=>R (.error e) s') s₂) (notedBy (model prog w) A env fun e s'=>R (.error e) s') s₁') (notedBy (model prog w) A env fun e s'=>R (.error e) s') s₁) (notedBy (model prog w) A env fun e s'=>R (.error e) s') s)
  (n:Nat) (h:I n s):
  codeAny (model prog w) A (.compLoop (.ListComp elt [⟨target,iter,ifs,0⟩] scope pos) 0 it acc env) R s:=by
 refine codeAny_loop rfl I (fun n s hI=>?_) n h
 show wpAny _ A ((compTurn (.ListComp elt [⟨target,iter,ifs,0⟩] scope pos) 0 it acc env).onRaise (fun x=>do noteFrame x env; theTreesLotGoes x)) _ _ s
 refine wpAny_noted ?_
 rw [compTurn_list]
 refine wpAny_bind (wpAny_standAt (wpAny_bind (wpAny_mono (turn n s hI) (fun r s₁ h₁=>?_) fun _ _ h'=>h')))
 cases r with
 | none=>exact wpAny_pure h₁
 | some v=>
  refine wpAny_bind (wpAny_mono h₁ (fun _ s₁' h₁'=>?_) fun _ _ h'=>h')
  refine wpAny_bind (wpAny_mono h₁' (fun _ s₂ h₂=>wpAny_bind (wpAny_mono h₂ (fun ok s₃ h₃=>?_) fun _ _ h'=>h')) fun _ _ h'=>h')
  cases ok with
  | false=>exact wpAny_pure ⟨rfl,h₃⟩
  | true=>
   exact wpAny_bind (wpAny_bind (wpAny_mono h₃ (fun x s₄ h₄=>wpAny_bind (wpAny_mono h₄ (fun _ s₅ h₅=>wpAny_pure (wpAny_pure ⟨rfl,h₅⟩)) fun _ _ h'=>h')) fun _ _ h'=>h'))
section
variable {X:Cx}
def tLc (wi:TI) (g:TG) (tt:TT) (te:TE) (vs:List Nat):TE:=fun σ H Q=>wi σ H fun J H1=>∀ D,H1 D = none → ∃ W:Nat → Nat → Hp → Prop,(∃ m,W 0 m (upd H1 D (.lst []))) ∧ ∀ i m H,W i m H →
 (J.stop i H ∧ Q (.ref D) H) ∨ (J.go i H ∧ ∃ Nx:Hp → Prop,(∀ H',Nx H' → ∃ m',m' < m ∧ W (i + 1) m' H') ∧ ∀ x H',J.yld i H x H' → g x (wipe σ vs) H' fun σ2 H2=>wipe σ2 vs = wipe σ vs ∧ tt σ2 H2 fun b H3=>
  if b = true then te σ2 H3 fun y H4=>∃ acc,H4 D = some (.lst acc) ∧ acc.length < sizeLine ∧ Nx (upd H4 D (.lst (acc ++ [y]))) else Nx H3)
theorem lc_core {pins:List (Addr × Obj)} {s:Shared} {σ:St} {H:Hp} {Q:VK} {elt tg iter:Expr} {ifs:List Expr} {scope:Scope} {own:List (Str × Nat)} {pos pos':Pos} {wi:TI} {g:TG} {tt:TT} {te:TE} {use:Option (Value → Sem Unit)} {Qf:Value → Shared → Prop}
  (hc:X.calm = true) (hN:X.N.Nodup) (I:Inv X pins σ H s) (hi:PI X tg iter wi) (ok:BlkOk X.N X.env.scope scope own)
  (hg:∀ (s:Shared) (H:Hp) (C:Addr) (cl:List (Str × Addr)) (fp:List Addr),PG (X.blk s H scope (compEnvC scope cl C X.env) fp) tg g) (ht:∀ (s:Shared) (H:Hp) (C:Addr) (cl:List (Str × Addr)) (fp:List Addr),PTs (X.blk s H scope (compEnvC scope cl C X.env) fp) ifs tt)
  (he:∀ (s:Shared) (H:Hp) (C:Addr) (cl:List (Str × Addr)) (fp:List Addr),PE (X.blk s H scope (compEnvC scope cl C X.env) fp) elt te) (hs:∀ x,foldedSetIterable iter X.env x = pure x)
  (h:tLc wi g tt te (own.map (·.2)) σ H Q)
  (hRR:∀ D C s' m H',Inv X pins σ H' s' → Q (.ref D) H' → s'.heap.Ns C m → FpOk X pins H' C → compPost (model X.prog X.w) X.A X.xe use Qf (.ref D) C (.ok .next) s'):
  wpAny (model X.prog X.w) X.A (comprehension (.ListComp elt [⟨tg,iter,ifs,0⟩] scope pos) scope X.env pos' (newList []) false (eval iter X.env) use) Qf X.xe s:=by
 have hfree:∀ y ∈ scope.names,y.2 = .free → ∃ c,X.env.cells.lookup y.1 = some c:=fun y hy e=>by
  rcases ok.free y hy e with k | k
  ·exact I.ok.has _ (.inl k)
  ·exact I.ok.has _ (.inr k)
 refine wpAny_comprehension_free (use:=use) rfl hs (closure_ok hfree) ok.kind (fun y hy e=>by rw [ok.uniq y hy,e])
  (thn (hi pins s σ H _ I h) fun xv s1 hx=>thn hx fun itv s2 h2=>?_)
 obtain ⟨it,fp,tn,J,H2,e,I2,T,st2,f2,q⟩:=h2
 subst e
 refine wpAny_newObj_type (newEnv_comp ?_) (by show 0 ≤ sizeLine; decide)
 generalize hD:s2.heap.objs.size = D
 have hDn:H2 D = none:=I2.hok.fresh (Nat.le_of_eq hD)
 obtain ⟨W,⟨m0,w0⟩,turn⟩:=q D hDn
 generalize hs3:({ s2 with heap:=s2.heap.push { cls:=.type "list",data:=.seq ([]:List Value).toArray } }:Shared) = s3
 have I3:Inv X pins σ (upd H2 D (.lst [])) s3:=by
  rw [← hs3]
  refine I2.laid (t':=s2.toks) (fun b o e=>Heap.get?_push_of_some _ e) (Nat.le_of_eq hD) ⟨Nat.zero_le _,[],0,.nil,?_⟩
  rw [← hD]
  exact Heap.get?_push_size _ rfl
 have h3:s3.heap = s2.heap.push { cls:=.type "list",data:=.seq ([]:List Value).toArray }:=by rw [← hs3]
 have sz:∀ b ∈ fp,b < s2.heap.objs.size:=fun b hb=>by
  obtain ⟨o,e,_⟩:=T.obj _ _ st2 b hb
  exact Heap.lt_size e
 have f3:∀ b ∈ fp,FpOk X pins (upd H2 D (.lst [])) b ∧ b < s3.heap.objs.size:=fun b hb=>by
  have hlt:=sz b hb
  refine ⟨⟨?_,(f2 b hb).2⟩,by rw [h3,Heap.size_push]; exact Nat.lt_succ_of_lt hlt⟩
  rw [upd_ne (by rw [← hD]; exact Nat.ne_of_lt hlt)]
  exact (f2 b hb).1
 have st3:tn 0 s3.heap:=T.keep _ _ _ st2 fun b _ o e=>by rw [h3]; exact Heap.get?_push_of_some _ e
 have I4:=block_start I3 ok hN f3
 have pg:=hg s3 (upd H2 D (.lst [])) s3.heap.objs.size (cellsFrom (s3.heap.objs.size + 1) scope.names (cloFrom X.env.cells scope.names [])) fp
 have pt:=ht s3 (upd H2 D (.lst [])) s3.heap.objs.size (cellsFrom (s3.heap.objs.size + 1) scope.names (cloFrom X.env.cells scope.names [])) fp
 have pe:=he s3 (upd H2 D (.lst [])) s3.heap.objs.size (cellsFrom (s3.heap.objs.size + 1) scope.names (cloFrom X.env.cells scope.names [])) fp
 show codeAny _ _ (.compStart (.ListComp elt [⟨tg,iter,ifs,0⟩] scope pos) 0 (.ref it) (.ref D) (compEnvC scope (cellsFrom (s3.heap.objs.size + 1) scope.names (cloFrom X.env.cells scope.names [])) s3.heap.objs.size X.env)) (compPost (model X.prog X.w) X.A X.xe use Qf (.ref D) s3.heap.objs.size) { s3 with heap:=pushCells (s3.heap.push { cls:=.type "dict",data:=.dict #[] }) scope.names }
 have nfp:∀ b ∈ fp,(upd H2 D (.lst [])) b = none:=fun b hb=>(f3 b hb).1.1
 generalize hce:compEnvC scope (cellsFrom (s3.heap.objs.size + 1) scope.names (cloFrom X.env.cells scope.names [])) s3.heap.objs.size X.env = ce at I4 pg pt pe ⊢
 have cL:ce.locals = s3.heap.objs.size:=by subst hce; rfl
 generalize hH3:upd H2 D (.lst []) = H3 at I3 I4 pg pt pe w0 nfp f3
 generalize hs4:({ s3 with heap:=pushCells (s3.heap.push { cls:=.type "dict",data:=.dict #[] }) scope.names }:Shared) = s4 at I4 ⊢
 have st4:tn 0 s4.heap:=T.keep _ _ _ st3 fun b _ o e=>by rw [← hs4]; exact pushCells_keeps _ _ _ _ (Heap.get?_push_of_some _ e)
 have stat:∀ {σ':St} {H':Hp} {s':Shared},Inv (X.blk s3 H3 scope ce fp) [] σ' H' s' → (∀ b ∈ fp,H' b = none) → ∀ b ∈ fp,FpOk (X.blk s3 H3 scope ce fp) [] H' b:=fun {σ' H' s'} I' hn b hb=>
  ⟨hn b hb,(I'.ok.exf b hb).1,I'.ok.exfs b hb,.inl hb,fun x c e=>(I'.ok.exf b hb).2 x c e,fun p hp=>absurd (show p ∈ ([]:List (Addr × Obj)) ++ [] from hp) (by simp)⟩
 have loop:codeAny (model X.prog X.w) X.A (.compLoop (.ListComp elt [⟨tg,iter,ifs,0⟩] scope pos) 0 (.ref it) (.ref D) ce) (compPost (model X.prog X.w) X.A X.xe use Qf (.ref D) s3.heap.objs.size) s4:=by
  refine compLoop_any (fun n s'=>∃ i H',Inv (X.blk s3 H3 scope ce fp) [] (wipe σ (own.map (·.2))) H' s' ∧ tn i s'.heap ∧ (∀ b ∈ fp,H' b = none) ∧ W i n H') ?_ m0 ⟨0,H3,I4,st4,nfp,w0⟩
  rintro n s5 ⟨i,H5,I5,st5,n5,w5⟩
  rcases turn i n H5 w5 with ⟨stop,qq⟩ | ⟨go,Nx,hNx,step⟩
  ·have td:=T.done (X.blk s3 H3 scope ce fp) rfl rfl rfl hc i [] s5 _ H5 (fun _ _=>False) I5 (stat I5 n5) st5 stop
   refine thnF td fun r s6 ⟨hr,I6⟩=>?_
   subst hr
   have I7:Inv X pins σ H5 s6:=I3.call' (ch:=fp) I6.os I6.base I6.hok I6.bare fun b hb=>⟨(f3 b hb).1.2.2.2.1,(f3 b hb).1.2.1,(f3 b hb).1.2.2.2.2.1,(f3 b hb).1.2.2.2.2.2⟩
   have nC:H5 s3.heap.objs.size = none:=by
    have z:H5 ce.locals = none:=I6.free
    rw [cL] at z
    exact z
   obtain ⟨m,hn,_⟩:=I6.loc
   have hn:s6.heap.Ns ce.locals m:=hn
   rw [cL] at hn
   exact hRR D s3.heap.objs.size s6 m H5 I7 qq hn (I3.fpOk (Nat.le_refl _) nC)
  ·have ti:=T.item (X.blk s3 H3 scope ce fp) rfl rfl rfl hc i [] s5 _ H5 (fun _ _=>False) I5 (stat I5 n5) st5 go
   refine thnF ti fun r s6 ⟨u,hr,h6⟩=>?_
   subst hr
   refine thnF h6 fun _ s7 ⟨x,H7,I7,r7,y7,st7,n7⟩=>?_
   have I7':=I7.pinned (stat I7 n7) (T.obj _ _ st7)
   refine thnF (pg _ s7 _ H7 x u _ I7' r7 (step x H7 y7)) fun _ s8 ⟨σ8,H8,I8,hw8,q8⟩=>?_
   refine thnF (pt _ s8 σ8 H8 _ I8 q8) fun b s9 ⟨H9,I9,q9⟩=>?_
   have fin:∀ {s':Shared} {H':Hp},Inv (X.blk s3 H3 scope ce fp) ([] ++ pinsAt fp s7.heap) σ8 H' s' → Nx H' → ∃ m,m < n ∧ ∃ i H',Inv (X.blk s3 H3 scope ce fp) [] (wipe σ (own.map (·.2))) H' s' ∧ tn i s'.heap ∧ (∀ b ∈ fp,H' b = none) ∧ W i m H':=fun {s' H'} I' nx=>by
    obtain ⟨m',hm,w'⟩:=hNx H' nx
    have pin':∀ b ∈ fp,∀ o,s7.heap.get? b = some o → s'.heap.get? b = some o ∧ H' b = none:=fun b hb o e=>
     let z:=I'.pin (b,o) (List.mem_append_right _ (List.mem_append_right _ (mem_pinsAt hb e)))
     ⟨z.1,z.2.1⟩
    have hl:(wipe σ (own.map (·.2))).length = σ8.length:=by rw [← hw8,wipe_length]
    refine ⟨m',hm,i + 1,H',(I'.unpinned (pins:=[])).weak hl (fun j v e=>?_),T.keep _ _ _ st7 fun b hb o e=>(pin' b hb o e).1,fun b hb=>?_,w'⟩
    ·rw [← hw8] at e
     exact (wipe_some e).1
    ·obtain ⟨o,e,_⟩:=T.obj _ _ st7 b hb
     exact (pin' b hb o e).2
   cases b with
   | false=>
    simp only [Bool.false_eq_true,if_false] at q9 ⊢
    exact fin I9 q9
   | true=>
    simp only [if_true] at q9 ⊢
    refine thnF (pe _ s9 σ8 H9 _ I9 q9) fun z s10 ⟨yv,H10,I10,r10,acc,hD10,hz10,nx⟩=>?_
    exact app_ok (X:=X.blk s3 H3 scope ce fp) I10 hD10 hz10 r10 fun s11 I11=>fin I11 nx
 exact codeAny_compStart_list loop (T.self X.A 0 _ _ _ st4 loop)
theorem pe_lc {elt tg iter:Expr} {ifs:List Expr} {scope:Scope} {own:List (Str × Nat)} {pos:Pos} {wi:TI} {g:TG} {tt:TT} {te:TE} (hc:X.calm = true) (hN:X.N.Nodup) (hi:PI X tg iter wi) (ok:BlkOk X.N X.env.scope scope own)
  (hg:∀ (s:Shared) (H:Hp) (C:Addr) (cl:List (Str × Addr)) (fp:List Addr),PG (X.blk s H scope (compEnvC scope cl C X.env) fp) tg g) (ht:∀ (s:Shared) (H:Hp) (C:Addr) (cl:List (Str × Addr)) (fp:List Addr),PTs (X.blk s H scope (compEnvC scope cl C X.env) fp) ifs tt)
  (he:∀ (s:Shared) (H:Hp) (C:Addr) (cl:List (Str × Addr)) (fp:List Addr),PE (X.blk s H scope (compEnvC scope cl C X.env) fp) elt te) (hs:∀ x,foldedSetIterable iter X.env x = pure x:=by intro _; rfl):
  PE X (.ListComp elt [⟨tg,iter,ifs,0⟩] scope pos) (tLc wi g tt te (own.map (·.2))):=by
 intro pins s σ H Q I h
 rw [eval_ListComp]
 refine lc_core hc hN I hi ok hg ht he hs h fun D C s' m H' I' q hn f=>⟨m,hn,fun h'' sb=>?_⟩
 obtain ⟨f0,f1,f2,f3,f4,f5⟩:=f
 exact ⟨.ref D,H',I'.turned (t':=s'.toks) (fun b o hb e=>(sb.2 b hb).trans e) f0 f1 f3 f4 f5,rfl,q⟩
theorem ps_setLc {i:Nat} {y:Str} {py:Pos} {elt tg iter:Expr} {ifs:List Expr} {scope:Scope} {own:List (Str × Nat)} {pos spos:Pos} {wi:TI} {g:TG} {tt:TT} {te:TE} (hc:X.calm = true) (hN:X.N.Nodup) (hy:X.N[i]? = some y) (hyl:X.env.scope.names.lookup y = some .local)
  (hsw:swapsWith (.ListComp elt [⟨tg,iter,ifs,0⟩] scope pos) (some (.Name y py)) spos.line X.env = pure true) (hi:PI X tg iter wi) (ok:BlkOk X.N X.env.scope scope own)
  (hg:∀ (s:Shared) (H:Hp) (C:Addr) (cl:List (Str × Addr)) (fp:List Addr),PG (X.blk s H scope (compEnvC scope cl C X.env) fp) tg g) (ht:∀ (s:Shared) (H:Hp) (C:Addr) (cl:List (Str × Addr)) (fp:List Addr),PTs (X.blk s H scope (compEnvC scope cl C X.env) fp) ifs tt)
  (he:∀ (s:Shared) (H:Hp) (C:Addr) (cl:List (Str × Addr)) (fp:List Addr),PE (X.blk s H scope (compEnvC scope cl C X.env) fp) elt te) (hs:∀ x,foldedSetIterable iter X.env x = pure x:=by intro _; rfl):
  PS X (.Assign [.Name y py] (.ListComp elt [⟨tg,iter,ifs,0⟩] scope pos) spos) (tAsg (tLc wi g tt te (own.map (·.2))) (gName i)):=by
 intro pins s σ H D I h
 rw [exec_Assign_Name_used _ _ _ _ hsw]
 refine wpAny_bind (wpAny_standAt (wpAny_bind ?_))
 show wpAny _ X.A (do let _ ← comprehension (.ListComp elt [⟨tg,iter,ifs,0⟩] scope pos) scope X.env (firstIterPos [⟨tg,iter,ifs,0⟩] pos) (newList []) false (eval iter X.env) (some (assign (.Name y py) X.env))) _ _ s
 have h:tLc wi g tt te (own.map (·.2)) σ H (fun x H1=>gName i x σ H1 D.nx):=h
 refine wpAny_bind (thn (lc_core (Qf:=fun _ s'=>SP X pins D .next s') hc hN I hi ok hg ht he hs h fun L C s' m H' I' q hn f=>?_) fun _ s' hq=>wpAny_pure (wpAny_pure hq))
 show wpAny _ _ (assign (.Name y py) X.env (.ref L)) _ _ _
 refine wpAny_assign_Name (store_ok2 (v:=V.ref L) I' hN hy (.inl hyl) rfl (fun s2 I2 ⟨a,sb,ha⟩=>?_) (.inr hyl))
 obtain ⟨f0,f1,f2,f3,f4,f5⟩:=f
 have haC:C ≠ a:=by
  rcases ha with z | z
  ·rw [z]; exact f1
  ·exact fun e=>f4 y a z e.symm
 refine ⟨m,hn.sameBut sb haC,fun h3 sb3=>?_⟩
 exact ⟨_,H',I2.turned (t':=s2.toks) (fun b o hb e=>(sb3.2 b hb).trans e) f0 f1 f3 f4 f5,q⟩
theorem sw_true {elt:Expr} {gs:List Comprehension} {scope:Scope} {pos py:Pos} {y:Str} {l:Nat} {env:Env} (hk:env.scope.kind = .function) (hy:env.scope.names.lookup y = some .local) (hl:(py.line == pos.line) = true)
  (ha:(scope.names.any fun (n,k)=>n == y && (k == .local || k == .cell)) = false):swapsWith (.ListComp elt gs scope pos) (some (.Name y py)) l env = pure true:=by
 have ky:env.kindOf y = some .local:=hy
 have hb:env.blockKind = .function:=by unfold Env.blockKind; rw [hk]; rfl
 unfold swapsWith
 simp only [hb,ky,ha,Expr.pos,hl]
 rfl
end
theorem lc_range {lo:Int} {n:Nat} {g:TG} {tt:TT} {te:TE} {vs:List Nat} {σ:St} {H1:Hp} {D:Addr} {Qd:Hp → Prop} (Pv:Nat → Hp → Prop) (h0:Pv 0 (upd H1 D (.lst [])))
  (hs:∀ i H,i < n → Pv i H → g (.int (lo + i)) (wipe σ vs) H fun σ2 H2=>wipe σ2 vs = wipe σ vs ∧ tt σ2 H2 fun b H3=>
   if b = true then te σ2 H3 fun y H4=>∃ acc,H4 D = some (.lst acc) ∧ acc.length < sizeLine ∧ Pv (i + 1) (upd H4 D (.lst (acc ++ [y]))) else Pv (i + 1) H3) (hd:∀ H,Pv n H → Qd H):
  ∃ W:Nat → Nat → Hp → Prop,(∃ m,W 0 m (upd H1 D (.lst []))) ∧ ∀ i m H,W i m H →
   ((Itr lo n).stop i H ∧ Qd H) ∨ ((Itr lo n).go i H ∧ ∃ Nx:Hp → Prop,(∀ H',Nx H' → ∃ m',m' < m ∧ W (i + 1) m' H') ∧ ∀ x H',(Itr lo n).yld i H x H' → g x (wipe σ vs) H' fun σ2 H2=>wipe σ2 vs = wipe σ vs ∧ tt σ2 H2 fun b H3=>
    if b = true then te σ2 H3 fun y H4=>∃ acc,H4 D = some (.lst acc) ∧ acc.length < sizeLine ∧ Nx (upd H4 D (.lst (acc ++ [y]))) else Nx H3):=by
 refine ⟨fun i m H=>m = n - i ∧ i ≤ n ∧ Pv i H,⟨n,by simp,Nat.zero_le _,h0⟩,?_⟩
 rintro i m H ⟨rfl,hi,p⟩
 by_cases hlt:i < n
 ·refine .inr ⟨hlt,Pv (i + 1),fun H' p'=>⟨n - (i + 1),by omega,rfl,hlt,p'⟩,fun x H' y=>?_⟩
  obtain ⟨e,y⟩:=y
  subst e y
  exact hs i _ hlt p
 ·have e:i = n:=by omega
  subst e
  exact .inl ⟨Nat.le_refl _,hd H p⟩
theorem lc_list {K:PySem.W.Frag} {a:Addr} {xs:List V} {g:TG} {tt:TT} {te:TE} {vs:List Nat} {σ:St} {H1:Hp} {D:Addr} {Qd:Hp → Prop} (Pv:Nat → Hp → Prop) (h0:Pv 0 (upd H1 D (.lst []))) (hl:∀ i H,i ≤ xs.length → Pv i H → SqL K H a xs)
  (hs:∀ i x H,xs[i]? = some x → Pv i H → g x (wipe σ vs) H fun σ2 H2=>wipe σ2 vs = wipe σ vs ∧ tt σ2 H2 fun b H3=>
   if b = true then te σ2 H3 fun y H4=>∃ acc,H4 D = some (.lst acc) ∧ acc.length < sizeLine ∧ Pv (i + 1) (upd H4 D (.lst (acc ++ [y]))) else Pv (i + 1) H3) (hd:∀ H,Pv xs.length H → Qd H):
  ∃ W:Nat → Nat → Hp → Prop,(∃ m,W 0 m (upd H1 D (.lst []))) ∧ ∀ i m H,W i m H →
   ((Itl K a).stop i H ∧ Qd H) ∨ ((Itl K a).go i H ∧ ∃ Nx:Hp → Prop,(∀ H',Nx H' → ∃ m',m' < m ∧ W (i + 1) m' H') ∧ ∀ x H',(Itl K a).yld i H x H' → g x (wipe σ vs) H' fun σ2 H2=>wipe σ2 vs = wipe σ vs ∧ tt σ2 H2 fun b H3=>
    if b = true then te σ2 H3 fun y H4=>∃ acc,H4 D = some (.lst acc) ∧ acc.length < sizeLine ∧ Nx (upd H4 D (.lst (acc ++ [y]))) else Nx H3):=by
 refine ⟨fun i m H=>m = xs.length - i ∧ i ≤ xs.length ∧ Pv i H,⟨xs.length,by simp,Nat.zero_le _,h0⟩,?_⟩
 rintro i m H ⟨rfl,hi,p⟩
 have q:=hl i H hi p
 by_cases hlt:i < xs.length
 ·refine .inr ⟨⟨xs,xs[i],q,by simp [hlt]⟩,Pv (i + 1),fun H' p'=>⟨xs.length - (i + 1),by omega,rfl,hlt,p'⟩,fun x H' y=>?_⟩
  obtain ⟨e,y⟩:=y
  subst e
  exact hs i x _ (y xs q) p
 ·have e:i = xs.length:=by omega
  subst e
  exact .inl ⟨⟨xs,q,Nat.le_refl _⟩,hd H p⟩
theorem lc_tup {K:PySem.W.Frag} {a:Addr} {xs:List V} {g:TG} {tt:TT} {te:TE} {vs:List Nat} {σ:St} {H1:Hp} {D:Addr} {Qd:Hp → Prop} (Pv:Nat → Hp → Prop) (h0:Pv 0 (upd H1 D (.lst []))) (hl:∀ i H,i ≤ xs.length → Pv i H → SqT K H a xs)
  (hs:∀ i x H,xs[i]? = some x → Pv i H → g x (wipe σ vs) H fun σ2 H2=>wipe σ2 vs = wipe σ vs ∧ tt σ2 H2 fun b H3=>
   if b = true then te σ2 H3 fun y H4=>∃ acc,H4 D = some (.lst acc) ∧ acc.length < sizeLine ∧ Pv (i + 1) (upd H4 D (.lst (acc ++ [y]))) else Pv (i + 1) H3) (hd:∀ H,Pv xs.length H → Qd H):
  ∃ W:Nat → Nat → Hp → Prop,(∃ m,W 0 m (upd H1 D (.lst []))) ∧ ∀ i m H,W i m H →
   ((Itt K a).stop i H ∧ Qd H) ∨ ((Itt K a).go i H ∧ ∃ Nx:Hp → Prop,(∀ H',Nx H' → ∃ m',m' < m ∧ W (i + 1) m' H') ∧ ∀ x H',(Itt K a).yld i H x H' → g x (wipe σ vs) H' fun σ2 H2=>wipe σ2 vs = wipe σ vs ∧ tt σ2 H2 fun b H3=>
    if b = true then te σ2 H3 fun y H4=>∃ acc,H4 D = some (.lst acc) ∧ acc.length < sizeLine ∧ Nx (upd H4 D (.lst (acc ++ [y]))) else Nx H3):=by
 refine ⟨fun i m H=>m = xs.length - i ∧ i ≤ xs.length ∧ Pv i H,⟨xs.length,by simp,Nat.zero_le _,h0⟩,?_⟩
 rintro i m H ⟨rfl,hi,p⟩
 have q:=hl i H hi p
 by_cases hlt:i < xs.length
 ·refine .inr ⟨⟨xs,xs[i],q,by simp [hlt]⟩,Pv (i + 1),fun H' p'=>⟨xs.length - (i + 1),by omega,rfl,hlt,p'⟩,fun x H' y=>?_⟩
  obtain ⟨e,y⟩:=y
  subst e
  exact hs i x _ (y xs q) p
 ·have e:i = xs.length:=by omega
  subst e
  exact .inl ⟨⟨xs,q,Nat.le_refl _⟩,hd H p⟩
def blkC (N:List Str) (sc scope:Scope) (own:List (Str × Nat)):Bool:=
 (match scope.kind with | .function=>true | _=>false) && (scope.names.all fun y=>decide (scope.names.lookup y.1 = some y.2)) && (own.all fun p=>decide (N[p.2]? = some p.1)) &&
  (scope.names.all fun y=>match y.2 with
   | .free=>(match sc.names.lookup y.1 with | some .cell=>true | some .free=>true | _=>false)
   | .local=>decide (y.1 ∈ own.map (·.1)) || decide (y.1 ∉ N)
   | .cell=>decide (y.1 ∈ own.map (·.1)) || decide (y.1 ∉ N)
   | _=>true)
theorem blkOk_by {N:List Str} {sc scope:Scope} {own:List (Str × Nat)} (h:blkC N sc scope own = true):BlkOk N sc scope own:=by
 unfold blkC at h
 simp only [Bool.and_eq_true,List.all_eq_true,decide_eq_true_eq] at h
 obtain ⟨⟨⟨h1,h2⟩,h3⟩,h4⟩:=h
 refine ⟨?_,h2,h3,fun y hy e=>?_,fun y hy e=>?_⟩
 ·split at h1
  ·assumption
  ·cases h1
 ·have q:=h4 y hy
  simp only [e] at q
  split at q <;> first | exact .inl (by assumption) | exact .inr (by assumption) | cases q
 ·have q:=h4 y hy
  rcases e with e | e <;> (simp only [e,Bool.or_eq_true,decide_eq_true_eq] at q; exact q)
end L2
namespace L2
open PySem PySem.Spec PyProof.Rows
section
variable {prog:Program} {w:World} {A:Around} {R:Result → Shared → Prop} {s:Shared} {elt t0 i0 t1 i1:Expr} {ifs0 ifs1:List Expr} {scope:Scope} {pos:Pos} {it acc:Value} {env:Env}
end
section
variable {X:Cx}
end
end L2
namespace L2
open PySem PySem.Spec PyProof.Rows
section
variable {κ:Type} [DecidableEq κ]
def valV (kvs:List (κ × V)) (k:κ):Option V:=(kvs.find? fun kv=>decide (kv.1 = k)).map (·.2)
def putK (kvs:List (κ × V)) (k:κ) (v:V):List (κ × V):=
 if (kvs.any fun kv=>decide (kv.1 = k)) = true then kvs.map (fun kv=>if kv.1 = k then (kv.1,v) else kv) else kvs ++ [(k,v)]
def dropK (kvs:List (κ × V)) (k:κ):List (κ × V):=kvs.filter fun kv=>decide (kv.1 ≠ k)
theorem valV_nil {k:κ}:valV ([]:List (κ × V)) k = none:=rfl
theorem valV_pos {p:κ × V} {r:List (κ × V)} {k:κ} (e:p.1 = k):valV (p :: r) k = some p.2:=by simp [valV,List.find?_cons,e]
theorem valV_neg {p:κ × V} {r:List (κ × V)} {k:κ} (e:¬ p.1 = k):valV (p :: r) k = valV r k:=by simp [valV,List.find?_cons,e]
theorem valV_any (k:κ):∀ kvs:List (κ × V),(kvs.any fun kv=>decide (kv.1 = k)) = (valV kvs k).isSome
 | []=>rfl
 | p :: r=>by
  rw [List.any_cons]
  by_cases e:p.1 = k
  ·simp only [valV_pos e,decide_eq_true e,Bool.true_or,Option.isSome_some]
  ·rw [valV_neg e,decide_eq_false e,Bool.false_or]; exact valV_any k r
theorem valV_map (k j:κ) (y:V):∀ kvs:List (κ × V),valV (kvs.map fun kv=>if kv.1 = k then (kv.1,y) else kv) j = (valV kvs j).map fun x=>if j = k then y else x
 | []=>rfl
 | p :: r=>by
  have ih:=valV_map k j y r
  rw [List.map_cons]
  by_cases h:p.1 = k
  ·rw [if_pos h]
   by_cases e:p.1 = j
   ·rw [valV_pos (p:=(p.1,y)) e,valV_pos e,Option.map_some,if_pos (e.symm.trans h)]
   ·rw [valV_neg (p:=(p.1,y)) e,valV_neg e,ih]
  ·rw [if_neg h]
   by_cases e:p.1 = j
   ·rw [valV_pos (p:=p) e,valV_pos e,Option.map_some,if_neg (fun z=>h (e.trans z))]
   ·rw [valV_neg (p:=p) e,valV_neg e,ih]
theorem valV_snoc (k j:κ) (y:V):∀ kvs:List (κ × V),valV kvs k = none → valV (kvs ++ [(k,y)]) j = if j = k then some y else valV kvs j
 | [],_=>by
  by_cases e:k = j
  ·rw [if_pos e.symm]; exact valV_pos (p:=(k,y)) e
  ·rw [if_neg (fun z=>e z.symm)]; exact valV_neg (p:=(k,y)) e
 | p :: r,hn=>by
  rw [List.cons_append]
  have hk:¬ p.1 = k:=fun z=>by rw [valV_pos z] at hn; cases hn
  rw [valV_neg hk] at hn
  have ih:=valV_snoc k j y r hn
  by_cases e:p.1 = j
  ·rw [valV_pos e,valV_pos e,if_neg (fun z=>hk (e.trans z))]
  ·rw [valV_neg e,valV_neg e,ih]
theorem valV_put (kvs:List (κ × V)) (k j:κ) (y:V):valV (putK kvs k y) j = if j = k then some y else valV kvs j:=by
 unfold putK
 by_cases a:(kvs.any fun kv=>decide (kv.1 = k)) = true
 ·rw [if_pos a,valV_map]
  rw [valV_any] at a
  by_cases e:j = k
  ·obtain ⟨x,hx⟩:=Option.isSome_iff_exists.mp a
   rw [if_pos e,e,hx,Option.map_some,if_pos rfl]
  ·rw [if_neg e]
   cases valV kvs j with
   | none=>rfl
   | some x=>rw [Option.map_some,if_neg e]
 ·rw [if_neg a]
  refine valV_snoc k j y kvs ?_
  rw [valV_any] at a
  cases q:valV kvs k with
  | none=>rfl
  | some x=>rw [q] at a; exact (a rfl).elim
theorem length_putK (kvs:List (κ × V)) (k:κ) (v:V):(putK kvs k v).length ≤ kvs.length + 1:=by
 unfold putK
 split
 ·rw [List.length_map]; omega
 ·rw [List.length_append,List.length_cons,List.length_nil]; omega
theorem putK_new {kvs:List (κ × V)} {k:κ} (v:V) (h:valV kvs k = none):putK kvs k v = kvs ++ [(k,v)]:=by
 unfold putK
 rw [valV_any,h]
 exact if_neg (by decide)
theorem RelO.isSome_eq {o:Option V} {u:Option Value} (r:RelO o u):o.isSome = u.isSome:=by
 cases o with
 | none=>cases u with
  | none=>rfl
  | some _=>exact (show False from r).elim
 | some _=>cases u with
  | none=>exact (show False from r).elim
  | some _=>rfl
theorem KV.val {kvs:List (κ × V)} {vs:List (κ × Value)} (r:KV kvs vs) (k:κ):RelO (valV kvs k) (valueAt vs k):=by
 unfold KV at r
 induction r with
 | nil=>exact True.intro
 | @cons p q ps qs h t ih=>
  obtain ⟨h1,h2⟩:=h
  by_cases e:p.1 = k
  ·have e':q.1 = k:=h1.symm.trans e
   have b:valueAt (q :: qs) k = some q.2:=by simp [valueAt,List.find?_cons,e']
   rw [valV_pos e,b]; exact h2
  ·have e':¬ q.1 = k:=fun z=>e (h1.trans z)
   have b:valueAt (q :: qs) k = valueAt qs k:=by simp [valueAt,List.find?_cons,e']
   rw [valV_neg e,b]; exact ih
theorem KV.any {kvs:List (κ × V)} {vs:List (κ × Value)} (r:KV kvs vs) (k:κ):(kvs.any fun kv=>decide (kv.1 = k)) = vs.any fun kv=>decide (kv.1 = k):=by
 unfold KV at r
 induction r with
 | nil=>rfl
 | cons h t ih=>rw [List.any_cons,List.any_cons,ih,h.1]
theorem KV.repl {kvs:List (κ × V)} {vs:List (κ × Value)} (r:KV kvs vs) (k:κ) {y:V} {u:Value} (ry:RelV y u):
  KV (kvs.map fun kv=>if kv.1 = k then (kv.1,y) else kv) (vs.map fun kv=>if kv.1 = k then (kv.1,u) else kv):=by
 unfold KV at r ⊢
 induction r with
 | nil=>exact .nil
 | @cons p q ps qs h t ih=>
  rw [List.map_cons,List.map_cons]
  refine .cons ?_ ih
  obtain ⟨h1,h2⟩:=h
  by_cases e:p.1 = k
  ·rw [if_pos e,if_pos (h1.symm.trans e)]; exact ⟨h1,ry⟩
  ·rw [if_neg e,if_neg (fun z=>e (h1.trans z))]; exact ⟨h1,h2⟩
theorem KV.put {kvs:List (κ × V)} {vs:List (κ × Value)} (r:KV kvs vs) (k:κ) {y:V} {u:Value} (ry:RelV y u):KV (putK kvs k y) (stored vs k u):=by
 unfold putK stored
 rw [r.any k]
 by_cases e:(vs.any fun kv=>decide (kv.1 = k)) = true
 ·rw [if_pos e,if_pos e]; exact r.repl k ry
 ·rw [if_neg e,if_neg e]; exact Paired.snoc r ⟨rfl,ry⟩
theorem KV.length {kvs:List (κ × V)} {vs:List (κ × Value)} (r:KV kvs vs):kvs.length = vs.length:=Paired.length r
end
theorem kV_is {P:Program} {w:World} {k:Key} {u:Value} (r:RelV (kV k) u):(mixKind P w).is k u = true:=by
 cases k with
 | inl i=>obtain ⟨t,e⟩:=(show ∃ t,u = Value.int i t from r); subst e; exact mixKind_int P w i t
 | inr x=>obtain ⟨t,e⟩:=(show ∃ t,u = Value.str x t from r); subst e; exact mixKind_str P w x t
theorem items_are {P:Program} {w:World}:∀ {ks:List Key} {us:List Value},Vals (ks.map kV) us → ItemsAre (mixKind P w) ks us
 | [],_,r=>by rw [List.map_nil] at r; cases r; exact .nil
 | k :: ks,_,r=>by
  rw [List.map_cons] at r
  cases r with
  | cons h t=>exact .cons (kV_is h) (items_are t)
abbrev KT (H:Hp):List (List Key × V) → List (List Key × Addr × Value) → Prop:=Paired fun p q=>p.1 = q.1 ∧ H q.2.1 = some (.tup (p.1.map kV)) ∧ RelV p.2 q.2.2
theorem KT.val {H:Hp} {kvs:List (List Key × V)} {xs:List (List Key × Addr × Value)} (r:KT H kvs xs) (k:List Key):RelO (valV kvs k) ((atKey xs k).map (·.2)):=by
 induction r with
 | nil=>exact True.intro
 | @cons p q ps qs h t ih=>
  obtain ⟨h1,_,h2⟩:=h
  by_cases e:p.1 = k
  ·have e':q.1 = k:=h1.symm.trans e
   have b:atKey (q :: qs) k = some q.2:=by simp [atKey,List.find?_cons,e']
   rw [valV_pos e,b]; exact h2
  ·have e':¬ q.1 = k:=fun z=>e (h1.trans z)
   have b:atKey (q :: qs) k = atKey qs k:=by simp [atKey,List.find?_cons,e']
   rw [valV_neg e,b]; exact ih
theorem KT.repl {H:Hp} {kvs:List (List Key × V)} {xs:List (List Key × Addr × Value)} (r:KT H kvs xs) (k:List Key) {y:V} {u:Value} (ry:RelV y u):
  KT H (kvs.map fun kv=>if kv.1 = k then (kv.1,y) else kv) (xs.map (putAt k u)):=by
 induction r with
 | nil=>exact .nil
 | @cons p q ps qs h t ih=>
  rw [List.map_cons,List.map_cons]
  refine .cons ?_ ih
  obtain ⟨h1,h2,h3⟩:=h
  unfold putAt
  by_cases e:p.1 = k
  ·rw [if_pos e,if_pos (h1.symm.trans e)]; exact ⟨h1,h2,ry⟩
  ·rw [if_neg e,if_neg (fun z=>e (h1.trans z))]; exact ⟨h1,h2,h3⟩
theorem KT.put {H:Hp} {kvs:List (List Key × V)} {xs:List (List Key × Addr × Value)} (r:KT H kvs xs) (k:List Key) {b:Addr} {y:V} {u:Value} (hb:H b = some (.tup (k.map kV))) (ry:RelV y u):
  KT H (putK kvs k y) (storedH xs k b u):=by
 have e:(kvs.any fun kv=>decide (kv.1 = k)) = (atKey xs k).isSome:=by
  rw [valV_any,(r.val k).isSome_eq,Option.isSome_map]
 unfold putK storedH
 rw [e]
 by_cases q:(atKey xs k).isSome = true
 ·rw [if_pos q,if_pos q]; exact r.repl k ry
 ·rw [if_neg q,if_neg q]; exact Paired.snoc r ⟨rfl,hb,ry⟩
theorem KT.keeps {H H':Hp} {kvs:List (List Key × V)} {xs:List (List Key × Addr × Value)} (r:KT H kvs xs) (ht:∀ b ys,H b = some (.tup ys) → H' b = some (.tup ys)):KT H' kvs xs:=
 Paired.mapP r fun _ _ z=>⟨z.1,ht _ _ z.2.1,z.2.2⟩
section
variable {P:Program} {w:World} {H:Hp} {h:Heap} {a:Addr}
theorem rd_of {u:HO} (ok:HOk P w H h) (e:Rd H a u):ObjOk P w H h a u:=e.ok ok
theorem dk_rd {kvs:List (Key × V)} (ok:HOk P w H h) (e:Rd H a (.dK kvs)):kvs.length ≤ sizeLine ∧ (a == sysModules) = false ∧ ∃ vs,KV kvs vs ∧ h.DictOf (mixKind P w) a vs:=
 show ObjOk P w H h a (.dK kvs) from rd_of ok e
theorem dk_of {kvs:List (Key × V)} (ok:HOk P w H h) (e:H a = some (.dK kvs)):kvs.length ≤ sizeLine ∧ (a == sysModules) = false ∧ ∃ vs,KV kvs vs ∧ h.DictOf (mixKind P w) a vs:=dk_rd ok (.inl e)
theorem key_of {ks:List Key} (ok:HOk P w H h) (e:H a = some (.tup (ks.map kV))):(tupleKind (mixKind P w)).is h ks a:=by
 obtain ⟨_,its,r,o,h1,h2,n,h3⟩:=(show ObjOk P w H h a (.tup (ks.map kV)) from ok a _ e)
 exact ⟨o,its.toArray,n,h1,h2,h3,by simpa using items_are r⟩
theorem dt_rd {kvs:List (List Key × V)} (ok:HOk P w H h) (e:Rd H a (.dT kvs)):kvs.length ≤ sizeLine ∧ (a == sysModules) = false ∧
  ∃ xs,KT H kvs xs ∧ h.DictOfH (tupleKind (mixKind P w)) a xs:=by
 obtain ⟨z,y,xs,r,o,es,ep,h1,h2,h3,h4,h5⟩:=(show ObjOk P w H h a (.dT kvs) from rd_of ok e)
 refine ⟨z,y,xs,r,o,es,ep,h1,h2,h3,h4,fun x hx=>?_,h5⟩
 have all:∀ {l:List (List Key × V)} {m:List (List Key × Addr × Value)},KT H l m → ∀ x ∈ m,(tupleKind (mixKind P w)).is h x.1 x.2.1:=by
  intro l m q
  induction q with
  | nil=>intro x hx; exact nomatch hx
  | @cons p q ps qs hq t ih=>
   intro x hx
   rcases List.mem_cons.mp hx with e | hx
   ·subst e
    exact key_of ok (by rw [← hq.1]; exact hq.2.1)
   ·exact ih x hx
 exact all r x hx
theorem dt_of {kvs:List (List Key × V)} (ok:HOk P w H h) (e:H a = some (.dT kvs)):kvs.length ≤ sizeLine ∧ (a == sysModules) = false ∧
  ∃ xs,KT H kvs xs ∧ h.DictOfH (tupleKind (mixKind P w)) a xs:=dt_rd ok (.inl e)
end
def DGet (H:Hp) (a:Addr) (y:V) (r:Option V):Prop:=
 (∃ kvs k,Rd H a (.dK kvs) ∧ y = kV k ∧ r = valV kvs k) ∨ ∃ kvs k b,Rd H a (.dT kvs) ∧ y = .ref b ∧ H b = some (.tup (k.map kV)) ∧ r = valV kvs k
def DPut (H:Hp) (a:Addr) (y v:V) (H':Hp):Prop:=
 (∃ kvs k,H a = some (.dK kvs) ∧ y = kV k ∧ kvs.length < sizeLine ∧ H' = upd H a (.dK (putK kvs k v))) ∨
 ∃ kvs k b,H a = some (.dT kvs) ∧ y = .ref b ∧ H b = some (.tup (k.map kV)) ∧ kvs.length < sizeLine ∧ H' = upd H a (.dT (putK kvs k v))
theorem DGet.t {H:Hp} {a b:Addr} {kvs:List (List Key × V)} {k:List Key} (e:H a = some (.dT kvs)) (eb:H b = some (.tup (k.map kV))):DGet H a (.ref b) (valV kvs k):=.inr ⟨kvs,k,b,.inl e,rfl,eb,rfl⟩
theorem DPut.k {H:Hp} {a:Addr} {kvs:List (Key × V)} {k:Key} {v:V} (e:H a = some (.dK kvs)) (hl:kvs.length < sizeLine):DPut H a (kV k) v (upd H a (.dK (putK kvs k v))):=.inl ⟨kvs,k,e,rfl,hl,rfl⟩
theorem DPut.t {H:Hp} {a b:Addr} {kvs:List (List Key × V)} {k:List Key} {v:V} (e:H a = some (.dT kvs)) (eb:H b = some (.tup (k.map kV))) (hl:kvs.length < sizeLine):
  DPut H a (.ref b) v (upd H a (.dT (putK kvs k v))):=.inr ⟨kvs,k,b,e,rfl,eb,hl,rfl⟩
section
variable {X:Cx} {pins:List (Addr × Obj)} {σ:St} {H:Hp} {s:Shared} {a:Addr} {y v:V} {u r:Value} {o:Option V} {A:Around} {E:Value → Shared → Prop}
theorem Inv.big (I:Inv X pins σ H s):sysModules < s.heap.objs.size:=by
 have h:mainGlobals < s.heap.objs.size:=(I.mod.glob.keeps I.bk).lt
 exact Nat.lt_trans (by decide) h
theorem d_getItem {Q:Value → Shared → Prop} (hu:A.units + 1 < cLine) (I:Inv X pins σ H s) (g:DGet H a y (some v)) (ry:RelV y u) (h:∀ w' s',Inv X pins σ H s' → RelV v w' → Q w' s'):
  wpAny (model X.prog X.w) A (getItem (.ref a) u) Q E s:=by
 rcases g with ⟨kvs,k,e,ey,l⟩ | ⟨kvs,k,b,e,ey,eb,l⟩
 ·subst ey
  obtain ⟨z,hd,vs,rel,dd⟩:=dk_rd I.hok e
  obtain ⟨w',hw,rw'⟩:=RelO.some_of (v:=v) (o:=valueAt vs k) (by rw [l]; exact rel.val k)
  exact wpAny_getItem_of (kV_is ry) dd.mapOf hw (h w' _ (I.tok _) rw')
 ·subst ey
  cases (show u = Value.ref b from ry)
  obtain ⟨z,hd,xs,rel,dd⟩:=dt_rd I.hok e
  obtain ⟨w',hw,rw'⟩:=RelO.some_of (v:=v) (o:=(atKey xs k).map (·.2)) (by rw [l]; exact rel.val k)
  obtain ⟨p,hp,hp2⟩:=Option.map_eq_some_iff.mp hw
  refine wpAny_getItem_heap (tupleKind_room_in1 hu) (key_of I.hok eb) dd hp ?_
  rw [hp2]
  exact h w' _ (I.tok _) rw'
theorem d_in {Q:Value → Shared → Prop} (hu:A.units + 1 < cLine) (I:Inv X pins σ H s) (g:DGet H a y o) (ry:RelV y u) (h:∀ s',Inv X pins σ H s' → Q (.bool o.isSome) s'):
  wpAny (model X.prog X.w) A (compareOp .In u (.ref a)) Q E s:=by
 rcases g with ⟨kvs,k,e,ey,l⟩ | ⟨kvs,k,b,e,ey,eb,l⟩
 ·subst ey
  obtain ⟨z,hd,vs,rel,dd⟩:=dk_rd I.hok e
  refine wpAny_in_of (kV_is ry) hd dd.mapOf ?_
  rw [← (rel.val k).isSome_eq,← l]
  exact h _ (I.tok _)
 ·subst ey
  cases (show u = Value.ref b from ry)
  obtain ⟨z,hd,xs,rel,dd⟩:=dt_rd I.hok e
  refine wpAny_in_heap (tupleKind_room_in1 hu) (key_of I.hok eb) hd dd ?_
  have q:=(rel.val k).isSome_eq
  rw [Option.isSome_map] at q
  rw [← q,← l]
  exact h _ (I.tok _)
theorem d_notIn {Q:Value → Shared → Prop} (hu:A.units + 1 < cLine) (I:Inv X pins σ H s) (g:DGet H a y o) (ry:RelV y u) (h:∀ s',Inv X pins σ H s' → Q (.bool (!o.isSome)) s'):
  wpAny (model X.prog X.w) A (compareOp .NotIn u (.ref a)) Q E s:=by
 rcases g with ⟨kvs,k,e,ey,l⟩ | ⟨kvs,k,b,e,ey,eb,l⟩
 ·subst ey
  obtain ⟨z,hd,vs,rel,dd⟩:=dk_rd I.hok e
  refine wpAny_notIn_of (kV_is ry) hd dd.mapOf ?_
  rw [← (rel.val k).isSome_eq,← l]
  exact h _ (I.tok _)
 ·subst ey
  cases (show u = Value.ref b from ry)
  obtain ⟨z,hd,xs,rel,dd⟩:=dt_rd I.hok e
  refine wpAny_notIn_heap (tupleKind_room_in1 hu) (key_of I.hok eb) hd dd ?_
  have q:=(rel.val k).isSome_eq
  rw [Option.isSome_map] at q
  rw [← q,← l]
  exact h _ (I.tok _)
theorem d_write {h':Heap} {t':Nat} {ob:HO} (I:Inv X pins σ H s) (mu:Mut (H a)) (hs:Heap.SameBut a s.heap h') (he:∃ q,h'.get? a = some q) (new:ObjOk X.prog X.w (upd H a ob) h' a ob):
  Inv X pins σ (upd H a ob) { s with heap:=h',toks:=t' }:=
 I.write (x:=a) (e:=a) mu (.inl rfl) (fun b q hb z=>(hs.2 b hb).trans z) he new
theorem dk_new {P:Program} {w:World} {H':Hp} {h':Heap} {kvs:List (Key × V)} {vs:List (Key × Value)} (z:kvs.length ≤ sizeLine) (hd:(a == sysModules) = false) (rel:KV kvs vs) (dd:h'.DictOf (mixKind P w) a vs):
  ObjOk P w H' h' a (.dK kvs):=⟨z,hd,vs,rel,dd⟩
theorem d_setItem {H':Hp} {Q:Unit → Shared → Prop} (hu:A.units + 1 < cLine) (I:Inv X pins σ H s) (g:DPut H a y v H') (ry:RelV y u) (rv:RelV v r) (h:∀ s',Inv X pins σ H' s' → Q () s'):
  wpAny (model X.prog X.w) A (setItem (.ref a) u r) Q E s:=by
 rcases g with ⟨kvs,k,e,ey,l,eH⟩ | ⟨kvs,k,b,e,ey,eb,l,eH⟩
 ·subst ey eH
  obtain ⟨z,hd,vs,rel,dd⟩:=dk_of I.hok e
  have hz:vs.length ≤ sizeLine:=by rw [← rel.length]; exact z
  have hl:(putK kvs k v).length ≤ sizeLine:=by have:=length_putK kvs k v; omega
  refine wpAny_setItem_pairs (hsz:=hz) (kV_is ry) dd fun h' dd' hs=>h _ ?_
  have he:∃ q,h'.get? a = some q:=let ⟨q,_,_,hq,_⟩:=dd'; ⟨q,hq⟩
  exact d_write I (by rw [e]; exact True.intro) hs he (dk_new hl hd (rel.put k rv) dd')
 ·subst ey eH
  cases (show u = Value.ref b from ry)
  obtain ⟨z,hd,xs,rel,dd⟩:=dt_of I.hok e
  have hz:xs.length ≤ sizeLine:=by rw [← Paired.length rel]; exact z
  have hl:(putK kvs k v).length ≤ sizeLine:=by have:=length_putK kvs k v; omega
  refine wpAny_setItem_heap (hsz:=hz) (tupleKind_room_in1 hu) (key_of I.hok eb) dd fun h' dd' hs=>h _ ?_
  obtain ⟨q,es,ep,hq,h2,h3,h4,_,h5⟩:=dd'
  refine d_write I (by rw [e]; exact True.intro) hs ⟨q,hq⟩ ⟨hl,hd,_,(rel.put k eb rv).keeps fun c ys ec=>?_,q,es,ep,hq,h2,h3,h4,h5⟩
  rw [upd_ne (ne_of ec e (fun z=>nomatch z))]
  exact ec
end
section
variable {X:Cx} {pins:List (Addr × Obj)} {σ:St} {H:Hp} {s:Shared} {a:Addr} {kvs:List (Key × V)} {k:Key} {u:Value} {A:Around} {E:Value → Shared → Prop}
end
def NoSl (i:Expr):Prop:=∀ ov iv,subscripted i false ov iv = operate [ov,iv] (getItem ov iv)
theorem subD_of {prog:Program} {w:World} {A:Around} {E:Value → Shared → Prop} {s:Shared} {env:Env} {value slice:Expr} {pos:Pos} {T id:String} {Q:Value → Shared → Prop}
  (hl:typeLookup (.type T) "__getitem__" = pure (some (.builtin id))) (hs:NoSl slice)
  (h:wpAny (model prog w) A (eval value env) (fun o s₁=>wpAny (model prog w) A (eval slice env) (fun i s₂=>s₂.TypeIs o T ∧ wpAny (model prog w) A (getItem o i) Q E s₂) E s₁) E s):
  wpAny (model prog w) A (eval (.Subscript value slice pos) env) Q E s:=by
 refine Subscript_ (wpAny_mono h (fun o s₁ h₁=>wpAny_mono h₁ (fun i s₂ h₂=>?_) fun _ _ x=>x) fun _ _ x=>x)
 obtain ⟨hT,h₂⟩:=h₂
 unfold subscriptTail
 refine wpAny_bind ?_
 rw [getitemInPython_of_ne hT.not_modules]
 refine wpAny_bind (wpAny_specialOf hT hl ?_)
 have fin:wpAny (model prog w) A (subscripted slice false o i) (fun r s₃=>wpAny (model prog w) A (letTemporaryGo value o r >>= fun _=>pure r) Q E s₃) E s₂:=by
  rw [hs o i]
  exact wpAny_operating (wpAny_mono h₂ (fun r s₃ h₃=>wpAny_bind (wpAny_letTemporaryGo (wpAny_pure h₃))) fun _ _ x=>x)
 first
  | exact wpAny_pure (wpAny_bind fin)
  | exact wpAny_bind (wpAny_pure (wpAny_bind fin))
  | exact wpAny_bind fin
theorem dict_typeIs {X:Cx} {pins:List (Addr × Obj)} {σ:St} {H:Hp} {s:Shared} {a:Addr} {y:V} {o:Option V} (I:Inv X pins σ H s) (g:DGet H a y o):s.TypeIs (.ref a) "dict":=by
 rcases g with ⟨kvs,k,e,_,_⟩ | ⟨kvs,k,b,e,_,_,_⟩
 ·obtain ⟨_,_,vs,_,dd⟩:=dk_rd I.hok e
  exact dd.typeIs
 ·obtain ⟨_,_,xs,_,dd⟩:=dt_rd I.hok e
  exact dd.typeIs
def tDGet (td ty:TE):TE:=fun σ H Q=>td σ H fun x H1=>ty σ H1 fun y H2=>∃ a v,x = .ref a ∧ DGet H2 a y (some v) ∧ Q v H2
def tDIn (ty td:TE):TE:=fun σ H Q=>ty σ H fun y H1=>td σ H1 fun x H2=>∃ a o,x = .ref a ∧ DGet H2 a y o ∧ Q (.bl o.isSome) H2
def tDNotIn (ty td:TE):TE:=fun σ H Q=>ty σ H fun y H1=>td σ H1 fun x H2=>∃ a o,x = .ref a ∧ DGet H2 a y o ∧ Q (.bl (!o.isSome)) H2
def sDPut (td ty tv:TE):TS:=fun D σ H=>tv σ H fun v H1=>td σ H1 fun x H2=>ty σ H2 fun y H3=>∃ a H4,x = .ref a ∧ DPut H3 a y v H4 ∧ D.nx σ H4
section
variable {X:Cx} {o i e value:Expr} {pos pos' tpos:Pos} {td ty tv:TE}
theorem pe_dget (hu:X.A.units + 1 < cLine) (ho:PE X o td) (hi:PE X i ty) (hs:NoSl i):PE X (.Subscript o i pos) (tDGet td ty):=by
 intro pins s σ H Q I h
 refine subD_of PySem.F.slot_dict_getitem.lookup hs (thn (ho pins s σ H _ I h) fun u s1 ⟨x,H1,I1,rx,q1⟩=>thn (hi pins s1 σ H1 _ I1 q1) fun iv s2 ⟨y,H2,I2,ry,a,v,ex,g,q2⟩=>?_)
 subst ex
 obtain rfl:u = Value.ref a:=rx
 exact ⟨dict_typeIs I2 g,d_getItem hu I2 g ry fun w' s3 I3 rw'=>⟨v,H2,I3,rw',q2⟩⟩
theorem pc_din (hu:X.A.units + 1 < cLine) (hi:PE X i ty) (ho:PE X o td):PC X .In i o (tDIn ty td):=by
 intro pins s σ H Q I h
 refine thn (hi pins s σ H _ I h) fun iv s1 ⟨y,H1,I1,ry,q1⟩=>thn (ho pins s1 σ H1 _ I1 q1) fun u s2 ⟨x,H2,I2,rx,a,ov,ex,g,q2⟩=>?_
 subst ex
 obtain rfl:u = Value.ref a:=rx
 exact d_in hu I2 g ry fun s3 I3=>⟨.bl ov.isSome,H2,I3,rfl,q2⟩
theorem pc_dnotin (hu:X.A.units + 1 < cLine) (hi:PE X i ty) (ho:PE X o td):PC X .NotIn i o (tDNotIn ty td):=by
 intro pins s σ H Q I h
 refine thn (hi pins s σ H _ I h) fun iv s1 ⟨y,H1,I1,ry,q1⟩=>thn (ho pins s1 σ H1 _ I1 q1) fun u s2 ⟨x,H2,I2,rx,a,ov,ex,g,q2⟩=>?_
 subst ex
 obtain rfl:u = Value.ref a:=rx
 exact d_notIn hu I2 g ry fun s3 I3=>⟨.bl (!ov.isSome),H2,I3,rfl,q2⟩
theorem ps_dput (hu:X.A.units + 1 < cLine) (ho:PE X o td) (hi:PE X i ty) (hv:PE X value tv) (hs:swapsWith value (some (.Subscript o i pos')) pos.line X.env = pure false):
  PS X (.Assign [.Subscript o i pos'] value pos) (sDPut td ty tv):=by
 intro pins s σ H D I h
 refine wpAny_Assign_Subscript (thn (hv pins s σ H _ I h) fun r s1 ⟨v,H1,I1,rv,q1⟩=>thn (ho pins s1 σ H1 _ I1 q1) fun u s2 ⟨x,H2,I2,rx,q2⟩=>thn (hi pins s2 σ H2 _ I2 q2) fun iv s3 ⟨y,H3,I3,ry,a,H4,ex,g,q3⟩=>?_) hs
 subst ex
 obtain rfl:u = Value.ref a:=rx
 exact d_setItem hu I3 g ry rv fun s4 I4=>⟨σ,H4,I4,q3⟩
end
theorem dk_empty {P:Program} {w:World} {H:Hp} (h:Heap) (hb:sysModules < h.objs.size):ObjOk P w H (h.push { cls:=.type "dict",data:=.dict #[] }) h.objs.size (.dK []):=
 ⟨Nat.zero_le _,beq_eq_false_iff_ne.mpr (Ne.symm (Nat.ne_of_lt hb)),[],.nil,Heap.DictOf.new h⟩
theorem dt_empty {P:Program} {w:World} {H:Hp} (h:Heap) (hb:sysModules < h.objs.size):ObjOk P w H (h.push { cls:=.type "dict",data:=.dict #[] }) h.objs.size (.dT []):=
 ⟨Nat.zero_le _,beq_eq_false_iff_ne.mpr (Ne.symm (Nat.ne_of_lt hb)),[],.nil,_,#[],0,Heap.get?_push_size _ rfl,⟨rfl,rfl,rfl⟩,rfl,rfl,List.nodup_nil⟩
def tDNewK:TE:=fun _ H Q=>∀ p,H p = none → Q (.ref p) (upd H p (.dK []))
def tDNewT:TE:=fun _ H Q=>∀ p,H p = none → Q (.ref p) (upd H p (.dT []))
section
variable {X:Cx} {pos:Pos}
theorem pe_dnewK:PE X (.Dict [] [] pos) tDNewK:=fun pins s σ H Q I h=>
 wpAny_Dict_empty ⟨.ref s.heap.objs.size,_,I.laid (a:=s.heap.objs.size) (o:=.dK []) (t':=s.toks) (fun _ _ q=>Heap.get?_push_of_some _ q) (Nat.le_refl _) (dk_empty s.heap I.big),rfl,h _ (I.hok.fresh (Nat.le_refl _))⟩
theorem pe_dnewT:PE X (.Dict [] [] pos) tDNewT:=fun pins s σ H Q I h=>
 wpAny_Dict_empty ⟨.ref s.heap.objs.size,_,I.laid (a:=s.heap.objs.size) (o:=.dT []) (t':=s.toks) (fun _ _ q=>Heap.get?_push_of_some _ q) (Nat.le_refl _) (dt_empty s.heap I.big),rfl,h _ (I.hok.fresh (Nat.le_refl _))⟩
end
structure M2 (X:Cx) (o:Expr) (m:Str) (apos:Pos) (e f:Expr) (cpos:Pos):Prop where
 base:attributeBase o m X.env (eval o X.env) = eval o X.env
 few:((backTo cpos (starEach [e,f] X.env)).all (fun x=>!x.1) && (backToKw cpos (keywordEach [] X.env)).all (fun x=>x.1.isSome)
  && decide (([e,f]:List Expr).length + ([]:List Keyword).length + (if ([]:List Keyword).isEmpty then 0 else 1) < 30)) = true
 line:(apos.endLine == cpos.line) = true
 trees:backTo cpos (starEach [e,f] X.env) = [(false,eval e X.env),(false,eval f X.env)]
section
variable {X:Cx} {pins:List (Addr × Obj)} {σ:St} {H:Hp} {s:Shared} {a:Addr} {y d:V} {u r:Value} {o:Option V} {A:Around} {E:Value → Shared → Prop}
end
section
variable {X:Cx} {o e f:Expr} {apos cpos:Pos} {td ty tx:TE}
end
section
variable {X:Cx} {pins:List (Addr × Obj)} {σ:St} {H:Hp} {s:Shared} {a:Addr} {kvs:List (Key × V)} {A:Around} {E:Value → Shared → Prop}
end
section
variable {X:Cx} {pins:List (Addr × Obj)} {σ:St} {H:Hp} {s:Shared} {a:Addr} {y:V} {u:Value} {A:Around} {E:Value → Shared → Prop}
end
end L2
namespace L2
open PySem PySem.Spec PyProof.Rows
section
variable {prog:Program} {w:World} {A:Around} {E:Value → Shared → Prop}
end
section
variable {X:Cx}
end
end L2
namespace L2
open PySem PySem.Spec PyProof.Rows
section
variable {X:Cx} {pins:List (Addr × Obj)} {σ:St} {H:Hp} {s:Shared} {h':Heap}
theorem Inv.turnedL {t':Nat} {ch:List Addr} (I:Inv X pins σ H s) (k:∀ b o,b ∉ ch → s.heap.get? b = some o → h'.get? b = some o) (hf:∀ b ∈ ch,FpOk X pins H b):Inv X pins σ H { s with heap:=h',toks:=t' }:=by
 have nit:∀ b u,H b = some u → b ∉ ch:=fun b u e z=>by
  have q:=(hf b z).1
  rw [q] at e; cases e
 refine I.step (g':=s.gens) (d':=s.drawn) (ch:=ch) (fun b hb=>⟨(hf b hb).2.2.2.1,(hf b hb).2.1,(hf b hb).2.2.2.2.1,(hf b hb).2.2.2.2.2⟩) (fun b o _ _ hc e _=>k b o hc e) (fun b o _ _ hc e _=>⟨o.slots,k b o hc e⟩)
  (fun _ _ _ _ n=>n) (fun b o hc e=>⟨o,k b o hc e⟩) (fun _ _ e=>e) (fun _ _ _ e=>e) (fun b ps e=>⟨#[],by rw [e]; simp⟩) (fun m hm=>?_) (fun b u e=>?_) I.bare
 ·obtain ⟨o,es,ep,ho,r⟩:=hm
  exact ⟨o,es,ep,k _ o (fun z=>(hf _ z).2.1 rfl) ho,r⟩
 ·refine (I.hok b u e).stay (fun c v hc q=>k c v ?_ q) (fun _ q=>q) fun _ _ q=>q
  rcases hc with z | z
  ·rw [z]; exact nit b u e
  ·exact nit c _ z
theorem Inv.turnedNew {t':Nat} {ch:List Addr} {T:Addr} {ob:HO} (I:Inv X pins σ H s) (k:∀ b o,b ∉ ch → s.heap.get? b = some o → h'.get? b = some o) (hf:∀ b ∈ ch,FpOk X pins H b) (hT:s.heap.objs.size ≤ T)
  (new:ObjOk X.prog X.w (upd H T ob) h' T ob):Inv X pins σ (upd H T ob) { s with heap:=h',toks:=t' }:=by
 have hn:H T = none:=I.hok.fresh hT
 have nit:∀ b u,H b = some u → b ∉ ch:=fun b u e z=>by
  have q:=(hf b z).1
  rw [q] at e; cases e
 refine I.step (g':=s.gens) (d':=s.drawn) (ch:=ch) (fun b hb=>⟨(hf b hb).2.2.2.1,(hf b hb).2.1,(hf b hb).2.2.2.2.1,(hf b hb).2.2.2.2.2⟩) (fun b o _ _ hc e _=>k b o hc e) (fun b o _ _ hc e _=>⟨o.slots,k b o hc e⟩)
  (fun b o _ e n=>?_) (fun b o hc e=>⟨o,k b o hc e⟩) (fun b xs e=>?_) (fun b o u e=>?_) (fun b ps e=>⟨#[],?_⟩) (fun m hm=>?_) (fun b u e=>?_) I.bare
 ·rw [upd_ne (Nat.ne_of_lt (Nat.lt_of_lt_of_le (Heap.lt_size e) hT))]; exact n
 ·rw [upd_ne (ne_of_none e hn)]; exact e
 ·rw [upd_ne (ne_of_none e hn)]; exact e
 ·rw [upd_ne (ne_of_none e hn),e]; simp
 ·obtain ⟨o,es,ep,ho,r⟩:=hm
  exact ⟨o,es,ep,k _ o (fun z=>(hf _ z).2.1 rfl) ho,r⟩
 ·by_cases hb:b = T
  ·subst hb
   rw [upd_same] at e
   cases e
   exact new
  ·rw [upd_ne hb] at e
   refine (I.hok b u e).stay (fun c v hc q=>k c v ?_ q) (fun c q=>by rw [upd_ne (ne_of_none q hn)]; exact q) fun c xs q=>by rw [upd_ne (ne_of_none q hn)]; exact q
   rcases hc with z | z
   ·rw [z]; exact nit b u e
   ·exact nit c _ z
end
def tLock (t:TS):TS:=fun D σ H=>∃ d u,H d = some u ∧ Mut (some u) ∧ ∀ od,t ⟨fun σ' H'=>H' d = some (.frz od u) ∧ D.nx σ' (upd H' d u),fun v H'=>H' d = some (.frz od u) ∧ D.rt v (upd H' d u),fun σ' H'=>H' d = some (.frz od u) ∧ D.bk σ' (upd H' d u),fun σ' H'=>H' d = some (.frz od u) ∧ D.ct σ' (upd H' d u)⟩ σ (upd H d (.frz od u))
def tLockE (t:TE):TE:=fun σ H Q=>∃ d u,H d = some u ∧ Mut (some u) ∧ ∀ od,t σ (upd H d (.frz od u)) fun v H'=>H' d = some (.frz od u) ∧ Q v (upd H' d u)
section
variable {X:Cx}
end
def RgC (i j c:Int) (n:Nat):Prop:=c ≠ 0 ∧ c.natAbs < 1073741824 ∧ Builtin.Range.small i j c = true ∧ Builtin.Range.rangeSize i j c = n
section
variable {X:Cx} {tg:Expr}
end
section
variable {X:Cx} {tg:Expr}
end
section
variable {prog:Program} {w:World} {A:Around} {E:Value → Shared → Prop} {s:Shared}
end
section
variable {X:Cx} {pins:List (Addr × Obj)} {σ:St} {H:Hp} {s:Shared} {d:Addr} {o:Obj}
end
def Itd (d:Addr) (o:Obj) (kvs:List (Key × V)):It:=
 ⟨fun i H=>H d = some (.frz o (.dK kvs)) ∧ i < kvs.length,fun i H x H'=>H' = H ∧ ∃ k,kvs[i]? = some (k,x),fun i H=>H d = some (.frz o (.dK kvs)) ∧ kvs.length ≤ i⟩
section
variable {P:Program} {w:World} {K:PySem.W.Frag} {tg:Expr} {d:Addr} {o:Obj} {es:Array DictEntry} {ep:Nat}
end
def iVals (td:TE):TI:=fun σ H R=>td σ H fun x H1=>∃ d o kvs,x = .ref d ∧ H1 d = some (.frz o (.dK kvs)) ∧ R (Itd d o kvs) H1
section
variable {X:Cx} {tg e:Expr} {td:TE} {apos cpos:Pos}
end
end L2
section
namespace Bits
open PySem PyProof.Rows
end Bits
end
section
namespace TL
open PySem PySem.Builtin PySem.Builtin.Str PySem.StrLaws
abbrev tl (x:Str):List Nat:=x.cps.toList
def pre (S l:List Nat):Bool:=l.take S.length == S
def par (S:List Nat):List Nat → List Nat → Option (List Nat × List Nat)
 | _,[]=>none
 | acc,c :: r=>if pre S (c :: r) = true then some (acc,(c :: r).drop S.length) else par S (acc ++ [c]) r
end TL
end
namespace L2
open PySem PySem.Spec PyProof.Rows
section
variable {X:Cx} {pins:List (Addr × Obj)} {σ:St} {H:Hp} {s:Shared} {Q:VK}
end
section
variable {X:Cx}
end
section
variable {X:Cx} {o e:Expr} {to te:TE}
end
end L2
namespace L2
open PySem PySem.Spec PyProof.Rows
section
variable {X:Cx}
end
end L2
namespace Att
open PySem PySem.W PySem.Calls PyProof.Rows
section
variable {prog:Program} {w:World} {A:Around} {E:Value → Shared → Prop} {s:Shared} {K:Frag}
end
end Att
namespace L2
open PySem PySem.Spec PyProof.Rows
end L2
namespace L2
open PySem PySem.Spec PyProof.Rows
end L2
namespace L2
open PySem PySem.Spec PyProof.Rows
def inClass (s:Stmt) (j:Nat):Stmt:=match s with
 | .ClassDef _ _ _ body _ _ _ _ _ _ _=>body.getD j (.Pass ⟨0,0,0,0⟩)
 | _=>.Pass ⟨0,0,0,0⟩
def defArgs (s:Stmt):Arguments:=match s with
 | .FunctionDef _ a _ _ _ _ _ _ _ _=>a
 | _=>{ posonlyargs:=[],args:=[],vararg:=none,kwonlyargs:=[],kw_defaults:=[],kwarg:=none,defaults:=[] }
def defBody (s:Stmt):List Stmt:=match s with
 | .FunctionDef _ _ b _ _ _ _ _ _ _=>b
 | _=>[]
def defScope (s:Stmt):Scope:=match s with
 | .FunctionDef _ _ _ _ _ _ sc _ _ _=>sc
 | _=>{ kind:=.function,names:=[],isGenerator:=false,isCoroutine:=false }
abbrev CX0:CXT:=fun _ _ _ _ _ _=>False
abbrev E0:XK:=fun _ _ _=>False
theorem pass0 {X:Cx}:Passes CX0 X E0:=fun _ _ _ _ _ _ _ h=>h.elim
structure Fun (K:PySem.W.Frag) (x qual:Str) (st:Stmt) (f:Addr) (fd:FuncData):Prop where
 ex:∃ (oc:Value) (od:Option Addr) (kV doc pm:Value) (an:Option Addr) (cdv ct:Value) (osl:Array (Option Value)),
  fd = PySem.W.fnOf x qual (defArgs st) (defBody st) (defScope st) .none kV doc pm an cdv ct ∧ K.lookup f = some ⟨oc,od,.func fd,osl⟩ ∧ PySem.W.codeIn K cdv qual = true
 kp:PySem.W.keepIn K (.ref f) = true
section
variable {P:Program} {w:World} {K:PySem.W.Frag} {mg:Str → Option Value} {base:Heap}
theorem Fun.ok {x qual:Str} {st:Stmt} {f:Addr} {fd:FuncData} {N ps:List Str} {k:Nat} {sp:Sp} (F:Fun K x qual st f fd) (S:FnScope N ps (defScope st)) (len:∀ vs H Q E,sp vs H Q E → vs.length = ps.length)
  (hbody:∀ (cdv:Value) (A:Around) (outer:List Env) (s:Shared) (H:Hp) (vs:List V) (Q:VK) (E:XK),Room k (A.deeper (envOfC qual (defScope st) s.heap.objs.size f cdv)) → sp vs H Q E →
   ∃ t,PSs (cxOf CX0 P w K mg base N qual (defScope st) f cdv A outer s H E).nox (defBody st) t ∧ t { nx:=fun _ H'=>Q .non H',rt:=Q } (start N vs) H):FnOk P w K mg base CX0 (k + 1) f fd ps sp:=by
 obtain ⟨oc,od,kV,doc,pm,an,cdv,ct,osl,rfl,lk,hcd⟩:=F.ex
 refine fn_of lk hcd S len fun A outer s H vs Q E hr hsp=>?_
 obtain ⟨t,h,q⟩:=hbody cdv A outer s H vs Q E hr hsp
 exact ⟨t,h.nox,q⟩
theorem Fun.binds {x qual:Str} {st:Stmt} {f:Addr} {fd:FuncData} {ps:List Str} (F:Fun K x qual st f fd)
  (h:∀ (kV doc pm:Value) (an:Option Addr) (cdv ct:Value) (us:List Value),us.length = ps.length → bindArgs (PySem.W.fnOf x qual (defArgs st) (defBody st) (defScope st) .none kV doc pm an cdv ct) ⟨us,[]⟩ = pure (ps.zip us)):Binds K fd ps []:=by
 obtain ⟨oc,od,kV,doc,pm,an,cdv,ct,osl,rfl,lk,hcd⟩:=F.ex
 exact .all (h kV doc pm an cdv ct)
theorem fun_mk {x qual:Str} {st:Stmt} {f:Addr} {oc:Value} {od an:Option Addr} {osl:Array (Option Value)} {kV doc pm cdv ct:Value} (l:K.lookup f = some ⟨oc,od,.func (PySem.W.fnOf x qual (defArgs st) (defBody st) (defScope st) .none kV doc pm an cdv ct),osl⟩)
  (c:PySem.W.codeIn K cdv qual = true) (k:PySem.W.keepIn K (.ref f) = true):Fun K x qual st f (PySem.W.fnOf x qual (defArgs st) (defBody st) (defScope st) .none kV doc pm an cdv ct):=⟨⟨oc,od,kV,doc,pm,an,cdv,ct,osl,rfl,l,c⟩,k⟩
end
theorem hu_of {A:Around} {k:Nat} (hr:Room k A):A.units + 1 < cLine:=Nat.lt_of_le_of_lt (Nat.add_le_add_left (by decide:1 ≤ 64) _) hr.units
theorem small1000 {n:Nat} (h:n ≤ 1000):n < sizeLine:=Nat.lt_of_le_of_lt h (by decide)
section
variable {X:Cx}
theorem pv (i:Nat) {x:Str} {pos:Pos} (hN:X.N[i]? = some x:=by rfl) (hv:Vis X.env.scope x:=by first | exact Or.inl rfl | exact Or.inr (Or.inl rfl) | exact Or.inr (Or.inr rfl)) (hd:(x == ("__debug__":Str)) = false:=by decide)
  (hcd:(x == ("__classdict__":Str)) = false:=by decide):PE X (.Name x pos) (tVar i):=pe_var hN hv hd hcd
end
theorem iteF {A B:Prop} (h:B):if false = true then A else B:=by
 rw [if_neg Bool.false_ne_true]
 exact h
theorem iteT {A B:Prop} (h:A):if true = true then A else B:=by
 rw [if_pos rfl]
 exact h
def Same (H H':Hp):Prop:=∀ b o,H b = some o → H' b = some o
theorem Same.refl (H:Hp):Same H H:=fun _ _ h=>h
theorem Same.trans {H H1 H2:Hp} (a:Same H H1) (b:Same H1 H2):Same H H2:=fun c o h=>b c o (a c o h)
theorem Same.free {H H':Hp} (e:Same H H') {l:Addr} (h:H' l = Option.none):H l = Option.none:=by
 cases q:H l with
 | none=>rfl
 | some o=>
  rw [e l o q] at h
  cases h
theorem Same.seq {K:PySem.W.Frag} {H H':Hp} {a:Addr} {xs:List V} (e:Same H H') (h:SqL K H a xs):SqL K H' a xs:=by
 rcases h with (h | ⟨o,h⟩) | h
 ·exact .inl (.inl (e _ _ h))
 ·exact .inl (.inr ⟨o,e _ _ h⟩)
 ·exact .inr h
section
variable {κ:Type} [DecidableEq κ]
end
end L2
end
section
section
set_option Elab.async false
set_option linter.all false
set_option maxRecDepth 100000
set_option maxHeartbeats 2000000
namespace L2
open PySem PySem.Spec PyProof.Rows
open PySem.W (WData Codec OpenSpec Well WellAll ReadsW ReadsAllW)
mutual
inductive Dw (K:PySem.W.Frag) (H:Hp):V → WData → Prop
 | non:Dw K H .non .none
 | bl (b:Bool):Dw K H (.bl b) (.bool b)
 | int (i:Int):Dw K H (.int i) (.int i)
 | str (x:Str):Dw K H (.str x) (.str x)
 | byt (b:Array UInt8):Dw K H (.byt b) (.bytes b.toList)
 | lst {a:Addr} {xs:List V} {ds:List WData}:SqL K H a xs → DwAll K H xs ds → Dw K H (.ref a) (.list ds)
 | tup {a:Addr} {xs:List V} {ds:List WData}:SqT K H a xs → DwAll K H xs ds → Dw K H (.ref a) (.tuple ds)
inductive DwAll (K:PySem.W.Frag) (H:Hp):List V → List WData → Prop
 | nil:DwAll K H [] []
 | cons {v:V} {vs:List V} {d:WData} {ds:List WData}:Dw K H v d → DwAll K H vs ds → DwAll K H (v :: vs) (d :: ds)
end
theorem dw_ints {K:PySem.W.Frag} {H:Hp}:∀ ns:List Int,DwAll K H (ns.map V.int) (ns.map WData.int)
 | []=>.nil
 | n :: r=>.cons (.int n) (dw_ints r)
theorem ints_dw {K:PySem.W.Frag} {H:Hp}:∀ (ns:List Int) (xs:List V),DwAll K H xs (ns.map WData.int) → xs = ns.map V.int
 | [],xs,h=>by
  cases h
  rfl
 | n :: r,xs,h=>by
  cases h with
  | cons h1 h2=>
   cases h1
   rw [ints_dw r _ h2] <;> rfl
section
variable {P:Program} {w:World} {K:PySem.W.Frag} {H:Hp} {h:Heap} {R:PySem.W.WRecords} {cl:Str → Option Addr}
theorem sqL_at {a:Addr} {xs:List V} (hok:HOk P w H h) (KX:K.In h) (q:SqL K H a xs):∃ (its:List Value) (o:Obj) (n:Nat),Vals xs its ∧ h.get? a = some o ∧ o.cls = .type "list" ∧ o.data = .seq its.toArray n:=by
 rcases q with q | ⟨o,its,n,e,hc,_,hd,_,hv⟩
 ·obtain ⟨_,its,n,hv,e⟩:=(show ObjOk P w H h a (.lst xs) from q.ok hok)
  exact ⟨its,_,n,hv,e,rfl,rfl⟩
 ·exact ⟨its.toList,o,n,hv,KX _ _ e,hc,by simp [hd]⟩
theorem sqT_at {a:Addr} {xs:List V} (hok:HOk P w H h) (KX:K.In h) (q:SqT K H a xs):∃ (its:List Value) (o:Obj) (n:Nat),Vals xs its ∧ h.get? a = some o ∧ o.cls = .type "tuple" ∧ o.data = .seq its.toArray n:=by
 rcases q with q | ⟨o,its,n,e,hc,hd,_,hv⟩
 ·obtain ⟨_,its,hv,o,e,hc,n,hd⟩:=(show ObjOk P w H h a (.tup xs) from q.ok hok)
  exact ⟨its,o,n,hv,e,hc,hd⟩
 ·exact ⟨its.toList,o,n,hv,KX _ _ e,hc,by simp [hd]⟩
mutual
theorem Dw.reads (hok:HOk P w H h) (KX:K.In h):∀ (d:WData) (v:V) (u:Value),Dw K H v d → RelV v u → ∃ as,ReadsW R cl h u d as
 | .none,_,_,x,r=>by
  cases x
  cases r
  exact ⟨_,ReadsW.none⟩
 | .bool b,_,_,x,r=>by
  cases x
  cases r
  exact ⟨_,ReadsW.bool b⟩
 | .int i,_,_,x,r=>by
  cases x
  obtain ⟨t,rfl⟩:=r
  exact ⟨_,ReadsW.int i t⟩
 | .str s,_,_,x,r=>by
  cases x
  obtain ⟨t,rfl⟩:=r
  exact ⟨_,ReadsW.str s t⟩
 | .bytes b,_,_,x,r=>by
  cases x
  obtain ⟨t,rfl⟩:=r
  exact ⟨_,ReadsW.bytes _ t⟩
 | .list ds,_,_,x,r=>by
  cases x with
  | lst hs ha=>
   cases r
   obtain ⟨its,o,n,rv,ho,hc,hd⟩:=sqL_at hok KX hs
   obtain ⟨as,hr⟩:=Dw.readsAll hok KX ds _ its ha rv
   exact ⟨_,ReadsW.list ho hc hd hr⟩
 | .tuple ds,_,_,x,r=>by
  cases x with
  | tup hs ha=>
   cases r
   obtain ⟨its,o,n,rv,ho,hc,hd⟩:=sqT_at hok KX hs
   obtain ⟨as,hr⟩:=Dw.readsAll hok KX ds _ its ha rv
   exact ⟨_,ReadsW.tuple ho hc hd hr⟩
 | .float _,_,_,x,_=>by cases x
 | .dict _,_,_,x,_=>by cases x
 | .bytearray _,_,_,x,_=>by cases x
 | .set _,_,_,x,_=>by cases x
 | .frozenset _,_,_,x,_=>by cases x
 | .obj _ _,_,_,x,_=>by cases x
theorem Dw.readsAll (hok:HOk P w H h) (KX:K.In h):∀ (ds:List WData) (vs:List V) (us:List Value),DwAll K H vs ds → Vals vs us → ∃ as,ReadsAllW R cl h us ds as
 | [],_,_,x,r=>by
  cases x
  cases r
  exact ⟨_,ReadsAllW.nil⟩
 | d :: ds,_,_,x,r=>by
  cases x with
  | cons h1 h2=>
   cases r with
   | cons r1 r2=>
    obtain ⟨as,q1⟩:=Dw.reads hok KX d _ _ h1 r1
    obtain ⟨bs,q2⟩:=Dw.readsAll hok KX ds _ _ h2 r2
    exact ⟨_,ReadsAllW.cons q1 q2⟩
end
end
mutual
def plW:WData → Bool
 | .none=>true
 | .bool _=>true
 | .int _=>true
 | .str _=>true
 | .bytes _=>true
 | .list xs=>plWs xs
 | .tuple xs=>plWs xs
 | _=>false
def plWs:List WData → Bool
 | []=>true
 | x :: r=>plW x && plWs r
end
theorem plWs_map {α:Type} {f:α → WData} (h:∀ a,plW (f a) = true):∀ l:List α,plWs (l.map f) = true
 | []=>rfl
 | x :: r=>by
  show (plW (f x) && plWs (r.map f)) = true
  rw [h x,plWs_map h r] <;> rfl
theorem pl_enc:∀ (c:Codec) (a:c.denote),plW (c.enc a) = true
 | .unit,_=>rfl
 | .bool,_=>rfl
 | .int _ _,_=>rfl
 | .nat _ _,_=>rfl
 | .u8,_=>rfl
 | .bytes _ _,_=>rfl
 | .text _ _ _ _,_=>rfl
 | .list _ _ c,a=>plWs_map (fun x=>pl_enc c x) a
 | .pair c d,a=>by
  show (plW (c.enc a.1) && (plW (d.enc a.2) && true)) = true
  rw [pl_enc c a.1,pl_enc d a.2] <;> rfl
 | .triple c d e,a=>by
  show (plW (c.enc a.1) && (plW (d.enc a.2.1) && (plW (e.enc a.2.2) && true))) = true
  rw [pl_enc c a.1,pl_enc d a.2.1,pl_enc e a.2.2] <;> rfl
 | .option c,none=>rfl
 | .option c,some x=>pl_enc c x
theorem pl_encAll:∀ (cs:List Codec) (a:Codec.denoteAll cs),plWs (Codec.encAll cs a) = true
 | [],_=>rfl
 | c :: cs,a=>by
  show (plW (c.enc a.1) && plWs (Codec.encAll cs a.2)) = true
  rw [pl_enc c a.1,pl_encAll cs a.2] <;> rfl
theorem weight_mem:∀ {xs:List WData} {d:WData},d ∈ xs → d.weight ≤ WData.weightAll xs
 | [],d,h=>absurd h (by simp)
 | x :: r,d,h=>by
  show d.weight ≤ x.weight + 1 + WData.weightAll r
  rcases List.mem_cons.mp h with e | m
  ·rw [e]
   omega
  ·have z:=weight_mem m
   omega
def toV:Value → V
 | .none=>.non
 | .bool b=>.bl b
 | .int i _=>.int i
 | .str x _=>.str x
 | .bytes b _=>.byt b
 | .ref a=>.ref a
 | _=>.non
def OkU (A:List Addr):Value → Prop
 | .none=>True
 | .bool _=>True
 | .int _ _=>True
 | .str _ _=>True
 | .bytes _ _=>True
 | .ref a=>a ∈ A
 | _=>False
theorem OkU.mono {A B:List Addr} (h:∀ a ∈ A,a ∈ B):∀ {u:Value},OkU A u → OkU B u:=fun {u} x=>by
 cases u with
 | ref a=>exact h a x
 | none=>trivial
 | bool b=>trivial
 | int i t=>trivial
 | str s t=>trivial
 | bytes b t=>trivial
 | _=>exact False.elim x
theorem relV_toV {A:List Addr} {u:Value} (x:OkU A u):RelV (toV u) u:=by
 cases u with
 | ref a=>rfl
 | none=>rfl
 | bool b=>rfl
 | int i t=>exact ⟨t,rfl⟩
 | str s t=>exact ⟨t,rfl⟩
 | bytes b t=>exact ⟨t,rfl⟩
 | _=>exact False.elim x
theorem vals_toV {A:List Addr}:∀ {vs:List Value},(∀ u ∈ vs,OkU A u) → Vals (vs.map toV) vs
 | [],_=>.nil
 | u :: r,h=>.cons (relV_toV (h u (List.mem_cons_self ..))) (vals_toV fun x hx=>h x (List.mem_cons_of_mem _ hx))
def ArgOb (h:Heap) (A:List Addr) (a:Addr):Prop:=∃ vs:List Value,vs.length ≤ sizeLine ∧ (∀ u ∈ vs,OkU A u) ∧
 (h.get? a = some { cls:=.type "list",data:=.seq vs.toArray } ∨ h.get? a = some { cls:=.type "tuple",data:=.seq vs.toArray })
theorem ArgOb.mono {h:Heap} {A B:List Addr} {a:Addr} (k:∀ a ∈ A,a ∈ B) (x:ArgOb h A a):ArgOb h B a:=by
 obtain ⟨vs,h1,h2,h3⟩:=x
 exact ⟨vs,h1,fun u hu=>(h2 u hu).mono k,h3⟩
theorem wellAll_len {P:Params} {h:Heap}:∀ {vs:List Value} {ds:List WData},WellAll P h vs ds → vs.length = ds.length
 | _,_,.nil=>rfl
 | _,_,.cons _ b=>by
  show _ + 1 = _ + 1
  rw [wellAll_len b]
theorem well_list {P:Params} {h:Heap} {v:Value} {ds:List WData} (x:Well P h v (.list ds)):∃ (a:Addr) (vs:List Value),v = .ref a ∧ h.get? a = some { cls:=.type "list",data:=.seq vs.toArray } ∧ WellAll P h vs ds:=by
 cases x with
 | list ho hall=>exact ⟨_,_,rfl,ho,hall⟩
theorem well_tuple {P:Params} {h:Heap} {v:Value} {ds:List WData} (x:Well P h v (.tuple ds)):∃ (a:Addr) (vs:List Value),v = .ref a ∧ h.get? a = some { cls:=.type "tuple",data:=.seq vs.toArray } ∧ WellAll P h vs ds:=by
 cases x with
 | tuple ho hall=>exact ⟨_,_,rfl,ho,hall⟩
theorem well_cons {P:Params} {h:Heap} {us:List Value} {d:WData} {ds:List WData} (x:WellAll P h us (d :: ds)):∃ (v:Value) (vs:List Value),us = v :: vs ∧ Well P h v d ∧ WellAll P h vs ds:=by
 cases x with
 | cons a b=>exact ⟨_,_,rfl,a,b⟩
theorem line_of {n:Nat} (h:n ≤ 1048576):n ≤ sizeLine:=Nat.le_trans h (by decide)
section
variable {P:Params} {h:Heap}
mutual
theorem area_one:∀ (d:WData) (v:Value),Well P h v d → plW d = true → d.weight ≤ 1048576 → ∃ A:List Addr,OkU A v ∧ ∀ a ∈ A,ArgOb h A a
 | .none,_,x,_,_=>by
  cases x
  exact ⟨[],trivial,fun a m=>absurd m (by simp)⟩
 | .bool b,_,x,_,_=>by
  cases x
  exact ⟨[],trivial,fun a m=>absurd m (by simp)⟩
 | .int i,_,x,_,_=>by
  cases x
  exact ⟨[],trivial,fun a m=>absurd m (by simp)⟩
 | .str s,_,x,_,_=>by
  cases x
  exact ⟨[],trivial,fun a m=>absurd m (by simp)⟩
 | .bytes b,_,x,_,_=>by
  cases x
  exact ⟨[],trivial,fun a m=>absurd m (by simp)⟩
 | .list ds,_,x,p,z=>by
  obtain ⟨a,vs,rfl,ho,hall⟩:=well_list x
  have z2:WData.weightAll ds ≤ 1048576:=z
  obtain ⟨A,h1,h2⟩:=area_all ds _ hall p fun d hd=>Nat.le_trans (weight_mem hd) z2
  have k:∀ b ∈ A,b ∈ a :: A:=fun b hb=>List.mem_cons_of_mem _ hb
  refine ⟨a :: A,List.mem_cons_self ..,fun b hb=>?_⟩
  rcases List.mem_cons.mp hb with e | m
  ·rw [e]
   exact ⟨vs,line_of (by rw [wellAll_len hall]; exact Nat.le_trans (PySem.W.length_le_weightAllW ds) z2),fun u hu=>(h1 u hu).mono k,.inl ho⟩
  ·exact (h2 b m).mono k
 | .tuple ds,_,x,p,z=>by
  obtain ⟨a,vs,rfl,ho,hall⟩:=well_tuple x
  have z2:WData.weightAll ds ≤ 1048576:=z
  obtain ⟨A,h1,h2⟩:=area_all ds _ hall p fun d hd=>Nat.le_trans (weight_mem hd) z2
  have k:∀ b ∈ A,b ∈ a :: A:=fun b hb=>List.mem_cons_of_mem _ hb
  refine ⟨a :: A,List.mem_cons_self ..,fun b hb=>?_⟩
  rcases List.mem_cons.mp hb with e | m
  ·rw [e]
   exact ⟨vs,line_of (by rw [wellAll_len hall]; exact Nat.le_trans (PySem.W.length_le_weightAllW ds) z2),fun u hu=>(h1 u hu).mono k,.inr ho⟩
  ·exact (h2 b m).mono k
 | .float _,_,_,p,_=>Bool.noConfusion (show false = true from p)
 | .dict _,_,_,p,_=>Bool.noConfusion (show false = true from p)
 | .bytearray _,_,_,p,_=>Bool.noConfusion (show false = true from p)
 | .set _,_,_,p,_=>Bool.noConfusion (show false = true from p)
 | .frozenset _,_,_,p,_=>Bool.noConfusion (show false = true from p)
 | .obj _ _,_,_,p,_=>Bool.noConfusion (show false = true from p)
theorem area_all:∀ (ds:List WData) (vs:List Value),WellAll P h vs ds → plWs ds = true → (∀ d ∈ ds,d.weight ≤ 1048576) → ∃ A:List Addr,(∀ u ∈ vs,OkU A u) ∧ ∀ a ∈ A,ArgOb h A a
 | [],_,x,_,_=>by
  cases x
  exact ⟨[],fun u m=>absurd m (by simp),fun a m=>absurd m (by simp)⟩
 | d :: ds,_,x,p,z=>by
  obtain ⟨v,vs,rfl,x1,x2⟩:=well_cons x
  have q:plW d = true ∧ plWs ds = true:=Bool.and_eq_true_iff.mp p
  obtain ⟨A,a1,a2⟩:=area_one d v x1 q.1 (z d (List.mem_cons_self ..))
  obtain ⟨B,b1,b2⟩:=area_all ds vs x2 q.2 fun e he=>z e (List.mem_cons_of_mem _ he)
  have kA:∀ b ∈ A,b ∈ A ++ B:=fun b hb=>List.mem_append.mpr (.inl hb)
  have kB:∀ b ∈ B,b ∈ A ++ B:=fun b hb=>List.mem_append.mpr (.inr hb)
  refine ⟨A ++ B,fun u hu=>?_,fun b hb=>?_⟩
  ·rcases List.mem_cons.mp hu with e | m
   ·rw [e]
    exact a1.mono kA
   ·exact (b1 u m).mono kB
  ·rcases List.mem_append.mp hb with m | m
   ·exact (a2 b m).mono kA
   ·exact (b2 b m).mono kB
end
end
def hoOf (o:Obj):Option HO:=match o.data with
 | .seq vs _=>if (o.cls == Value.type "list") = true then some (.frz o (.lst (vs.toList.map toV))) else some (.frz o (.tup (vs.toList.map toV)))
 | _=>none
def argH (K:PySem.W.Frag) (h:Heap) (A:List Addr):Hp:=fun b=>if b ∈ A then (if (K.lookup b).isNone = true then (h.get? b).bind hoOf else none) else none
def OnlyF (H:Hp):Prop:=∀ b,H b = none ∨ ∃ o u,H b = some (.frz o u)
theorem hoOf_lst (vs:List Value):hoOf { cls:=.type "list",data:=.seq vs.toArray } = some (.frz { cls:=.type "list",data:=.seq vs.toArray } (.lst (vs.map toV))):=by
 show (if (Value.type "list" == Value.type "list") = true then some (HO.frz { cls:=.type "list",data:=.seq vs.toArray } (.lst (vs.toArray.toList.map toV))) else some (HO.frz { cls:=.type "list",data:=.seq vs.toArray } (.tup (vs.toArray.toList.map toV)))) = _
 rw [if_pos (beq_self_eq_true _)]
theorem hoOf_tup (vs:List Value):hoOf { cls:=.type "tuple",data:=.seq vs.toArray } = some (.frz { cls:=.type "tuple",data:=.seq vs.toArray } (.tup (vs.map toV))):=by
 show (if (Value.type "tuple" == Value.type "list") = true then some (HO.frz { cls:=.type "tuple",data:=.seq vs.toArray } (.lst (vs.toArray.toList.map toV))) else some (HO.frz { cls:=.type "tuple",data:=.seq vs.toArray } (.tup (vs.toArray.toList.map toV)))) = _
 rw [if_neg (by decide)]
section
variable {P:Program} {w:World} {K:PySem.W.Frag} {h:Heap} {A:List Addr}
theorem argH_at {b:Addr} {o:Obj} (hb:b ∈ A) (hk:K.lookup b = none) (e:h.get? b = some o):argH K h A b = hoOf o:=by
 unfold argH
 rw [if_pos hb,hk,if_pos (show (none:Option Obj).isNone = true from rfl),e] <;> rfl
theorem of_argH {b:Addr} {u:HO} (q:argH K h A b = some u):b ∈ A ∧ K.lookup b = none:=by
 unfold argH at q
 by_cases hb:b ∈ A
 ·rw [if_pos hb] at q
  cases hk:K.lookup b with
  | none=>exact ⟨hb,rfl⟩
  | some o=>
   rw [hk,if_neg (by simp)] at q
   cases q
 ·rw [if_neg hb] at q
  cases q
theorem argH_is (ar:∀ a ∈ A,ArgOb h A a) {b:Addr} {u:HO} (q:argH K h A b = some u):K.lookup b = none ∧ ∃ vs:List Value,vs.length ≤ sizeLine ∧ (∀ u ∈ vs,OkU A u) ∧
  ((h.get? b = some { cls:=.type "list",data:=.seq vs.toArray } ∧ u = .frz { cls:=.type "list",data:=.seq vs.toArray } (.lst (vs.map toV))) ∨
    (h.get? b = some { cls:=.type "tuple",data:=.seq vs.toArray } ∧ u = .frz { cls:=.type "tuple",data:=.seq vs.toArray } (.tup (vs.map toV)))):=by
 obtain ⟨hb,hk⟩:=of_argH q
 obtain ⟨vs,h1,h2,h3⟩:=ar b hb
 refine ⟨hk,vs,h1,h2,?_⟩
 rcases h3 with e | e
 ·rw [argH_at hb hk e,hoOf_lst] at q
  exact .inl ⟨e,(Option.some.inj q).symm⟩
 ·rw [argH_at hb hk e,hoOf_tup] at q
  exact .inr ⟨e,(Option.some.inj q).symm⟩
theorem argH_only (ar:∀ a ∈ A,ArgOb h A a):OnlyF (argH K h A):=fun b=>by
 cases q:argH K h A b with
 | none=>exact .inl rfl
 | some u=>
  obtain ⟨_,vs,_,_,⟨_,e⟩ | ⟨_,e⟩⟩:=argH_is ar q
  ·exact .inr ⟨_,_,by rw [e]⟩
  ·exact .inr ⟨_,_,by rw [e]⟩
theorem argH_ok (ar:∀ a ∈ A,ArgOb h A a):HOk P w (argH K h A) h:=fun b u q=>by
 obtain ⟨_,vs,h1,h2,⟨e,rfl⟩ | ⟨e,rfl⟩⟩:=argH_is ar q
 ·exact ⟨e,by rw [List.length_map]; exact h1,vs,_,vals_toV h2,e⟩
 ·exact ⟨e,by rw [List.length_map]; exact h1,vs,vals_toV h2,_,e,rfl,_,rfl⟩
theorem seq_inj {c c':Value} {vs us:List Value} (e:(some { cls:=c,data:=.seq vs.toArray }:Option Obj) = some { cls:=c',data:=.seq us.toArray }):c = c' ∧ vs = us:=by
 have e1:=Option.some.inj e
 have e2:c = c':=congrArg Obj.cls e1
 have e3:Data.seq vs.toArray = Data.seq us.toArray:=congrArg Obj.data e1
 injection e3 with e4
 refine ⟨e2,?_⟩
 have e5:=congrArg Array.toList e4
 simpa using e5
theorem argL (KX:K.In h) (ar:∀ a ∈ A,ArgOb h A a) {a:Addr} {vs:List Value} (ha:a ∈ A) (e:h.get? a = some { cls:=.type "list",data:=.seq vs.toArray }):(∀ u ∈ vs,OkU A u) ∧ SqL K (argH K h A) a (vs.map toV):=by
 obtain ⟨us,h1,h2,h3⟩:=ar a ha
 have hu:us = vs:=by
  rcases h3 with q | q
  ·rw [e] at q
   exact (seq_inj q).2.symm
  ·rw [e] at q
   exact absurd (Value.type.inj (seq_inj q).1) (by decide)
 subst hu
 refine ⟨h2,?_⟩
 cases hk:K.lookup a with
 | none=>exact .inl (.inr ⟨_,by rw [argH_at ha hk e,hoOf_lst]⟩)
 | some o=>
  have e2:=KX a o hk
  rw [e] at e2
  obtain rfl:=Option.some.inj e2
  exact .inr ⟨_,us.toArray,_,hk,rfl,rfl,rfl,by rw [List.size_toArray]; exact h1,by simpa using vals_toV h2⟩
theorem argT (KX:K.In h) (ar:∀ a ∈ A,ArgOb h A a) {a:Addr} {vs:List Value} (ha:a ∈ A) (e:h.get? a = some { cls:=.type "tuple",data:=.seq vs.toArray }):(∀ u ∈ vs,OkU A u) ∧ SqT K (argH K h A) a (vs.map toV):=by
 obtain ⟨us,h1,h2,h3⟩:=ar a ha
 have hu:us = vs:=by
  rcases h3 with q | q
  ·rw [e] at q
   exact absurd (Value.type.inj (seq_inj q).1) (by decide)
  ·rw [e] at q
   exact (seq_inj q).2.symm
 subst hu
 refine ⟨h2,?_⟩
 cases hk:K.lookup a with
 | none=>exact .inl (.inr ⟨_,by rw [argH_at ha hk e,hoOf_tup]⟩)
 | some o=>
  have e2:=KX a o hk
  rw [e] at e2
  obtain rfl:=Option.some.inj e2
  exact .inr ⟨_,us.toArray,_,hk,rfl,rfl,by rw [List.size_toArray]; exact h1,by simpa using vals_toV h2⟩
mutual
theorem dw_one {Pm:Params} (KX:K.In h) (ar:∀ a ∈ A,ArgOb h A a):∀ (d:WData) (v:Value),Well Pm h v d → plW d = true → OkU A v → Dw K (argH K h A) (toV v) d
 | .none,_,x,_,_=>by
  cases x
  exact .non
 | .bool b,_,x,_,_=>by
  cases x
  exact .bl b
 | .int i,_,x,_,_=>by
  cases x
  exact .int i
 | .str s,_,x,_,_=>by
  cases x
  exact .str s
 | .bytes b,_,x,_,_=>by
  cases x
  have z:=Dw.byt (K:=K) (H:=argH K h A) b.toArray
  exact z
 | .list ds,_,x,p,hu=>by
  obtain ⟨a,vs,rfl,ho,hall⟩:=well_list x
  obtain ⟨h2,hs⟩:=argL KX ar hu ho
  exact .lst hs (dw_all KX ar ds _ hall p h2)
 | .tuple ds,_,x,p,hu=>by
  obtain ⟨a,vs,rfl,ho,hall⟩:=well_tuple x
  obtain ⟨h2,hs⟩:=argT KX ar hu ho
  exact .tup hs (dw_all KX ar ds _ hall p h2)
 | .float _,_,_,p,_=>Bool.noConfusion (show false = true from p)
 | .dict _,_,_,p,_=>Bool.noConfusion (show false = true from p)
 | .bytearray _,_,_,p,_=>Bool.noConfusion (show false = true from p)
 | .set _,_,_,p,_=>Bool.noConfusion (show false = true from p)
 | .frozenset _,_,_,p,_=>Bool.noConfusion (show false = true from p)
 | .obj _ _,_,_,p,_=>Bool.noConfusion (show false = true from p)
theorem dw_all {Pm:Params} (KX:K.In h) (ar:∀ a ∈ A,ArgOb h A a):∀ (ds:List WData) (vs:List Value),WellAll Pm h vs ds → plWs ds = true → (∀ u ∈ vs,OkU A u) → DwAll K (argH K h A) (vs.map toV) ds
 | [],_,x,_,_=>by
  cases x
  exact .nil
 | d :: ds,_,x,p,hu=>by
  obtain ⟨v,vs,rfl,x1,x2⟩:=well_cons x
  have q:plW d = true ∧ plWs ds = true:=Bool.and_eq_true_iff.mp p
  exact .cons (dw_one KX ar d v x1 q.1 (hu _ (List.mem_cons_self ..))) (dw_all KX ar ds vs x2 q.2 fun u m=>hu u (List.mem_cons_of_mem _ m))
end
end
theorem layable_weight {ds:List WData} (h:WData.layableAll ds = true):∀ d ∈ ds,d.weight ≤ 1048576:=fun d hd=>
 (PySem.W.layableW_iff.mp (List.all_eq_true.mp h d hd)).2.2
theorem encAll_len:∀ (cs:List Codec) (a:Codec.denoteAll cs),(Codec.encAll cs a).length = cs.length
 | [],_=>rfl
 | c :: cs,a=>by
  show (Codec.encAll cs a.2).length + 1 = cs.length + 1
  rw [encAll_len cs a.2]
end L2
end
end
section
set_option Elab.async false
set_option linter.all false
set_option maxRecDepth 100000
set_option maxHeartbeats 4000000
namespace Cc
open PySem PySem.Spec PyProof.Rows
section
variable {prog:Program} {w:World} {A:Around} {R:Result → Shared → Prop} {l q I S:Addr} {n:Nat} {G:Nat → Value → Prop}
theorem min_turns (kf:Nat → Int) (hh:A.handled = none) (St:Nat → Shared → Prop)
  (lst:∀ j z,St j z → ∃ its:List Value,z.heap.IsList l its.toArray ∧ its.length = n ∧ ∀ i v,its[i]? = some v → G i v)
  (stab:∀ j z a h' tk,St j z → (a = S ∨ a = I) → (∀ b o,b ≠ a → z.heap.get? b = some o → h'.get? b = some o) → St j { z with heap:=h',toks:=tk })
  (turn:∀ j v z oS oI,G j v → St j z → z.heap.get? S = some oS → (∀ q,oS.data ≠ .cell q) → z.heap.get? I = some oI → (∀ q,oI.data ≠ .cell q) →
   wpAny (model prog w) A.in1 (call (.ref q) [v]) (fun x z'=>(∃ t,x = .int (kf j) t) ∧ St (j + 1) z' ∧ z'.heap.get? S = some oS ∧ z'.heap.get? I = some oI) (fun _ _=>False) z)
  (hSI:S ≠ I) (fin:∀ i v z,i < n → G i v → (∀ j,j < n → kf i ≤ kf j ∧ (j < i → kf i < kf j)) → St n z → R (.ok (.ret v)) z):
  ∀ (r j i:Nat) (z:Shared) (vb:Value) (tb:Tok) (c:Nat),n - j = r → j ≤ n → St j z → z.heap.get? S = some (seqObj "list" #[vb,.int (kf i) tb] c) → z.heap.IsListIter I l j → G i vb → i < j →
   (∀ j',j' < j → kf i ≤ kf j' ∧ (j' < i → kf i < kf j')) → codeAny (model prog w) A (.builtin "min.loop" ⟨[.ref I,.ref q,.ref S],[]⟩) R z:=by
 have nm:(toString "min" ++ toString ".loop":String) = "min.loop":=by decide
 intro r
 induction r with
 | zero=>
  intro j i z vb tb c hr hj st hS hit hvb hij best
  have ej:n = j:=by omega
  subst ej
  obtain ⟨its,hl,hn,hG⟩:=lst _ _ st
  refine codeAny_builtin PySem.F.entry_min_loop ?_
  rw [Around.under_plainId PySem.F.plain_min_loop _]
  refine wpAny_bind (m:=seqItems? (.ref S)) (wpAny_seqItems hS rfl ?_)
  refine wpAny_bind (wpAny_tryCatch (wpAny_pyNext_list_end (A:=A.in1) hh hit hl (by simp [hn]) fun h1 eb=>?_))
  have st1:St n { z with heap:=h1 }:=stab _ z I h1 z.toks st (.inr rfl) fun b o hb e=>eb b o hb e
  have hS1:h1.get? S = some (seqObj "list" #[vb,.int (kf i) tb] c):=eb _ _ hSI hS
  have sb:=Heap.SameBut.update h1 S (Obj.mapSeq fun _=>(#[]:Array Value))
  refine wpAny_bind (m:=updateSeq S fun _=>#[]) (wpAny_updateSeq hS1 rfl (wpAny_bind (wpAny_letGo (wpAny_pure ?_))))
  exact fin i vb _ hij hvb best (stab _ { z with heap:=h1 } S _ z.toks st1 (.inl rfl) fun b o hb e=>(sb.2 b hb).trans e)
 | succ r ih=>
  intro j i z vb tb c hr hj st hS hit hvb hij best
  have hlt:j < n:=by omega
  obtain ⟨its,hl,hn,hG⟩:=lst _ _ st
  obtain ⟨v,hv0⟩:∃ v,its[j]? = some v:=⟨_,List.getElem?_eq_getElem (by omega)⟩
  have hv:=hG _ _ hv0
  refine codeAny_builtin PySem.F.entry_min_loop ?_
  rw [Around.under_plainId PySem.F.plain_min_loop _]
  refine wpAny_bind (m:=seqItems? (.ref S)) (wpAny_seqItems hS rfl ?_)
  refine wpAny_bind (wpAny_tryCatch (wpAny_pyNext_list_item (x:=v) hit hl (by simpa using hv0) fun h1 hit1 sb1=>?_))
  have st1:St j { z with heap:=h1 }:=stab _ z I h1 z.toks st (.inr rfl) fun b o hb e=>(sb1.2 b hb).trans e
  have hS1:h1.get? S = some (seqObj "list" #[vb,.int (kf i) tb] c):=(sb1.2 S hSI).trans hS
  obtain ⟨oI,hoI,hoc,hod⟩:=id hit1
  refine wpAny_bind (m:=tryCatch (holding [v] (call (.ref q) [v])) _) (wpAny_tryCatch (wpAny_holding (wpAny_mono (turn j v { z with heap:=h1 } _ oI hv st1 hS1 (fun q h=>by cases h) hoI (fun q h=>by rw [hod] at h; cases h)) (fun x z2 he=>?_) fun _ _ hF=>hF.elim)))
  obtain ⟨⟨t2,rfl⟩,st2,hS2,hI2⟩:=he
  have hit2:z2.heap.IsListIter I l (j + 1):=⟨oI,hI2,hoc,hod⟩
  show wpAny _ A.in1 (tryCatch (holding [v,.int (kf j) t2] (richCompare .Lt (.int (kf j) t2) (.int (kf i) tb) >>= _)) _ >>= _) _ _ z2
  refine wpAny_bind (wpAny_tryCatch (wpAny_holding (wpAny_bind (CmpOf.ints_lt (prog:=prog) (w:=w) (A:=A.in1) (P:=fun i v=>∃ t,v = .int (kf i) t) kf (fun _ _ h=>h) j i _ _ _ _ _ ⟨t2,rfl⟩ ⟨tb,rfl⟩ ?_))))
  refine wpAny_bind (wpAny_holding (wpAny_truthy_bool ?_))
  refine wpAny_bind (wpAny_letGo (wpAny_pure ?_))
  by_cases hb:kf j < kf i
  ·have sb2:=Heap.SameBut.update z2.heap S (Obj.mapSeq fun _=>#[v,.int (kf j) t2])
   obtain ⟨c2,hc2⟩:∃ c2,(z2.heap.update S (Obj.mapSeq fun _=>#[v,.int (kf j) t2])).get? S = some (seqObj "list" #[v,.int (kf j) t2] c2):=⟨_,get?_update_seq hS2 fun _=>#[v,.int (kf j) t2]⟩
   simp only [hb,decide_true,if_true]
   refine wpAny_bind ?_
   refine wpAny_updateSeq hS2 rfl (wpAny_bind (wpAny_letGo ?_))
   rw [nm]
   refine wpAny_pure ⟨plainId_quiet PySem.F.plain_min_loop _,ih (j + 1) j _ v t2 c2 (by omega) hlt (stab _ z2 S _ z2.toks st2 (.inl rfl) fun b o hb e=>(sb2.2 b hb).trans e) hc2 ⟨oI,(sb2.2 I hSI.symm).trans hI2,hoc,hod⟩ hv (Nat.lt_succ_self _) fun j' hj'=>?_⟩
   by_cases e:j' = j
   ·subst e
    exact ⟨by omega,fun _=>by omega⟩
   ·have b1:=best j' (by omega)
    have b2:=b1.1
    exact ⟨by omega,fun _=>by omega⟩
  ·simp only [hb,decide_false,Bool.false_eq_true,if_false]
   refine wpAny_bind (wpAny_letGo ?_)
   rw [nm]
   refine wpAny_pure ⟨plainId_quiet PySem.F.plain_min_loop _,ih (j + 1) i _ vb tb c (by omega) hlt st2 hS2 hit2 hvb (by omega) fun j' hj'=>?_⟩
   by_cases e:j' = j
   ·subst e
    exact ⟨by omega,fun _=>by omega⟩
   ·exact best j' (by omega)
theorem max_turns (kf:Nat → Int) (hh:A.handled = none) (St:Nat → Shared → Prop)
  (lst:∀ j z,St j z → ∃ its:List Value,z.heap.IsList l its.toArray ∧ its.length = n ∧ ∀ i v,its[i]? = some v → G i v)
  (stab:∀ j z a h' tk,St j z → (a = S ∨ a = I) → (∀ b o,b ≠ a → z.heap.get? b = some o → h'.get? b = some o) → St j { z with heap:=h',toks:=tk })
  (turn:∀ j v z oS oI,G j v → St j z → z.heap.get? S = some oS → (∀ q,oS.data ≠ .cell q) → z.heap.get? I = some oI → (∀ q,oI.data ≠ .cell q) →
   wpAny (model prog w) A.in1 (call (.ref q) [v]) (fun x z'=>(∃ t,x = .int (kf j) t) ∧ St (j + 1) z' ∧ z'.heap.get? S = some oS ∧ z'.heap.get? I = some oI) (fun _ _=>False) z)
  (hSI:S ≠ I) (fin:∀ i v z,i < n → G i v → (∀ j,j < n → kf i ≥ kf j ∧ (j < i → kf i > kf j)) → St n z → R (.ok (.ret v)) z):
  ∀ (r j i:Nat) (z:Shared) (vb:Value) (tb:Tok) (c:Nat),n - j = r → j ≤ n → St j z → z.heap.get? S = some (seqObj "list" #[vb,.int (kf i) tb] c) → z.heap.IsListIter I l j → G i vb → i < j →
   (∀ j',j' < j → kf i ≥ kf j' ∧ (j' < i → kf i > kf j')) → codeAny (model prog w) A (.builtin "max.loop" ⟨[.ref I,.ref q,.ref S],[]⟩) R z:=by
 have nm:(toString "max" ++ toString ".loop":String) = "max.loop":=by decide
 intro r
 induction r with
 | zero=>
  intro j i z vb tb c hr hj st hS hit hvb hij best
  have ej:n = j:=by omega
  subst ej
  obtain ⟨its,hl,hn,hG⟩:=lst _ _ st
  refine codeAny_builtin PySem.F.entry_max_loop ?_
  rw [Around.under_plainId PySem.F.plain_max_loop _]
  refine wpAny_bind (m:=seqItems? (.ref S)) (wpAny_seqItems hS rfl ?_)
  refine wpAny_bind (wpAny_tryCatch (wpAny_pyNext_list_end (A:=A.in1) hh hit hl (by simp [hn]) fun h1 eb=>?_))
  have st1:St n { z with heap:=h1 }:=stab _ z I h1 z.toks st (.inr rfl) fun b o hb e=>eb b o hb e
  have hS1:h1.get? S = some (seqObj "list" #[vb,.int (kf i) tb] c):=eb _ _ hSI hS
  have sb:=Heap.SameBut.update h1 S (Obj.mapSeq fun _=>(#[]:Array Value))
  refine wpAny_bind (m:=updateSeq S fun _=>#[]) (wpAny_updateSeq hS1 rfl (wpAny_bind (wpAny_letGo (wpAny_pure ?_))))
  exact fin i vb _ hij hvb best (stab _ { z with heap:=h1 } S _ z.toks st1 (.inl rfl) fun b o hb e=>(sb.2 b hb).trans e)
 | succ r ih=>
  intro j i z vb tb c hr hj st hS hit hvb hij best
  have hlt:j < n:=by omega
  obtain ⟨its,hl,hn,hG⟩:=lst _ _ st
  obtain ⟨v,hv0⟩:∃ v,its[j]? = some v:=⟨_,List.getElem?_eq_getElem (by omega)⟩
  have hv:=hG _ _ hv0
  refine codeAny_builtin PySem.F.entry_max_loop ?_
  rw [Around.under_plainId PySem.F.plain_max_loop _]
  refine wpAny_bind (m:=seqItems? (.ref S)) (wpAny_seqItems hS rfl ?_)
  refine wpAny_bind (wpAny_tryCatch (wpAny_pyNext_list_item (x:=v) hit hl (by simpa using hv0) fun h1 hit1 sb1=>?_))
  have st1:St j { z with heap:=h1 }:=stab _ z I h1 z.toks st (.inr rfl) fun b o hb e=>(sb1.2 b hb).trans e
  have hS1:h1.get? S = some (seqObj "list" #[vb,.int (kf i) tb] c):=(sb1.2 S hSI).trans hS
  obtain ⟨oI,hoI,hoc,hod⟩:=id hit1
  refine wpAny_bind (m:=tryCatch (holding [v] (call (.ref q) [v])) _) (wpAny_tryCatch (wpAny_holding (wpAny_mono (turn j v { z with heap:=h1 } _ oI hv st1 hS1 (fun q h=>by cases h) hoI (fun q h=>by rw [hod] at h; cases h)) (fun x z2 he=>?_) fun _ _ hF=>hF.elim)))
  obtain ⟨⟨t2,rfl⟩,st2,hS2,hI2⟩:=he
  have hit2:z2.heap.IsListIter I l (j + 1):=⟨oI,hI2,hoc,hod⟩
  show wpAny _ A.in1 (tryCatch (holding [v,.int (kf j) t2] (richCompare .Gt (.int (kf j) t2) (.int (kf i) tb) >>= _)) _ >>= _) _ _ z2
  refine wpAny_bind (wpAny_tryCatch (wpAny_holding (wpAny_bind (CmpOf.ints_gt (prog:=prog) (w:=w) (A:=A.in1) (P:=fun i v=>∃ t,v = .int (kf i) t) kf (fun _ _ h=>h) j i _ _ _ _ _ ⟨t2,rfl⟩ ⟨tb,rfl⟩ ?_))))
  refine wpAny_bind (wpAny_holding (wpAny_truthy_bool ?_))
  refine wpAny_bind (wpAny_letGo (wpAny_pure ?_))
  by_cases hb:kf j > kf i
  ·have sb2:=Heap.SameBut.update z2.heap S (Obj.mapSeq fun _=>#[v,.int (kf j) t2])
   obtain ⟨c2,hc2⟩:∃ c2,(z2.heap.update S (Obj.mapSeq fun _=>#[v,.int (kf j) t2])).get? S = some (seqObj "list" #[v,.int (kf j) t2] c2):=⟨_,get?_update_seq hS2 fun _=>#[v,.int (kf j) t2]⟩
   simp only [hb,decide_true,if_true]
   refine wpAny_bind ?_
   refine wpAny_updateSeq hS2 rfl (wpAny_bind (wpAny_letGo ?_))
   rw [nm]
   refine wpAny_pure ⟨plainId_quiet PySem.F.plain_max_loop _,ih (j + 1) j _ v t2 c2 (by omega) hlt (stab _ z2 S _ z2.toks st2 (.inl rfl) fun b o hb e=>(sb2.2 b hb).trans e) hc2 ⟨oI,(sb2.2 I hSI.symm).trans hI2,hoc,hod⟩ hv (Nat.lt_succ_self _) fun j' hj'=>?_⟩
   by_cases e:j' = j
   ·subst e
    exact ⟨by omega,fun _=>by omega⟩
   ·have b1:=best j' (by omega)
    have b2:=b1.1
    exact ⟨by omega,fun _=>by omega⟩
  ·simp only [hb,decide_false,Bool.false_eq_true,if_false]
   refine wpAny_bind (wpAny_letGo ?_)
   rw [nm]
   refine wpAny_pure ⟨plainId_quiet PySem.F.plain_max_loop _,ih (j + 1) i _ vb tb c (by omega) hlt st2 hS2 hit2 hvb (by omega) fun j' hj'=>?_⟩
   by_cases e:j' = j
   ·subst e
    exact ⟨by omega,fun _=>by omega⟩
   ·exact best j' (by omega)
variable {s:Shared} {Q:Value → Shared → Prop} {E:Value → Shared → Prop}
theorem min_by (kf:Nat → Int) (hh:A.handled = none) (hl:∃ its:List Value,s.heap.IsList l its.toArray) (hne:0 < n)
  (h:∀ (I S:Addr) (h1:Heap),S ≠ I → s.heap.objs.size ≤ I → s.heap.objs.size ≤ S → (∀ b o,s.heap.get? b = some o → h1.get? b = some o) →
   ∃ St:Nat → Shared → Prop,St 0 { s with heap:=h1 } ∧ (∀ j z,St j z → ∃ its:List Value,z.heap.IsList l its.toArray ∧ its.length = n ∧ ∀ i v,its[i]? = some v → G i v) ∧
    (∀ j z a h' tk,St j z → (a = S ∨ a = I) → (∀ b o,b ≠ a → z.heap.get? b = some o → h'.get? b = some o) → St j { z with heap:=h',toks:=tk }) ∧
    (∀ j v z oS oI,G j v → St j z → z.heap.get? S = some oS → (∀ q,oS.data ≠ .cell q) → z.heap.get? I = some oI → (∀ q,oI.data ≠ .cell q) →
     wpAny (model prog w) A.in1 (call (.ref q) [v]) (fun x z'=>(∃ t,x = .int (kf j) t) ∧ St (j + 1) z' ∧ z'.heap.get? S = some oS ∧ z'.heap.get? I = some oI) (fun _ _=>False) z) ∧
    ∀ i v z,i < n → G i v → (∀ j,j < n → kf i ≤ kf j ∧ (j < i → kf i < kf j)) → St n z → Q v z):
  wpAny (model prog w) A (call (.builtin "min") [.ref l] [(Str.ofString "key",.ref q)]) Q E s:=by
 have nm:(toString "min" ++ toString ".loop":String) = "min.loop":=by decide
 refine kmk_tree PySem.F.kind_min PySem.F.plain_min PySem.F.entry_min (kmk_min_key _ _) ?_
 refine wpAny_bind (m:=Builtin.Builtins.bindParams "min" ["key","default"] 0 ⟨[],[(Str.ofString "key",.ref q)]⟩) (wpAny_of_eq (a:=[some (.ref q),none]) rfl ?_)
 refine wpAny_bind (wpAny_pure ?_)
 obtain ⟨its0,hl⟩:=hl
 refine wpAny_bind (wpAny_pyIter_list hl ?_)
 refine wpAny_bind (wpAny_newList ?_ (Nat.zero_le _))
 rw [nm]
 generalize hI:s.heap.objs.size = I
 generalize hS:(s.heap.push { cls:=.type "list_iterator",data:=.fields #[.ref l,.int 0 0] }).objs.size = S
 have eS:S = I + 1:=by rw [← hS,← hI]; exact size_push' ..
 have hSI:S ≠ I:=by omega
 have gI:((s.heap.push { cls:=.type "list_iterator",data:=.fields #[.ref l,.int 0 0] }).push (seqObj "list" #[] 0)).get? I = some { cls:=.type "list_iterator",data:=.fields #[.ref l,.int 0 0] }:=by
  rw [← hI]
  exact Heap.get?_push_of_some _ (Heap.get?_push_size _ rfl)
 have gS:((s.heap.push { cls:=.type "list_iterator",data:=.fields #[.ref l,.int 0 0] }).push (seqObj "list" #[] 0)).get? S = some (seqObj "list" #[] 0):=by
  rw [← hS]
  exact Heap.get?_push_size _ rfl
 obtain ⟨St,st0,lst,stab,turn,fin⟩:=h I S ((s.heap.push { cls:=.type "list_iterator",data:=.fields #[.ref l,.int 0 0] }).push (seqObj "list" #[] 0)) hSI (by omega) (by omega) fun b o e=>Heap.get?_push_of_some _ (Heap.get?_push_of_some _ e)
 obtain ⟨its,hl0,hn,hG⟩:=lst _ _ st0
 obtain ⟨v,hv0⟩:∃ v,its[0]? = some v:=⟨_,List.getElem?_eq_getElem (by omega)⟩
 have hv:=hG _ _ hv0
 have hit:((s.heap.push { cls:=.type "list_iterator",data:=.fields #[.ref l,.int 0 0] }).push (seqObj "list" #[] 0)).IsListIter I l 0:=⟨_,gI,rfl,rfl⟩
 generalize (s.heap.push { cls:=.type "list_iterator",data:=.fields #[.ref l,.int 0 0] }).push (seqObj "list" #[] 0) = h0 at gI gS st0 hit hl0
 refine wpAny_pure ⟨plainId_quiet PySem.F.plain_min_loop _,?_⟩
 refine codeAny_builtin PySem.F.entry_min_loop ?_
 rw [Around.under_plainId PySem.F.plain_min_loop _]
 refine wpAny_bind (m:=seqItems? (.ref S)) (wpAny_seqItems (s:={ s with heap:=h0 }) gS rfl ?_)
 refine wpAny_bind (wpAny_tryCatch (wpAny_pyNext_list_item (x:=v) hit hl0 (by simpa using hv0) fun h1 hit1 sb1=>?_))
 have st1:St 0 { s with heap:=h1 }:=stab _ { s with heap:=h0 } I h1 s.toks st0 (.inr rfl) fun b o hb e=>(sb1.2 b hb).trans e
 have gS1:h1.get? S = some (seqObj "list" #[] 0):=(sb1.2 S hSI).trans gS
 obtain ⟨oI,hoI,hoc,hod⟩:=id hit1
 refine wpAny_bind (m:=tryCatch (holding [v] (call (.ref q) [v])) _) (wpAny_tryCatch (wpAny_holding (wpAny_mono (turn 0 v { s with heap:=h1 } _ oI hv st1 gS1 (fun q h=>by cases h) hoI (fun q h=>by rw [hod] at h; cases h)) (fun x z2 he=>?_) fun _ _ hF=>hF.elim)))
 obtain ⟨⟨t2,rfl⟩,st2,gS2,gI2⟩:=he
 have sb2:=Heap.SameBut.update z2.heap S (Obj.mapSeq fun _=>#[v,.int (kf 0) t2])
 obtain ⟨c2,hc2⟩:∃ c2,(z2.heap.update S (Obj.mapSeq fun _=>#[v,.int (kf 0) t2])).get? S = some (seqObj "list" #[v,.int (kf 0) t2] c2):=⟨_,get?_update_seq gS2 fun _=>#[v,.int (kf 0) t2]⟩
 refine wpAny_bind (m:=updateSeq S fun _=>#[v,.int (kf 0) t2]) (wpAny_updateSeq gS2 rfl ?_)
 rw [nm]
 refine wpAny_pure ⟨plainId_quiet PySem.F.plain_min_loop _,min_turns kf hh St lst stab turn hSI (R:=fun r s'=>match r with | .ok (.ret v)=>Q v s' | .ok _=>False | .error e=>E e s') (fun i v z hi e b st=>fin i v z hi e b st) _ 1 0 _ v t2 c2 rfl hne
  (stab _ z2 S _ z2.toks st2 (.inl rfl) fun b o hb e=>(sb2.2 b hb).trans e) hc2 ⟨oI,(sb2.2 I hSI.symm).trans gI2,hoc,hod⟩ hv (by omega) fun j' hj'=>?_⟩
 have e:j' = 0:=by omega
 subst e
 exact ⟨by omega,fun z=>absurd z (Nat.lt_irrefl _)⟩
theorem max_by (kf:Nat → Int) (hh:A.handled = none) (hl:∃ its:List Value,s.heap.IsList l its.toArray) (hne:0 < n)
  (h:∀ (I S:Addr) (h1:Heap),S ≠ I → s.heap.objs.size ≤ I → s.heap.objs.size ≤ S → (∀ b o,s.heap.get? b = some o → h1.get? b = some o) →
   ∃ St:Nat → Shared → Prop,St 0 { s with heap:=h1 } ∧ (∀ j z,St j z → ∃ its:List Value,z.heap.IsList l its.toArray ∧ its.length = n ∧ ∀ i v,its[i]? = some v → G i v) ∧
    (∀ j z a h' tk,St j z → (a = S ∨ a = I) → (∀ b o,b ≠ a → z.heap.get? b = some o → h'.get? b = some o) → St j { z with heap:=h',toks:=tk }) ∧
    (∀ j v z oS oI,G j v → St j z → z.heap.get? S = some oS → (∀ q,oS.data ≠ .cell q) → z.heap.get? I = some oI → (∀ q,oI.data ≠ .cell q) →
     wpAny (model prog w) A.in1 (call (.ref q) [v]) (fun x z'=>(∃ t,x = .int (kf j) t) ∧ St (j + 1) z' ∧ z'.heap.get? S = some oS ∧ z'.heap.get? I = some oI) (fun _ _=>False) z) ∧
    ∀ i v z,i < n → G i v → (∀ j,j < n → kf i ≥ kf j ∧ (j < i → kf i > kf j)) → St n z → Q v z):
  wpAny (model prog w) A (call (.builtin "max") [.ref l] [(Str.ofString "key",.ref q)]) Q E s:=by
 have nm:(toString "max" ++ toString ".loop":String) = "max.loop":=by decide
 refine kmk_tree PySem.F.kind_max PySem.F.plain_max PySem.F.entry_max (kmk_max_key _ _) ?_
 refine wpAny_bind (m:=Builtin.Builtins.bindParams "max" ["key","default"] 0 ⟨[],[(Str.ofString "key",.ref q)]⟩) (wpAny_of_eq (a:=[some (.ref q),none]) rfl ?_)
 refine wpAny_bind (wpAny_pure ?_)
 obtain ⟨its0,hl⟩:=hl
 refine wpAny_bind (wpAny_pyIter_list hl ?_)
 refine wpAny_bind (wpAny_newList ?_ (Nat.zero_le _))
 rw [nm]
 generalize hI:s.heap.objs.size = I
 generalize hS:(s.heap.push { cls:=.type "list_iterator",data:=.fields #[.ref l,.int 0 0] }).objs.size = S
 have eS:S = I + 1:=by rw [← hS,← hI]; exact size_push' ..
 have hSI:S ≠ I:=by omega
 have gI:((s.heap.push { cls:=.type "list_iterator",data:=.fields #[.ref l,.int 0 0] }).push (seqObj "list" #[] 0)).get? I = some { cls:=.type "list_iterator",data:=.fields #[.ref l,.int 0 0] }:=by
  rw [← hI]
  exact Heap.get?_push_of_some _ (Heap.get?_push_size _ rfl)
 have gS:((s.heap.push { cls:=.type "list_iterator",data:=.fields #[.ref l,.int 0 0] }).push (seqObj "list" #[] 0)).get? S = some (seqObj "list" #[] 0):=by
  rw [← hS]
  exact Heap.get?_push_size _ rfl
 obtain ⟨St,st0,lst,stab,turn,fin⟩:=h I S ((s.heap.push { cls:=.type "list_iterator",data:=.fields #[.ref l,.int 0 0] }).push (seqObj "list" #[] 0)) hSI (by omega) (by omega) fun b o e=>Heap.get?_push_of_some _ (Heap.get?_push_of_some _ e)
 obtain ⟨its,hl0,hn,hG⟩:=lst _ _ st0
 obtain ⟨v,hv0⟩:∃ v,its[0]? = some v:=⟨_,List.getElem?_eq_getElem (by omega)⟩
 have hv:=hG _ _ hv0
 have hit:((s.heap.push { cls:=.type "list_iterator",data:=.fields #[.ref l,.int 0 0] }).push (seqObj "list" #[] 0)).IsListIter I l 0:=⟨_,gI,rfl,rfl⟩
 generalize (s.heap.push { cls:=.type "list_iterator",data:=.fields #[.ref l,.int 0 0] }).push (seqObj "list" #[] 0) = h0 at gI gS st0 hit hl0
 refine wpAny_pure ⟨plainId_quiet PySem.F.plain_max_loop _,?_⟩
 refine codeAny_builtin PySem.F.entry_max_loop ?_
 rw [Around.under_plainId PySem.F.plain_max_loop _]
 refine wpAny_bind (m:=seqItems? (.ref S)) (wpAny_seqItems (s:={ s with heap:=h0 }) gS rfl ?_)
 refine wpAny_bind (wpAny_tryCatch (wpAny_pyNext_list_item (x:=v) hit hl0 (by simpa using hv0) fun h1 hit1 sb1=>?_))
 have st1:St 0 { s with heap:=h1 }:=stab _ { s with heap:=h0 } I h1 s.toks st0 (.inr rfl) fun b o hb e=>(sb1.2 b hb).trans e
 have gS1:h1.get? S = some (seqObj "list" #[] 0):=(sb1.2 S hSI).trans gS
 obtain ⟨oI,hoI,hoc,hod⟩:=id hit1
 refine wpAny_bind (m:=tryCatch (holding [v] (call (.ref q) [v])) _) (wpAny_tryCatch (wpAny_holding (wpAny_mono (turn 0 v { s with heap:=h1 } _ oI hv st1 gS1 (fun q h=>by cases h) hoI (fun q h=>by rw [hod] at h; cases h)) (fun x z2 he=>?_) fun _ _ hF=>hF.elim)))
 obtain ⟨⟨t2,rfl⟩,st2,gS2,gI2⟩:=he
 have sb2:=Heap.SameBut.update z2.heap S (Obj.mapSeq fun _=>#[v,.int (kf 0) t2])
 obtain ⟨c2,hc2⟩:∃ c2,(z2.heap.update S (Obj.mapSeq fun _=>#[v,.int (kf 0) t2])).get? S = some (seqObj "list" #[v,.int (kf 0) t2] c2):=⟨_,get?_update_seq gS2 fun _=>#[v,.int (kf 0) t2]⟩
 refine wpAny_bind (m:=updateSeq S fun _=>#[v,.int (kf 0) t2]) (wpAny_updateSeq gS2 rfl ?_)
 rw [nm]
 refine wpAny_pure ⟨plainId_quiet PySem.F.plain_max_loop _,max_turns kf hh St lst stab turn hSI (R:=fun r s'=>match r with | .ok (.ret v)=>Q v s' | .ok _=>False | .error e=>E e s') (fun i v z hi e b st=>fin i v z hi e b st) _ 1 0 _ v t2 c2 rfl hne
  (stab _ z2 S _ z2.toks st2 (.inl rfl) fun b o hb e=>(sb2.2 b hb).trans e) hc2 ⟨oI,(sb2.2 I hSI.symm).trans gI2,hoc,hod⟩ hv (by omega) fun j' hj'=>?_⟩
 have e:j' = 0:=by omega
 subst e
 exact ⟨by omega,fun z=>absurd z (Nat.lt_irrefl _)⟩
end
end Cc
end
section
set_option Elab.async false
set_option linter.all false
set_option maxRecDepth 100000
set_option maxHeartbeats 4000000
namespace Cc
open PySem
section
variable {prog:Program} {w:World} {A:Around} {E:Value → Shared → Prop} {s:Shared}
theorem nextOf_tupI {it t:Addr} {i:Nat} {its:Array Value} {x:Value} {Q:Value → Shared → Prop} (hit:s.heap.IsTupleIter it t i) (ht:s.heap.IsTuple t its) (hx:its[i]? = some x)
  (k:∀ g,g.IsTupleIter it t (i + 1) → Heap.SameBut it s.heap g → Q x { s with heap:=g }):wpAny (model prog w) A (Builtin.SmallTypes.nextOf (.ref it)) Q E s:=by
 obtain ⟨o,eo,co,fo⟩:=id hit
 obtain ⟨ot,et,_,nt,ft⟩:=ht
 unfold Builtin.SmallTypes.nextOf
 refine wpAny_bind (wpAny_callSpecial?_slot (name:=Str.ofString "__next__") hit.typeIs F.slot_tuple_iterator_next (wpAny_call_entry F.slot_tuple_iterator_next hit.typeIs F.entry_tuple_iterator_next ?_ (F.args_tuple_iterator_next_1 _)))
 refine wpAny_bind (m:=field (.ref it) 0) (wpAny_field eo fo (x:=.ref t) rfl ?_)
 show wpAny _ _ (if (Value.ref t == Value.none) = true then _ else _) _ _ s
 rw [if_neg (by intro z; exact Bool.noConfusion z)]
 refine wpAny_bind (m:=field (.ref it) 1) (wpAny_field eo fo (x:=.int i 0) rfl ?_)
 refine wpAny_bind (m:=seqItems? (.ref t)) (wpAny_seqItems et ft ?_)
 simp only [Int.toNat_natCast,hx]
 refine wpAny_bind (wpAny_setField eo fo (by simp) (wpAny_pure ⟨x,rfl,wpAny_pure (k _ ⟨_,Heap.get?_update_self _ eo (Obj.isFreed_of_fields (Obj.data_mapFields fo _)),(Obj.cls_mapFields ..).trans co,?_⟩ (Heap.SameBut.update ..))⟩))
 rw [Obj.data_mapFields fo]
 simp [rawInt]
theorem zipT_item {z TI TO i j l t:Addr} {n:Nat} {xs ys:Array Value} {x y a b:Value} {Q:Value → Shared → Prop} (D:ZipApart z TI TO i j l t) (hz:IsZip s.heap z TI TO .none) (hI:IsPair s.heap TI (.ref i) (.ref j)) (hO:IsPair s.heap TO a b)
  (hi:s.heap.IsListIter i l n) (hj:s.heap.IsTupleIter j t n) (hl:s.heap.IsList l xs) (ht:s.heap.IsTuple t ys) (hx:xs[n]? = some x) (hy:ys[n]? = some y)
  (k:∀ g,IsZip g z TI TO (rawInt s.heap.objs.size) → IsPair g TO x y → g.IsListIter i l (n + 1) → g.IsTupleIter j t (n + 1) → IsPair g s.heap.objs.size x y → g.objs.size = s.heap.objs.size + 1 →
   (∀ c o,c ≠ z → c ≠ TO → c ≠ i → c ≠ j → s.heap.get? c = some o → g.get? c = some o) → Q (.ref s.heap.objs.size) { s with heap:=g }):
  wpAny (model prog w) A (Builtin.«zip.__next__» ⟨[.ref z],[]⟩) (fun f s'=>∃ v,f = .done (.ret v) ∧ Q v s') E s:=by
 refine wpAny_bind (m:=field (.ref z) 2) (wpAny_field hz rfl (x:=.bool false) rfl ?_)
 refine wpAny_bind (m:=field (.ref z) 3) (wpAny_field hz rfl (x:=.ref TI) rfl ?_)
 refine wpAny_bind (wpAny_seqItems hI rfl ?_)
 refine wpAny_bind (m:=Builtin.SmallTypes.ownedTupleIsFree (.ref z)) ?_
 unfold Builtin.SmallTypes.ownedTupleIsFree
 refine wpAny_bind (wpAny_field hz rfl (x:=.none) rfl (wpAny_pure ?_))
 simp only [if_true]
 refine wpAny_bind (wpAny_rule ?_)
 refine wpAny_bind (wpAny_field hz rfl (x:=.ref TO) rfl ?_)
 refine wpAny_bind (wpAny_setField_rec hz (by simp) fun g1 z1 s1=>?_)
 replace z1:IsZip g1 z TI TO .ellipsis:=z1
 have b1:=s1.extBut
 refine wpAny_bind ?_
 simp only [List.zipIdx_cons,List.zipIdx_nil,List.forIn_cons,List.forIn_nil]
 refine wpAny_bind (wpAny_bind (wpAny_onRaise ?_))
 refine wpAny_bind (m:=Builtin.SmallTypes.nextOf (.ref i)) (wpAny_nextOf_list_item (hi.extBut b1 D.i1z) (hl.extBut b1 D.l1z) hx fun g2 i2 s2=>wpAny_pure ?_)
 have b2:=s2.extBut
 have o2:IsPair g2 TO a b:=b2 _ _ D.TOi1 (b1 _ _ D.TOz hO)
 refine wpAny_bind (wpAny_seqItems o2 rfl ?_)
 refine wpAny_bind (wpAny_updateSeq_pair o2 fun g3 o3 s3=>?_)
 replace o3:IsPair g3 TO x b:=o3
 have b3:=s3.extBut
 refine wpAny_bind (wpAny_letGo (wpAny_pure ?_))
 refine wpAny_bind (wpAny_bind (wpAny_onRaise ?_))
 have jt:g3.IsTupleIter j t n:=by
  obtain ⟨o,e1,e2,e3⟩:=hj
  exact ⟨o,b3 _ _ D.TOi2.symm (b2 _ _ D.i12.symm (b1 _ _ D.i2z e1)),e2,e3⟩
 refine wpAny_bind (m:=Builtin.SmallTypes.nextOf (.ref j)) (nextOf_tupI jt (((ht.extBut b1 D.l2z).extBut b2 D.l2i1).extBut b3 D.l2TO) hy fun g4 j4 s4=>wpAny_pure ?_)
 have b4:=s4.extBut
 have o4:IsPair g4 TO x b:=b4 _ _ D.TOi2 o3
 refine wpAny_bind (wpAny_seqItems o4 rfl ?_)
 refine wpAny_bind (wpAny_updateSeq_pair o4 fun g5 o5 s5=>?_)
 replace o5:IsPair g5 TO x y:=o5
 have b5:=s5.extBut
 refine wpAny_bind (wpAny_letGo (wpAny_pure (wpAny_pure ?_)))
 refine wpAny_bind (wpAny_seqItems o5 rfl ?_)
 refine wpAny_bind (wpAny_newTuple ?_)
 have sz:g5.objs.size = s.heap.objs.size:=by rw [s5.1,s4.1,s3.1,s2.1,s1.1]
 have z5:IsZip g5 z TI TO .ellipsis:=b5 _ _ D.TOz.symm (b4 _ _ D.i2z.symm (b3 _ _ D.TOz.symm (b2 _ _ D.i1z.symm z1)))
 have kp:∀ c o,c ≠ z → c ≠ TO → c ≠ i → c ≠ j → s.heap.get? c = some o → g5.get? c = some o:=fun c o c1 c2 c3 c4 e=>b5 _ _ c2 (b4 _ _ c4 (b3 _ _ c2 (b2 _ _ c3 (b1 _ _ c1 e))))
 have i5:g5.IsListIter i l (n + 1):=((i2.extBut b3 D.TOi1.symm).extBut b4 D.i12).extBut b5 D.TOi1.symm
 have j5:g5.IsTupleIter j t (n + 1):=by
  obtain ⟨o,e1,e2,e3⟩:=j4
  exact ⟨o,b5 _ _ D.TOi2.symm e1,e2,e3⟩
 have zl:z < g5.objs.size:=Heap.lt_size z5
 refine wpAny_bind (m:=Builtin.SmallTypes.ownedTupleHandOut (.ref z) (.ref g5.objs.size)) ?_
 unfold Builtin.SmallTypes.ownedTupleHandOut
 have z6:IsZip (g5.push { cls:=.type "tuple",data:=.seq #[x,y] }) z TI TO .ellipsis:=Heap.get?_push_of_some _ z5
 refine wpAny_bind (wpAny_setField_rec z6 (by simp) fun g7 z7 s7=>?_)
 replace z7:IsZip g7 z TI TO (rawInt g5.objs.size):=z7
 refine wpAny_setField_rec z7 (by simp) fun g8 z8 s8=>?_
 replace z8:IsZip g8 z TI TO (rawInt g5.objs.size):=z8
 have up:∀ c o,c ≠ z → g5.get? c = some o → g8.get? c = some o:=fun c o c1 e=>s8.extBut _ _ c1 (s7.extBut _ _ c1 (Heap.get?_push_of_some _ e))
 have p8:IsPair g8 g5.objs.size x y:=s8.extBut _ _ (Nat.ne_of_gt zl) (s7.extBut _ _ (Nat.ne_of_gt zl) (Heap.get?_push_size _ rfl))
 have n8:g8.objs.size = g5.objs.size + 1:=by rw [s8.1,s7.1,Heap.size_push]
 rw [sz] at z8 p8 n8
 refine wpAny_pure ⟨_,rfl,?_⟩
 show Q (.ref g5.objs.size) _
 rw [sz]
 refine k g8 z8 (up _ _ D.TOz o5) (i5.at fun o e=>up _ o D.i1z e) ?_ p8 n8 fun c o c1 c2 c3 c4 e=>up c o c1 (kp c o c1 c2 c3 c4 e)
 obtain ⟨o,e1,e2,e3⟩:=j5
 exact ⟨o,up _ o D.i2z e1,e2,e3⟩
theorem zipT_end {z TI TO i j l t:Addr} {n:Nat} {xs:Array Value} {a b:Value} {Q:Fin → Shared → Prop} (hh:A.handled = none) (D:ZipApart z TI TO i j l t) (hz:IsZip s.heap z TI TO .none) (hI:IsPair s.heap TI (.ref i) (.ref j)) (hO:IsPair s.heap TO a b)
  (hi:s.heap.IsListIter i l n) (hl:s.heap.IsList l xs) (hx:xs[n]? = none)
  (k:∀ g e,(∀ c o,c ≠ z → c ≠ TO → c ≠ i → c ≠ j → s.heap.get? c = some o → g.get? c = some o) → (∃ o,g.get? e = some o ∧ o.cls = .type "StopIteration") → E (.ref e) { s with heap:=g }):
  wpAny (model prog w) A (Builtin.«zip.__next__» ⟨[.ref z],[]⟩) Q E s:=by
 refine wpAny_bind (m:=field (.ref z) 2) (wpAny_field hz rfl (x:=.bool false) rfl ?_)
 refine wpAny_bind (m:=field (.ref z) 3) (wpAny_field hz rfl (x:=.ref TI) rfl ?_)
 refine wpAny_bind (wpAny_seqItems hI rfl ?_)
 refine wpAny_bind (m:=Builtin.SmallTypes.ownedTupleIsFree (.ref z)) ?_
 unfold Builtin.SmallTypes.ownedTupleIsFree
 refine wpAny_bind (wpAny_field hz rfl (x:=.none) rfl (wpAny_pure ?_))
 simp only [if_true]
 refine wpAny_bind (wpAny_rule ?_)
 refine wpAny_bind (wpAny_field hz rfl (x:=.ref TO) rfl ?_)
 refine wpAny_bind (wpAny_setField_rec hz (by simp) fun g1 z1 s1=>?_)
 replace z1:IsZip g1 z TI TO .ellipsis:=z1
 have b1:=s1.extBut
 refine wpAny_bind ?_
 simp only [List.zipIdx_cons,List.zipIdx_nil,List.forIn_cons,List.forIn_nil]
 refine wpAny_bind (wpAny_bind (wpAny_onRaise ?_))
 refine wpAny_bind (m:=Builtin.SmallTypes.nextOf (.ref i)) (wpAny_nextOf_list_end hh (hi.extBut b1 D.i1z) (hl.extBut b1 D.l1z) hx fun g2 e s2 he=>?_)
 obtain ⟨oe,ee,ce⟩:=he
 have z2:IsZip g2 z TI TO .ellipsis:=s2 _ _ D.i1z.symm z1
 have ne:e ≠ z:=fun q=>by
  subst q
  rw [z2] at ee
  cases ee
  simp at ce
 exact wpAny_setField_rec z2 (by simp) fun g3 _ s3=>k g3 e (fun c o c1 _ c3 _ q=>s3.extBut _ _ c1 (s2 _ _ c3 (b1 _ _ c1 q))) ⟨oe,s3.extBut _ _ ne ee,ce⟩
theorem pyNext_zipT {z TI TO i j l t:Addr} {n:Nat} {xs ys:Array Value} {x y a b:Value} {Q:Option Value → Shared → Prop} (D:ZipApart z TI TO i j l t) (hz:IsZip s.heap z TI TO .none) (hI:IsPair s.heap TI (.ref i) (.ref j)) (hO:IsPair s.heap TO a b)
  (hi:s.heap.IsListIter i l n) (hj:s.heap.IsTupleIter j t n) (hl:s.heap.IsList l xs) (ht:s.heap.IsTuple t ys) (hx:xs[n]? = some x) (hy:ys[n]? = some y)
  (k:∀ g,IsZip g z TI TO (rawInt s.heap.objs.size) → IsPair g TO x y → g.IsListIter i l (n + 1) → g.IsTupleIter j t (n + 1) → IsPair g s.heap.objs.size x y → g.objs.size = s.heap.objs.size + 1 →
   (∀ c o,c ≠ z → c ≠ TO → c ≠ i → c ≠ j → s.heap.get? c = some o → g.get? c = some o) → Q (some (.ref s.heap.objs.size)) { s with heap:=g }):wpAny (model prog w) A (pyNext (.ref z)) Q E s:=by
 have ty:s.TypeIs (.ref z) "zip":=⟨_,hz,rfl⟩
 unfold pyNext
 exact wpAny_bind (wpAny_attempt (wpAny_callSpecial?_slot (name:=Str.ofString "__next__") ty F.slot_zip_next (wpAny_call_entry F.slot_zip_next ty F.entry_zip_next
  (zipT_item D hz hI hO hi hj hl ht hx hy fun g a1 a2 a3 a4 a5 a6 a7=>wpAny_pure (k g a1 a2 a3 a4 a5 a6 a7)) (F.args_zip_next_1 _))))
theorem pyNext_zipTE {z TI TO i j l t:Addr} {n:Nat} {xs:Array Value} {a b:Value} {Q:Option Value → Shared → Prop} (hh:A.handled = none) (D:ZipApart z TI TO i j l t) (hz:IsZip s.heap z TI TO .none) (hI:IsPair s.heap TI (.ref i) (.ref j)) (hO:IsPair s.heap TO a b)
  (hi:s.heap.IsListIter i l n) (hl:s.heap.IsList l xs) (hx:xs[n]? = none)
  (k:∀ g,(∀ c o,c ≠ z → c ≠ TO → c ≠ i → c ≠ j → s.heap.get? c = some o → g.get? c = some o) → Q none { s with heap:=g }):wpAny (model prog w) A (pyNext (.ref z)) Q E s:=by
 have ty:s.TypeIs (.ref z) "zip":=⟨_,hz,rfl⟩
 unfold pyNext
 refine wpAny_bind (wpAny_attempt (wpAny_callSpecial?_slot (name:=Str.ofString "__next__") ty F.slot_zip_next (wpAny_call_entry F.slot_zip_next ty F.entry_zip_next
  (zipT_end hh D hz hI hO hi hl hx fun g e kp he=>?_) (F.args_zip_next_1 _))))
 obtain ⟨o,ho,hc⟩:=he
 exact wpAny_bind (wpAny_isInstance (T:="StopIteration") (b:=true) ⟨o,ho,hc⟩ isSubtype_stop (wpAny_pure (k _ kp)))
end
abbrev zA (h:Heap) (l:Addr):Heap:=h.push { cls:=.type "list_iterator",data:=.fields #[.ref l,.int 0 0] }
abbrev zB (h:Heap) (l t:Addr):Heap:=(zA h l).push { cls:=.type "tuple_iterator",data:=.fields #[.ref t,.int 0 0] }
abbrev zC (h:Heap) (l t:Addr):Heap:=(zB h l t).push { cls:=.type "tuple",data:=.seq #[.ref h.objs.size,.ref (zA h l).objs.size] }
abbrev zD (h:Heap) (l t:Addr):Heap:=(zC h l t).push { cls:=.type "tuple",data:=.seq #[.none,.none] }
abbrev zE (h:Heap) (l t:Addr):Heap:=(zD h l t).push { cls:=.type "zip",data:=.fields #[.none,.bool false,.bool false,.ref (zB h l t).objs.size,.ref (zC h l t).objs.size] }
theorem zipT_new (l t:Addr) (xs ys:Array Value):Meets (Builtin.«zip.__new__» ⟨[.type "zip",.ref l,.ref t],[]⟩) (fun _ R s=>s.heap.IsList l xs ∧ s.heap.IsTuple t ys ∧ R (.ok (.ret (.ref (zD s.heap l t).objs.size))) { s with heap:=zE s.heap l t }):=
 .of_wp fun prog w A R s h=>by
  obtain ⟨hp,g,d,tk,os⟩:=s
  obtain ⟨h1,h2,h⟩:=h
  have sb:=sub_zip
  have e1:Heap.IsList (Shared.heap ⟨hp,g,d,tk,os⟩) l xs:=h1
  have e2:Heap.IsTuple (Shared.heap ⟨hp.push { cls:=.type "list_iterator",data:=.fields #[.ref l,.int 0 0] },g,d,tk,os⟩) t ys:=by
   obtain ⟨o,q1,q2,q3⟩:=h2
   exact ⟨o,Heap.get?_push_of_some _ q1,q2,q3⟩
  wp_walk using wpAny_pyIter_list e1,wpAny_pyIter_tuple e2
  exact ⟨_,rfl,h⟩
section
variable {prog:Program} {w:World} {A:Around} {E:Value → Shared → Prop} {s:Shared}
theorem call_zipT {l t:Addr} {xs ys:Array Value} {Q:Value → Shared → Prop} (hl:s.heap.IsList l xs) (ht:s.heap.IsTuple t ys)
  (k:∀ g,IsZip g (s.heap.objs.size + 4) (s.heap.objs.size + 2) (s.heap.objs.size + 3) .none → IsPair g (s.heap.objs.size + 2) (.ref s.heap.objs.size) (.ref (s.heap.objs.size + 1)) → IsPair g (s.heap.objs.size + 3) .none .none →
   g.IsListIter s.heap.objs.size l 0 → g.IsTupleIter (s.heap.objs.size + 1) t 0 → (∀ c o,s.heap.get? c = some o → g.get? c = some o) → Q (.ref (s.heap.objs.size + 4)) { s with heap:=g }):
  wpAny (model prog w) A (call (.type "zip") [.ref l,.ref t]) Q E s:=by
 refine callType_new F.called_zip (by decide) (F.typeCall_zip_2 _ _) (F.newCall_zip_2 _ _) (fun o=>F.args_object_init_3 o _ _) F.entry_zip_new (zipT_new l t xs ys) ⟨hl,ht,?_⟩
 have n1:(zA s.heap l).objs.size = s.heap.objs.size + 1:=Heap.size_push ..
 have n2:(zB s.heap l t).objs.size = s.heap.objs.size + 2:=by rw [Heap.size_push,n1]
 have n3:(zC s.heap l t).objs.size = s.heap.objs.size + 3:=by rw [Heap.size_push,n2]
 have n4:(zD s.heap l t).objs.size = s.heap.objs.size + 4:=by rw [Heap.size_push,n3]
 have q5:(zE s.heap l t).get? (zD s.heap l t).objs.size = some _:=Heap.get?_push_size _ rfl
 have q4:(zE s.heap l t).get? (zC s.heap l t).objs.size = some _:=Heap.get?_push_of_some _ (Heap.get?_push_size _ rfl)
 have q3:(zE s.heap l t).get? (zB s.heap l t).objs.size = some _:=Heap.get?_push_of_some _ (Heap.get?_push_of_some _ (Heap.get?_push_size _ rfl))
 have q2:(zE s.heap l t).get? (zA s.heap l).objs.size = some _:=Heap.get?_push_of_some _ (Heap.get?_push_of_some _ (Heap.get?_push_of_some _ (Heap.get?_push_size _ rfl)))
 have q1:(zE s.heap l t).get? s.heap.objs.size = some _:=Heap.get?_push_of_some _ (Heap.get?_push_of_some _ (Heap.get?_push_of_some _ (Heap.get?_push_of_some _ (Heap.get?_push_size _ rfl))))
 show _ ∧ _
 rw [n2,n3,n4] at q5
 rw [n1,n2] at q3
 rw [n3] at q4
 rw [n1] at q2
 rw [n4]
 exact ⟨⟨_,q5,rfl⟩,k _ q5 q3 q4 ⟨_,q1,rfl,rfl⟩ ⟨_,q2,rfl,rfl⟩ fun c o x=>Heap.get?_push_of_some _ (Heap.get?_push_of_some _ (Heap.get?_push_of_some _ (Heap.get?_push_of_some _ (Heap.get?_push_of_some _ x))))⟩
end
end Cc
end
section
set_option Elab.async false
set_option linter.all false
set_option maxRecDepth 100000
set_option maxHeartbeats 4000000
namespace Cc
open PySem PySem.Spec PyProof.Rows L2
open PySem.W (CodeHd tabObj kla_obj kla_fn envX)
section
variable {X:Cx} {pins:List (Addr × Obj)} {σ:L2.St} {H:Hp} {s:Shared}
theorem clo_lookup {cells:List (Str × Addr)} {names:List (Str × NameKind)} {y:Str} {c:Addr} (h:(y,NameKind.free) ∈ names) (e:cells.lookup y = some c):(cloFrom cells names []).lookup y = some c:=by
 obtain ⟨c',e'⟩:=mem_lookup (cloFrom_has (cells:=cells) (acc:=[]) h)
 rcases cloFrom_mem (PySem.mem_of_lookup e') with z | ⟨_,z⟩
 ·simp at z
 ·rw [e',z,e]
  rfl
theorem clo_inv {cells:List (Str × Addr)} {names:List (Str × NameKind)} {y:Str} {c:Addr} (hf:∀ y ∈ names,y.2 = NameKind.free → ∃ c,cells.lookup y.1 = some c) (h:(cloFrom cells names []).lookup y = some c):(y,NameKind.free) ∈ names ∧ cells.lookup y = some c:=by
 rcases cloFrom_mem (PySem.mem_of_lookup h) with z | ⟨h1,h2⟩
 ·simp at z
 ·obtain ⟨c0,e⟩:=hf _ h1 rfl
  have e:cells.lookup y = some c0:=e
  rw [e] at h2
  have h2:c = c0:=h2
  rw [h2]
  exact ⟨h1,e⟩
def lamX (X:Cx) (s:Shared) (H:Hp) (x qual:Str) (scope:Scope) (f:Addr) (cd:Value):Cx where
 prog:=X.prog
 w:=X.w
 K:=X.K
 mg:=X.mg
 base:=X.base
 A:=X.A.in1.deeper (envX qual scope s.heap.objs.size f cd (cloFrom X.env.cells scope.names []))
 N:=x :: X.N
 s_0:=s
 H_0:=H
 env:=envX qual scope s.heap.objs.size f cd (cloFrom X.env.cells scope.names [])
 outer:=X.stack
 stack:=envX qual scope s.heap.objs.size f cd (cloFrom X.env.cells scope.names []) :: X.stack
 ex:=[]
 fn:=fun _=>false
 calm:=true
 pn:=[]
 xe:=fun _ _=>False
structure LamScope (N:List Str) (out scope:Scope) (x:Str):Prop where
 kind:scope.kind = .function
 co:scope.isCoroutine = false
 gen:scope.isGenerator = false
 nx:x ∉ N
 loc:scope.names.lookup x = some .local
 one:∀ y ∈ scope.names,y.2 = .local → y.1 = x
 nocell:∀ y ∈ scope.names,y.2 ≠ .cell
 free:∀ y ∈ scope.names,y.2 = .free → out.names.lookup y.1 = some .cell
theorem LamScope.cells {scope:Scope} {x:Str} (S:LamScope X.N X.env.scope scope x) (ok:X.Ok):∀ y ∈ scope.names,y.2 = .free → ∃ c,X.env.cells.lookup y.1 = some c:=fun y hy e=>ok.has y.1 (.inl (S.free y hy e))
theorem lam_inv {scope:Scope} {x qual:Str} {f:Addr} {cd u:Value} {v:V} {h1:Heap} {t:Nat} (I:Inv X pins σ H s) (hc:X.calm = true) (S:LamScope X.N X.env.scope scope x) (ru:RelV v u)
  (hns:h1.Ns s.heap.objs.size (fun y=>([(x,u)]:List (Str × Value)).reverse.lookup y)) (kp:∀ b o,s.heap.get? b = some o → h1.get? b = some o):
  Inv (lamX X s H x qual scope f cd) [] (some v :: σ) H { s with heap:=h1,toks:=t }:=by
 have fr:=S.cells I.ok
 have nob:∀ b:Addr,b ∉ (lamX X s H x qual scope f cd).ex:=fun b z=>absurd (show b ∈ ([]:List Addr) from z) (by simp)
 have inv:∀ {y c},(lamX X s H x qual scope f cd).env.cells.lookup y = some c → (y,NameKind.free) ∈ scope.names ∧ X.env.cells.lookup y = some c:=fun {y c} h=>clo_inv fr h
 refine ⟨⟨I.ok.mod,S.kind,rfl,rfl,Nat.le_refl _,fun y z c q1 q2=>?_,fun y hy=>?_,fun y c q=>?_,fun _=>I.ok.hd hc,Around.frames_deeper (show X.A.in1.frames = some X.stack from I.ok.frames),.inr ⟨rfl,rfl⟩,fun b z=>absurd z (nob b),I.bs,Nat.le_trans I.ok.bsz I.sz,fun b _ _=>nob b,fun b z=>absurd z (nob b),I.stack,I.stkFree⟩,
  rfl,I.bare,Un.kept kp,⟨_,hns,fun i y v' e1 e2 e3=>?_⟩,fun y c q=>?_,I.hok.fresh (Nat.le_refl _),fun y c q=>?_,fun p hp=>absurd (show p ∈ ([]:List (Addr × Obj)) from hp) (by simp),I.hok.kept kp,?_⟩
 ·exact I.ok.inj y z c (inv q1).2 (inv q2).2
 ·have hy:scope.names.lookup y = some .cell ∨ scope.names.lookup y = some .free:=hy
  rcases hy with hy | hy
  ·exact absurd rfl (S.nocell _ (PySem.mem_of_lookup hy))
  ·obtain ⟨c,e⟩:=fr _ (PySem.mem_of_lookup hy) rfl
   exact ⟨c,clo_lookup (PySem.mem_of_lookup hy) e⟩
 ·cases q
 ·cases i with
  | zero=>
   have e1:some x = some y:=e1
   have e2:some (some v) = some (some v'):=e2
   cases e1
   cases e2
   exact ⟨u,ru,.inl ⟨S.loc,by simp⟩⟩
  | succ i=>
   have e1:X.N[i]? = some y:=e1
   have e2:σ[i]? = some (some v'):=e2
   have e3:Vis scope y:=e3
   have hf:(y,NameKind.free) ∈ scope.names:=by
    rcases e3 with q | q | q
    ·exact absurd (S.one _ (PySem.mem_of_lookup q) rfl ▸ List.mem_of_getElem? e1) S.nx
    ·exact absurd rfl (S.nocell _ (PySem.mem_of_lookup q))
    ·exact PySem.mem_of_lookup q
   have hcell:X.env.scope.names.lookup y = some .cell:=S.free _ hf rfl
   obtain ⟨m,hn,hl⟩:=I.loc
   obtain ⟨u',r',q⟩:=hl i y v' e1 e2 (.inr (.inl hcell))
   refine ⟨u',r',?_⟩
   rcases q with ⟨k,_⟩ | ⟨_,c,e,z⟩
   ·have k:X.env.scope.names.lookup y = some .local:=k
    rw [hcell] at k
    cases k
   ·refine .inr ⟨?_,c,clo_lookup hf e,z.keeps kp⟩
    rcases e3 with q | q | q
    ·exact absurd (S.one _ (PySem.mem_of_lookup q) rfl ▸ List.mem_of_getElem? e1) S.nx
    ·exact .inl q
    ·exact .inr q
 ·obtain ⟨w',z⟩:=I.cell y c (inv q).2
  exact ⟨w',z.keeps kp⟩
 ·exact I.freeC y c (inv q).2
 ·show σ.length + 1 = X.N.length + 1
  rw [I.len]
theorem lam_call {scope:Scope} {params:Arguments} {body:Expr} {x qual:Str} {f c':Addr} {pm ctv u:Value} {v:V} {t:TE} {Q:VK} (I:Inv X pins σ H s) (hc:X.calm = true) (hr:X.A.depth < recursionLimit) (S:LamScope X.N X.env.scope scope x)
  (hf:s.heap.get? f = some (kla_obj "<lambda>" qual params body scope (cloFrom X.env.cells scope.names []) pm c' ctv)) (hcd:s.heap.CodeRec (.ref c') qual)
  (hb:bindArgs (kla_fn "<lambda>" qual params body scope (cloFrom X.env.cells scope.names []) pm (.ref c') ctv) ⟨[u],[]⟩ = pure [(x,u)]) (ru:RelV v u)
  (hbody:PE (lamX X s H x qual scope f (.ref c')) body t) (ht:t (some v :: σ) H Q):wpAny (model X.prog X.w) X.A.in1 (call (.ref f) [u]) (EP X pins σ Q) (fun _ _=>False) s:=by
 have main:codeAny (model X.prog X.w) X.A.in1 (.call (.ref f) ⟨[u],[]⟩) (fun r z=>match r with | .ok (.ret u')=>EP X pins σ Q u' z | _=>False) s:=by
  refine PySem.W.kla_callFunE (show X.A.in1.depth < recursionLimit from hr) hf rfl S.co S.gen rfl hcd ?_
  rw [hb]
  refine wpAny_pure (wpAny_newFunctionEnv S.nocell (fun y hy=>?_) (fun h1 hns hsb=>⟨I.nolimit.fresh _ hsb,?_⟩) S.kind)
  ·have e:y = (x,u):=by simpa using hy
   rw [e]
   exact S.loc
  ·have kp:∀ b o,s.heap.get? b = some o → h1.get? b = some o:=fun b o e=>hsb.extBut b o (Nat.ne_of_lt (Heap.lt_size e)) (Heap.get?_push_of_some _ e)
   have IL:=lam_inv (f:=f) (cd:=.ref c') (qual:=qual) (t:=s.toks + 1) I hc S ru hns kp
   refine PySem.W.kla_codeExpr (wpAny_mono (hbody [] _ (some v :: σ) H Q IL ht) (fun u' z he=>?_) fun _ _ z=>z.elim)
   obtain ⟨v',H',I',r',q'⟩:=he
   exact I.after ⟨v',H',I'.os,I'.bare,I'.base,I'.hok,r',q'⟩
 refine wpAny_call (codeAny_mono main fun r z hq=>?_)
 cases r with
 | error e=>exact hq
 | ok fl=>
  cases fl with
  | ret u'=>exact hq
  | next=>exact hq
  | brk=>exact hq
  | cont=>exact hq
def CodeOf (H:Hp) (c':Addr) (qual:Str):Prop:=∃ oc vs t,H c' = some (.frz oc (.ext fun _=>True)) ∧ oc.data = .fields vs ∧ vs[1]? = some (.str qual t)
def LamT (H:Hp) (P:Addr) (pos:Pos) (qual:Str):Prop:=∃ ps:Array Value,H P = some (.tbl ps) ∧ TriplesOk ps.toList ∧ (codeAmong pos ps.toList = none ∨ ∃ c',codeAmong pos ps.toList = some (.ref c') ∧ CodeOf H c' qual)
theorem CodeOf.frz {H H':Hp} {c':Addr} {qual:Str} (h:CodeOf H c' qual) (k:∀ b o u,H b = some (.frz o u) → H' b = some (.frz o u)):CodeOf H' c' qual:=by
 obtain ⟨oc,vs,t,e,r⟩:=h
 exact ⟨oc,vs,t,k _ _ _ e,r⟩
theorem CodeOf.rec {P:Program} {w:World} {h:Heap} {c':Addr} {qual:Str} (x:CodeOf H c' qual) (ok:HOk P w H h):h.CodeRec (.ref c') qual:=by
 obtain ⟨oc,vs,t,e,d,v⟩:=x
 exact ⟨c',oc,vs,t,rfl,(ok c' _ e).1,d,v⟩
theorem triples_snoc {p:Pos} {c:Value}:∀ {l:List Value},TriplesOk l → TriplesOk (l ++ [rawInt p.line,rawInt p.col,c])
 | [],_=>trivial
 | .int _ _ :: .int _ _ :: _ :: r,h=>triples_snoc (l:=r) h
 | [.int _ _],h=>h.elim
 | [.int _ _,.int _ _],h=>h.elim
theorem lam_make {scope:Scope} {params:Arguments} {body:Expr} {x:Str} {pos:Pos} {c P:Addr} {Q:Value → Shared → Prop} (I:Inv X pins σ H s) (hcode:X.env.code = .ref c) (CK:∀ h:Heap,X.K.In h → CodeHd h c P) (hB:X.base.BuiltinsAt X.mg P)
  (S:LamScope X.N X.env.scope scope x) (hT:LamT H P pos (X.env.qual ++ "<lambda>")) (hdef:defaultsOf params X.env = ([],[]))
  (h:∀ f c' ctv s' H',Inv X pins σ H' s' → s'.heap.get? f = some (kla_obj "<lambda>" (X.env.qual ++ "<lambda>") params body scope (cloFrom X.env.cells scope.names []) ((X.mg "__name__").getD .none) c' ctv) → FpOk X pins H' f → f < s'.heap.objs.size →
   CodeOf H' c' (X.env.qual ++ "<lambda>") → LamT H' P pos (X.env.qual ++ "<lambda>") → (∀ b o,H b = some o → b ≠ P → H' b = some o) → Q (.ref f) s'):
  wpAny (model X.prog X.w) X.A (eval (.Lambda params body scope pos) X.env) Q X.xe s:=by
 obtain ⟨ps,hP,tri,hit⟩:=hT
 have hPh:s.heap.get? P = some (tabObj ps):=I.hok P _ hP
 have hg:s.heap.Ns mainGlobals X.mg:=I.mod.glob.keeps I.bk
 have hb:s.heap.BuiltinsAt X.mg P:=by
  obtain ⟨bm,o,q1,q2,q3,q4,q5,q6⟩:=hB
  exact ⟨bm,o,q1,q2,q3,q4,I.bk _ _ q5,q6⟩
 have hgP:mainGlobals ≠ P:=fun z=>by
  obtain ⟨o,es,ep,e,_⟩:=I.mod.glob
  have:=(I.bs _ _ e).2
  rw [z,hP] at this
  cases this
 refine PySem.W.kla_eval hdef ?_
 rcases hit with hit | ⟨c',hit,hco⟩
 ·refine PySem.W.kla_makeFunction (closure_ok (S.cells I.ok)) I.ok.glob hg hcode (CK _ I.kIn) hPh tri hit hgP hb fun c' ctv h' tk hx hge hlt hrec htb=>?_
  obtain ⟨c2,oc,vs,t,e2,hoc,hd,hv⟩:=hrec
  cases e2
  have hcn:H c' = none:=I.hok.fresh hge
  have hPc:P ≠ c':=ne_of_none hP hcn
  have lc:∀ {b o},s.heap.get? b = some o → b ≠ c':=fun e=>Nat.ne_of_lt (Nat.lt_of_lt_of_le (Heap.lt_size e) hge)
  have nfn:∀ {b o},h'.get? b = some o → (h'.push (kla_obj "<lambda>" (X.env.qual ++ "<lambda>") params body scope (cloFrom X.env.cells scope.names []) ((X.mg "__name__").getD .none) c' ctv)).get? b = some o:=fun e=>Heap.get?_push_of_some _ e
  have other:∀ {b o},H b = some o → b ≠ P → upd (upd H P (.tbl (ps ++ #[rawInt pos.line,rawInt pos.col,.ref c']))) c' (.frz oc (.ext fun _=>True)) b = some o:=fun {b o} e n=>by
   rw [upd_ne (ne_of_none e hcn),upd_ne n]
   exact e
  have atP:upd (upd H P (.tbl (ps ++ #[rawInt pos.line,rawInt pos.col,.ref c']))) c' (.frz oc (.ext fun _=>True)) P = some (.tbl (ps ++ #[rawInt pos.line,rawInt pos.col,.ref c'])):=by
   rw [upd_ne hPc,upd_same]
  have I2:=I.un (t':=tk) (h':=h'.push (kla_obj "<lambda>" (X.env.qual ++ "<lambda>") params body scope (cloFrom X.env.cells scope.names []) ((X.mg "__name__").getD .none) c' ctv)) (H':=upd (upd H P (.tbl (ps ++ #[rawInt pos.line,rawInt pos.col,.ref c']))) c' (.frz oc (.ext fun _=>True)))
   ⟨fun b o e n _ _=>nfn (hx b o (fun z=>by rw [z,hP] at n; cases n) e),fun b o e n _ _=>⟨o.slots,nfn (hx b o (fun z=>by rw [z,hP] at n; cases n) e)⟩,fun b o e n _=>?_,fun b o e _=>?_,fun b xs e=>other e (ne_of e hP (fun z=>nomatch z)),fun b o u e=>other e (ne_of e hP (fun z=>nomatch z)),fun b qs e=>?_⟩ (fun b u e=>?_)
  ·refine h _ c' ctv _ _ I2 (Heap.get?_push_size _ rfl) (I.fpOk ?_ ?_) ?_ ⟨oc,vs,t,upd_same,hd,hv⟩ ⟨_,atP,?_,.inr ⟨c',?_,oc,vs,t,upd_same,hd,hv⟩⟩ fun b o e n=>other e n
   ·exact Nat.le_of_lt (Nat.lt_of_le_of_lt hge hlt)
   ·rw [upd_ne (Nat.ne_of_gt hlt),upd_ne (Nat.ne_of_gt (Heap.lt_size htb))]
    exact I.hok.fresh (Nat.le_of_lt (Nat.lt_of_le_of_lt hge hlt))
   ·show h'.objs.size < (h'.push _).objs.size
    rw [Heap.size_push]
    exact Nat.lt_succ_self _
   ·rw [Array.toList_append]
    exact triples_snoc tri
   ·rw [Array.toList_append]
    exact codeAmong_snoc _ tri hit
  ·rw [upd_ne (lc e),upd_ne (fun z=>by rw [z,hP] at n; cases n)]
   exact n
  ·by_cases q:b = P
   ·rw [q]
    exact ⟨_,nfn htb⟩
   ·exact ⟨o,nfn (hx b o q e)⟩
  ·by_cases q:b = P
   ·subst q
    rw [hP] at e
    cases e
    exact ⟨_,atP⟩
   ·exact ⟨#[],by rw [other e q]; simp⟩
  ·by_cases q:b = c'
   ·subst q
    rw [upd_same] at e
    cases e
    exact ⟨nfn hoc,trivial,⟨_,nfn hoc⟩,fun _ _ _ _=>trivial⟩
   ·rw [upd_ne q] at e
    by_cases q2:b = P
    ·subst q2
     rw [upd_same] at e
     cases e
     exact nfn htb
    ·rw [upd_ne q2] at e
     refine (I.hok b u e).stay (fun a v ha r=>nfn (hx a v ?_ r)) (fun a r=>other r (ne_of r hP (fun z=>nomatch z))) fun a xs r=>other r (ne_of r hP (fun z=>nomatch z))
     rcases ha with rfl | ha
     ·exact q2
     ·exact ne_of ha hP (fun z=>nomatch z)
 ·refine PySem.W.kla_makeFunctionHit (closure_ok (S.cells I.ok)) I.ok.glob hg hcode (CK _ I.kIn) hPh tri hit hb fun ctv h' tk hk hsz=>?_
  have I2:Inv X pins σ H { s with heap:=h'.push { cls:=.type "function",data:=.func (kla_fn "<lambda>" (X.env.qual ++ "<lambda>") params body scope (cloFrom X.env.cells scope.names []) ((X.mg "__name__").getD .none) (.ref c') ctv) },toks:=tk }:=I.kept fun b o e=>Heap.get?_push_of_some _ (hk b o e)
  refine h _ c' ctv _ H I2 (Heap.get?_push_size _ rfl) (I.fpOk hsz (I.hok.fresh hsz)) ?_ hco ⟨ps,hP,tri,.inr ⟨c',hit,hco⟩⟩ fun b o e _=>e
  show h'.objs.size < (h'.push _).objs.size
  rw [Heap.size_push]
  exact Nat.lt_succ_self _
end
end Cc
end
section
set_option Elab.async false
set_option linter.all false
set_option maxRecDepth 100000
set_option maxHeartbeats 4000000
namespace Cc
open PySem PySem.Spec PyProof.Rows L2
open PySem.W (CodeHd tabObj kla_obj kla_fn envX)
theorem vals_back {ys:List V} {us:List Value} {i:Nat} {u:Value} (r:Vals ys us) (e:us[i]? = some u):∃ y,ys[i]? = some y ∧ RelV y u:=by
 have hl:=r.length
 have hi:=(List.getElem?_eq_some_iff.mp e).1
 obtain ⟨y,hy⟩:∃ y,ys[i]? = some y:=⟨_,List.getElem?_eq_getElem (by omega)⟩
 obtain ⟨u',e',ru⟩:=r.get hy
 rw [e] at e'
 cases e'
 exact ⟨y,hy,ru⟩
def gMin (kf:Nat → Int) (n i:Nat):Prop:=∀ j,j < n → kf i ≤ kf j ∧ (j < i → kf i < kf j)
def gMax (kf:Nat → Int) (n i:Nat):Prop:=∀ j,j < n → kf i ≥ kf j ∧ (j < i → kf i > kf j)
def tKey (K:PySem.W.Frag) (P:Addr) (lpos:Pos) (qual:Str) (gd:(Nat → Int) → Nat → Nat → Prop) (te t:TE):TE:=fun σ H Q=>te σ H fun v H1=>∃ (l:Addr) (ys:List V),v = .ref l ∧ SqL K H1 l ys ∧ 0 < ys.length ∧ LamT H1 P lpos qual ∧
 ∀ H2,LamT H2 P lpos qual → (∀ b o,H1 b = some o → b ≠ P → H2 b = some o) → ∃ (kf:Nat → Int) (Pv:Nat → Hp → Prop),Pv 0 H2 ∧ (∀ i H',Pv i H' → SqL K H' l ys ∧ ∀ b o u,H2 b = some (.frz o u) → H' b = some (.frz o u)) ∧
  (∀ i y H',ys[i]? = some y → Pv i H' → t (some y :: σ) H' fun v H''=>v = .int (kf i) ∧ Pv (i + 1) H'') ∧ ∀ H' i y,Pv ys.length H' → ys[i]? = some y → gd kf ys.length i → Q y H'
section
variable {X:Cx}
theorem pe_minkey {e:Expr} {te t:TE} {scope:Scope} {params:Arguments} {lbody:Expr} {x:Str} {p pos lpos kpos:Pos} {c P:Addr} (hc:X.calm = true) (hr:X.A.depth < recursionLimit) (hg:Gl X "min") (hm:X.mg "min" = none) (he:PE X e te) (hcode:X.env.code = .ref c) (CK:∀ h:Heap,X.K.In h → CodeHd h c P) (hB:X.base.BuiltinsAt X.mg P)
  (S:LamScope X.N X.env.scope scope x) (hbody:∀ (s:Shared) (H:Hp) (f:Addr) (cd:Value),PE (lamX X s H x (X.env.qual ++ "<lambda>") scope f cd) lbody t)
  (hb:∀ (pm ctv u:Value) (c':Addr),bindArgs (kla_fn "<lambda>" (X.env.qual ++ "<lambda>") params lbody scope (cloFrom X.env.cells scope.names []) pm (.ref c') ctv) ⟨[u],[]⟩ = pure [(x,u)]:=by intros; rfl)
  (hdef:defaultsOf params X.env = ([],[]):=by rfl) (hs:starEach [e] X.env = (false,eval e X.env) :: starEach [] X.env:=by rfl):
  PE X (.Call (.Name "min" p) [e] [⟨some "key",.Lambda params lbody scope lpos,kpos⟩] pos) (tKey X.K P lpos (X.env.qual ++ "<lambda>") gMin te t):=by
 intro pins s σ H Q I h
 refine wpAny_Call_Name_kw (ld_blt I hg hm (by decide +kernel:bootBuiltins "min" = some (.builtin "min")) ?_)
 refine PyProof.Rows.callWith_kw (thn ((pa_cons he pa_nil hs) pos pins s σ H (fun vs H1=>match vs with
  | [v]=>∃ (l:Addr) (ys:List V),v = .ref l ∧ SqL X.K H1 l ys ∧ 0 < ys.length ∧ LamT H1 P lpos (X.env.qual ++ "<lambda>") ∧
   ∀ H2,LamT H2 P lpos (X.env.qual ++ "<lambda>") → (∀ b o,H1 b = some o → b ≠ P → H2 b = some o) → ∃ (kf:Nat → Int) (Pv:Nat → Hp → Prop),Pv 0 H2 ∧ (∀ i H',Pv i H' → SqL X.K H' l ys ∧ ∀ b o u,H2 b = some (.frz o u) → H' b = some (.frz o u)) ∧
    (∀ i y H',ys[i]? = some y → Pv i H' → t (some y :: σ) H' fun v H''=>v = .int (kf i) ∧ Pv (i + 1) H'') ∧ ∀ H' i y,Pv ys.length H' → ys[i]? = some y → gMin kf ys.length i → Q y H'
  | _=>False) I h) fun us s1 ⟨vs,H1,I1,r1,q1⟩=>?_) (by rw [hs]; rfl) (by rw [hs]; rfl)
 rcases vs with _ | ⟨v,_ | ⟨_,_⟩⟩
 ·exact q1.elim
 ·obtain ⟨l,ys,rfl,hq,hne,hT,cont⟩:=q1
  rw [Vals.ref1 r1]
  show wpAny _ _ (evalAll [do let v ← eval (.Lambda params lbody scope lpos) X.env; standAt pos; pure v]) _ _ s1
  refine wpAny_evalAll_cons (wpAny_bind (lam_make I1 hcode CK hB S hT hdef fun f c' ctv s2 H2 I2 hf hfp hfl hco hT2 keep=>wpAny_bind (wpAny_standAt (wpAny_pure (wpAny_evalAll_nil ?_)))))
  obtain ⟨kf,Pv,p0,pl,turn,fin⟩:=cont H2 hT2 keep
  show wpAny _ _ (call (.builtin "min") [.ref l] [(Str.ofString "key",.ref f)]) _ _ s2
  obtain ⟨its,rvl,p',hz⟩:=I2.list (pl 0 H2 p0).1
  refine min_by (n:=ys.length) (G:=fun i u=>∃ y,ys[i]? = some y ∧ RelV y u) kf (I.ok.hd hc) ⟨its,p'.isList⟩ hne fun Ia Sa h1 hSI hI hS kp=>?_
  have I3:Inv X pins σ H2 { s2 with heap:=h1 }:=I2.kept (t':=s2.toks) kp
  have fI:FpOk X pins H2 Ia:=I2.fpOk hI (I2.hok.fresh hI)
  have fS:FpOk X pins H2 Sa:=I2.fpOk hS (I2.hok.fresh hS)
  have nfI:f ≠ Ia:=Nat.ne_of_lt (Nat.lt_of_lt_of_le hfl hI)
  have nfS:f ≠ Sa:=Nat.ne_of_lt (Nat.lt_of_lt_of_le hfl hS)
  refine ⟨fun j z=>∃ H',Inv X pins σ H' z ∧ Pv j H' ∧ H' Ia = none ∧ H' Sa = none ∧ H' f = none ∧ z.heap.get? f = some (kla_obj "<lambda>" (X.env.qual ++ "<lambda>") params lbody scope (cloFrom X.env.cells scope.names []) ((X.mg "__name__").getD .none) c' ctv),⟨H2,I3,p0,fI.1,fS.1,hfp.1,kp _ _ hf⟩,?_,?_,?_,?_⟩
  ·rintro j z ⟨H',I',pv,_⟩
   obtain ⟨its',rv',p'',_⟩:=I'.list (pl j H' pv).1
   exact ⟨its',p''.isList,rv'.length.symm,fun i u e=>vals_back rv' e⟩
  ·rintro j z a h' tk ⟨H',I',pv,n1,n2,n3,g⟩ ha kp'
   have nfa:f ≠ a:=by
    rcases ha with rfl | rfl
    ·exact nfS
    ·exact nfI
   have fa:H' a = none ∧ FpOk X pins H2 a:=by
    rcases ha with rfl | rfl
    ·exact ⟨n2,fS⟩
    ·exact ⟨n1,fI⟩
   exact ⟨H',I'.turned (t':=tk) kp' fa.1 fa.2.2.1 fa.2.2.2.2.1 fa.2.2.2.2.2.1 fa.2.2.2.2.2.2,pv,n1,n2,n3,kp' _ _ nfa g⟩
  ·rintro j u z oS oI ⟨y,hy,ru⟩ ⟨H',I',pv,n1,n2,n3,g⟩ hS' cS hI' cI
   have fpb:∀ b ∈ [Sa,Ia,f],FpOk X pins H' b ∧ ∃ o,z.heap.get? b = some o ∧ ∀ v,o.data ≠ .cell v:=fun b hb=>by
    simp only [List.mem_cons,List.not_mem_nil,or_false] at hb
    rcases hb with rfl | rfl | rfl
    ·exact ⟨⟨n2,fS.2⟩,oS,hS',cS⟩
    ·exact ⟨⟨n1,fI.2⟩,oI,hI',cI⟩
    ·exact ⟨⟨n3,hfp.2⟩,_,g,fun v q=>nomatch q⟩
   have I4:=I'.pinned (fp:=[Sa,Ia,f]) (fun b hb=>(fpb b hb).1) fun b hb=>(fpb b hb).2
   refine wpAny_mono (lam_call I4 hc hr S g ((hco.frz (pl j H' pv).2).rec I'.hok) (hb _ _ _ _) ru (hbody _ _ _ _) (turn j y H' hy pv)) (fun xv z' hx=>?_) fun _ _ q=>q
   obtain ⟨v',H'',I5,r5,rfl,pv'⟩:=hx
   have pin:∀ b o,b ∈ [Sa,Ia,f] → z.heap.get? b = some o → z'.heap.get? b = some o ∧ H'' b = none:=fun b o hb e=>
    let q:=I5.pin (b,o) (List.mem_append_right _ (List.mem_append_right _ (mem_pinsAt hb e)))
    ⟨q.1,q.2.1⟩
   have a1:=pin Sa oS (by simp) hS'
   have a2:=pin Ia oI (by simp) hI'
   have a3:=pin f _ (by simp) g
   exact ⟨r5,⟨H'',I5.unpinned,pv',a2.2,a1.2,a3.2,a3.1⟩,a1.1,a2.1⟩
  ·rintro i u z hi ⟨y,hy,ru⟩ best ⟨H',I',pv,_⟩
   exact ⟨y,H',I',ru,fin H' i y pv hy best⟩
 ·exact q1.elim
theorem pe_maxkey {e:Expr} {te t:TE} {scope:Scope} {params:Arguments} {lbody:Expr} {x:Str} {p pos lpos kpos:Pos} {c P:Addr} (hc:X.calm = true) (hr:X.A.depth < recursionLimit) (hg:Gl X "max") (hm:X.mg "max" = none) (he:PE X e te) (hcode:X.env.code = .ref c) (CK:∀ h:Heap,X.K.In h → CodeHd h c P) (hB:X.base.BuiltinsAt X.mg P)
  (S:LamScope X.N X.env.scope scope x) (hbody:∀ (s:Shared) (H:Hp) (f:Addr) (cd:Value),PE (lamX X s H x (X.env.qual ++ "<lambda>") scope f cd) lbody t)
  (hb:∀ (pm ctv u:Value) (c':Addr),bindArgs (kla_fn "<lambda>" (X.env.qual ++ "<lambda>") params lbody scope (cloFrom X.env.cells scope.names []) pm (.ref c') ctv) ⟨[u],[]⟩ = pure [(x,u)]:=by intros; rfl)
  (hdef:defaultsOf params X.env = ([],[]):=by rfl) (hs:starEach [e] X.env = (false,eval e X.env) :: starEach [] X.env:=by rfl):
  PE X (.Call (.Name "max" p) [e] [⟨some "key",.Lambda params lbody scope lpos,kpos⟩] pos) (tKey X.K P lpos (X.env.qual ++ "<lambda>") gMax te t):=by
 intro pins s σ H Q I h
 refine wpAny_Call_Name_kw (ld_blt I hg hm (by decide +kernel:bootBuiltins "max" = some (.builtin "max")) ?_)
 refine PyProof.Rows.callWith_kw (thn ((pa_cons he pa_nil hs) pos pins s σ H (fun vs H1=>match vs with
  | [v]=>∃ (l:Addr) (ys:List V),v = .ref l ∧ SqL X.K H1 l ys ∧ 0 < ys.length ∧ LamT H1 P lpos (X.env.qual ++ "<lambda>") ∧
   ∀ H2,LamT H2 P lpos (X.env.qual ++ "<lambda>") → (∀ b o,H1 b = some o → b ≠ P → H2 b = some o) → ∃ (kf:Nat → Int) (Pv:Nat → Hp → Prop),Pv 0 H2 ∧ (∀ i H',Pv i H' → SqL X.K H' l ys ∧ ∀ b o u,H2 b = some (.frz o u) → H' b = some (.frz o u)) ∧
    (∀ i y H',ys[i]? = some y → Pv i H' → t (some y :: σ) H' fun v H''=>v = .int (kf i) ∧ Pv (i + 1) H'') ∧ ∀ H' i y,Pv ys.length H' → ys[i]? = some y → gMax kf ys.length i → Q y H'
  | _=>False) I h) fun us s1 ⟨vs,H1,I1,r1,q1⟩=>?_) (by rw [hs]; rfl) (by rw [hs]; rfl)
 rcases vs with _ | ⟨v,_ | ⟨_,_⟩⟩
 ·exact q1.elim
 ·obtain ⟨l,ys,rfl,hq,hne,hT,cont⟩:=q1
  rw [Vals.ref1 r1]
  show wpAny _ _ (evalAll [do let v ← eval (.Lambda params lbody scope lpos) X.env; standAt pos; pure v]) _ _ s1
  refine wpAny_evalAll_cons (wpAny_bind (lam_make I1 hcode CK hB S hT hdef fun f c' ctv s2 H2 I2 hf hfp hfl hco hT2 keep=>wpAny_bind (wpAny_standAt (wpAny_pure (wpAny_evalAll_nil ?_)))))
  obtain ⟨kf,Pv,p0,pl,turn,fin⟩:=cont H2 hT2 keep
  show wpAny _ _ (call (.builtin "max") [.ref l] [(Str.ofString "key",.ref f)]) _ _ s2
  obtain ⟨its,rvl,p',hz⟩:=I2.list (pl 0 H2 p0).1
  refine max_by (n:=ys.length) (G:=fun i u=>∃ y,ys[i]? = some y ∧ RelV y u) kf (I.ok.hd hc) ⟨its,p'.isList⟩ hne fun Ia Sa h1 hSI hI hS kp=>?_
  have I3:Inv X pins σ H2 { s2 with heap:=h1 }:=I2.kept (t':=s2.toks) kp
  have fI:FpOk X pins H2 Ia:=I2.fpOk hI (I2.hok.fresh hI)
  have fS:FpOk X pins H2 Sa:=I2.fpOk hS (I2.hok.fresh hS)
  have nfI:f ≠ Ia:=Nat.ne_of_lt (Nat.lt_of_lt_of_le hfl hI)
  have nfS:f ≠ Sa:=Nat.ne_of_lt (Nat.lt_of_lt_of_le hfl hS)
  refine ⟨fun j z=>∃ H',Inv X pins σ H' z ∧ Pv j H' ∧ H' Ia = none ∧ H' Sa = none ∧ H' f = none ∧ z.heap.get? f = some (kla_obj "<lambda>" (X.env.qual ++ "<lambda>") params lbody scope (cloFrom X.env.cells scope.names []) ((X.mg "__name__").getD .none) c' ctv),⟨H2,I3,p0,fI.1,fS.1,hfp.1,kp _ _ hf⟩,?_,?_,?_,?_⟩
  ·rintro j z ⟨H',I',pv,_⟩
   obtain ⟨its',rv',p'',_⟩:=I'.list (pl j H' pv).1
   exact ⟨its',p''.isList,rv'.length.symm,fun i u e=>vals_back rv' e⟩
  ·rintro j z a h' tk ⟨H',I',pv,n1,n2,n3,g⟩ ha kp'
   have nfa:f ≠ a:=by
    rcases ha with rfl | rfl
    ·exact nfS
    ·exact nfI
   have fa:H' a = none ∧ FpOk X pins H2 a:=by
    rcases ha with rfl | rfl
    ·exact ⟨n2,fS⟩
    ·exact ⟨n1,fI⟩
   exact ⟨H',I'.turned (t':=tk) kp' fa.1 fa.2.2.1 fa.2.2.2.2.1 fa.2.2.2.2.2.1 fa.2.2.2.2.2.2,pv,n1,n2,n3,kp' _ _ nfa g⟩
  ·rintro j u z oS oI ⟨y,hy,ru⟩ ⟨H',I',pv,n1,n2,n3,g⟩ hS' cS hI' cI
   have fpb:∀ b ∈ [Sa,Ia,f],FpOk X pins H' b ∧ ∃ o,z.heap.get? b = some o ∧ ∀ v,o.data ≠ .cell v:=fun b hb=>by
    simp only [List.mem_cons,List.not_mem_nil,or_false] at hb
    rcases hb with rfl | rfl | rfl
    ·exact ⟨⟨n2,fS.2⟩,oS,hS',cS⟩
    ·exact ⟨⟨n1,fI.2⟩,oI,hI',cI⟩
    ·exact ⟨⟨n3,hfp.2⟩,_,g,fun v q=>nomatch q⟩
   have I4:=I'.pinned (fp:=[Sa,Ia,f]) (fun b hb=>(fpb b hb).1) fun b hb=>(fpb b hb).2
   refine wpAny_mono (lam_call I4 hc hr S g ((hco.frz (pl j H' pv).2).rec I'.hok) (hb _ _ _ _) ru (hbody _ _ _ _) (turn j y H' hy pv)) (fun xv z' hx=>?_) fun _ _ q=>q
   obtain ⟨v',H'',I5,r5,rfl,pv'⟩:=hx
   have pin:∀ b o,b ∈ [Sa,Ia,f] → z.heap.get? b = some o → z'.heap.get? b = some o ∧ H'' b = none:=fun b o hb e=>
    let q:=I5.pin (b,o) (List.mem_append_right _ (List.mem_append_right _ (mem_pinsAt hb e)))
    ⟨q.1,q.2.1⟩
   have a1:=pin Sa oS (by simp) hS'
   have a2:=pin Ia oI (by simp) hI'
   have a3:=pin f _ (by simp) g
   exact ⟨r5,⟨H'',I5.unpinned,pv',a2.2,a1.2,a3.2,a3.1⟩,a1.1,a2.1⟩
  ·rintro i u z hi ⟨y,hy,ru⟩ best ⟨H',I',pv,_⟩
   exact ⟨y,H',I',ru,fin H' i y pv hy best⟩
 ·exact q1.elim
end
end Cc
end
section
set_option Elab.async false
set_option linter.all false
set_option maxRecDepth 100000
set_option maxHeartbeats 4000000
namespace Cc
open PySem PySem.Spec PyProof.Rows L2
theorem firstMet_num (ns:List Int):∀ i,i ≤ ns.length → ((firstMet (fun i=>ns.getD i 0) i).length = i ↔ (ns.take i).Nodup)
 | 0,_=>by simp [firstMet_zero]
 | i + 1,hi=>by
  have ih:=firstMet_num ns i (by omega)
  have le:=firstMet_length_le (fun i=>ns.getD i 0) i
  have hx:ns[i]? = some (ns.getD i 0):=by simp [List.getD,show i < ns.length by omega]
  have hm:((List.range i).map fun i=>ns.getD i 0) = ns.take i:=by
   apply List.ext_getElem?
   intro j
   by_cases hj:j < i
   ·rw [List.getElem?_map,List.getElem?_range hj,List.getElem?_take_of_lt hj]
    simp [List.getD,show j < ns.length by omega]
   ·rw [List.getElem?_eq_none (by simp; omega),List.getElem?_eq_none (by simp; omega)]
  rw [firstMet_succ,step_length,firstMet_any,hm,List.take_add_one,hx]
  show _ ↔ (ns.take i ++ [ns.getD i 0]).Nodup
  rw [List.nodup_append]
  by_cases q:(ns.take i).any (fun x=>x == ns.getD i 0) = true
  ·rw [if_pos q]
   have hin:ns.getD i 0 ∈ ns.take i:=by
    obtain ⟨x,h1,h2⟩:=List.any_eq_true.mp q
    rw [← (by simpa using h2:x = ns.getD i 0)]
    exact h1
   constructor
   ·intro h
    omega
   ·rintro ⟨_,_,h3⟩
    exact absurd rfl (h3 _ hin _ (by simp))
  ·rw [if_neg q]
   have hin:ns.getD i 0 ∉ ns.take i:=fun h=>q (List.any_eq_true.mpr ⟨_,h,by simp⟩)
   constructor
   ·intro h
    refine ⟨ih.mp (by omega),by simp,fun x hx' y hy e=>?_⟩
    have:y = ns.getD i 0:=by simpa using hy
    exact hin (this ▸ e ▸ hx')
   ·rintro ⟨h1,_,_⟩
    have:=ih.mpr h1
    omega
section
variable {X:Cx}
theorem cr_set (hc:X.calm = true):CallR X (.type "set") (fun vs H Q=>∃ (a:Addr) (ns:List Int),vs = [V.ref a] ∧ SqL X.K H a (ns.map V.int) ∧ ns.length ≤ 1000 ∧ ∀ (p:Addr) (S:Int → Bool) (n:Nat),H p = none → (n = ns.length ↔ ns.Nodup) → Q (.ref p) (upd H p (.set S n))):=by
 intro pins s σ H vs us Q I r h
 obtain ⟨a,ns,rfl,hs,hb,q⟩:=h
 obtain ⟨its,rv,hl,_⟩:=I.list hs
 rw [Vals.ref1 r]
 have hi:=rv.ints
 have hn:=hi.length
 refine PySem.call_set_list (ns:=ns) (I.ok.hd hc) hl.isList (by simpa using hi) (by rw [List.size_toArray,hn]; unfold scanBound; omega) fun h' tk hS hk=>?_
 refine ⟨.ref _,_,I.laid (t':=tk) (o:=.set _ _) (fun b o e=>hk b o (Heap.lt_size e) e) (Nat.le_refl _) hS,rfl,q _ _ _ (I.hok.fresh (Nat.le_refl _)) ?_⟩
 rw [List.size_toArray,hn,firstMet_num ns _ (Nat.le_refl _),List.take_length]
theorem call_lenS:CallR X (.builtin "len") (fun vs H Q=>∃ (a:Addr) (S:Int → Bool) (n:Nat),vs = [V.ref a] ∧ H a = some (.set S n) ∧ Q (.int n) H):=by
 intro pins s σ H vs us Q I r h
 obtain ⟨a,S,n,rfl,ha,q⟩:=h
 rw [Vals.ref1 r]
 obtain ⟨o,es,ep,t,ho,hex,hd,_,_,hz,hf,rfl⟩:=(show s.heap.SetOf (intKind X.prog X.w) a S n from I.hok a _ ha)
 refine PySem.call_len_set ho hex hd hf ?_ ⟨.int _,H,I.tok _,⟨_,rfl⟩,q⟩
 unfold scanBound at hz
 omega
end
def ItzT (K:PySem.W.Frag) (a b:Addr):It:=
 ⟨fun i H=>∃ (xs ys:List V) (x y:V),SqL K H a xs ∧ SqT K H b ys ∧ xs[i]? = some x ∧ ys[i]? = some y,
  fun i H v H'=>∃ T x y,v = .ref T ∧ H T = none ∧ H' = upd H T (.tup [x,y]) ∧ (∀ xs,SqL K H a xs → xs[i]? = some x) ∧ ∀ ys,SqT K H b ys → ys[i]? = some y,
  fun i H=>∃ xs:List V,SqL K H a xs ∧ xs.length ≤ i⟩
theorem tupIt_at {h h':Heap} {it t:Addr} {i:Nat} (x:h.IsTupleIter it t i) (k:∀ o,h.get? it = some o → h'.get? it = some o):h'.IsTupleIter it t i:=by
 obtain ⟨o,e,c,d⟩:=x
 exact ⟨o,k o e,c,d⟩
theorem turn_zipT {P:Program} {w:World} {K:PySem.W.Frag} {elts:List Expr} {kk:Nat} {tpos:Pos} {a b z TI TO i1 i2:Addr} (D:ZipApart z TI TO i1 i2 a b):
  Turn P w K (.Tuple elts kk tpos) (ItzT K a b) [z,TI,TO,i1,i2] z (fun i h=>IsZip h z TI TO .none ∧ IsPair h TI (.ref i1) (.ref i2) ∧ (∃ x y,IsPair h TO x y) ∧ h.IsListIter i1 a i ∧ h.IsTupleIter i2 b i) where
 mem:=by simp
 obj:=fun i h st c hc=>by
  obtain ⟨hz,hTI,⟨x,y,hTO⟩,⟨o1,e1,_,d1⟩,⟨o2,e2,_,d2⟩⟩:=st
  simp only [List.mem_cons,List.not_mem_nil,or_false] at hc
  rcases hc with rfl | rfl | rfl | rfl | rfl
  ·exact ⟨_,hz,fun v q=>nomatch q⟩
  ·exact ⟨_,hTI,fun v q=>nomatch q⟩
  ·exact ⟨_,hTO,fun v q=>nomatch q⟩
  ·exact ⟨o1,e1,fun v q=>by rw [d1] at q; cases q⟩
  ·exact ⟨o2,e2,fun v q=>by rw [d2] at q; cases q⟩
 keep:=fun i h h' st k=>by
  obtain ⟨hz,hTI,⟨x,y,hTO⟩,h1,h2⟩:=st
  exact ⟨k z (by simp) _ hz,k TI (by simp) _ hTI,⟨x,y,k TO (by simp) _ hTO⟩,h1.at fun o q=>k i1 (by simp) o q,tupIt_at h2 fun o q=>k i2 (by simp) o q⟩
 item:=by
  intro X hP hw hK hc i pins s σ H E I hf st hg
  subst hP hw hK
  obtain ⟨hz,hTI,⟨x0,y0,hTO⟩,h1,h2⟩:=st
  obtain ⟨xs,ys,x,y,hqx,hqy,hx,hy⟩:=hg
  obtain ⟨its,rv,p,_⟩:=I.list hqx
  obtain ⟨its2,rv2,p2,_⟩:=I.tuple hqy
  obtain ⟨u,hu,ru⟩:=rv.get hx
  obtain ⟨u2,hu2,ru2⟩:=rv2.get hy
  have hzl:z < s.heap.objs.size:=Heap.lt_size hz
  refine pyNext_zipT D hz hTI hTO h1 h2 p.isList (show s.heap.IsTuple b its2.toArray from p2) (x:=u) (y:=u2) (by simpa using hu) (by simpa using hu2) fun h' z' TO' h1' h2' hT hsz hk=>?_
  refine ⟨_,rfl,wpAny_letOwnedTupleGo_zip (s:={ s with heap:=h' }) z' fun h'' z'' sb=>?_⟩
  have hT2:h''.get? s.heap.objs.size = some { cls:=.type "tuple",data:=.seq #[u,u2] }:=(sb.2 _ (Nat.ne_of_gt hzl)).trans hT
  have new:ObjOk X.prog X.w (upd H s.heap.objs.size (.tup [x,y])) h'' s.heap.objs.size (.tup [x,y]):=⟨by show 2 ≤ sizeLine; decide,[u,u2],.cons ru (.cons ru2 .nil),⟨_,hT2,rfl,_,rfl⟩⟩
  have I1:Inv X pins σ (upd H s.heap.objs.size (.tup [x,y])) { s with heap:=h'' }:=
   I.turnedNew (t':=s.toks) (ch:=[z,TI,TO,i1,i2]) (fun c o hb q=>(sb.2 c (fun q'=>hb (by simp [q']))).trans (hk c o (fun q'=>hb (by simp [q'])) (fun q'=>hb (by simp [q'])) (fun q'=>hb (by simp [q'])) (fun q'=>hb (by simp [q'])) q)) hf (Nat.le_refl _) new
  refine ⟨.ref s.heap.objs.size,_,I1,rfl,⟨_,x,y,rfl,I.hok.fresh (Nat.le_refl _),rfl,fun l hl=>by rw [I.list_inj hl hqx]; exact hx,fun l hl=>by rw [I.tuple_inj hl hqy]; exact hy⟩,⟨z'',?_,⟨u,u2,?_⟩,?_,?_⟩,fun c hcm=>?_⟩
  ·exact (sb.2 _ D.TIz).trans (hk _ _ D.TIz D.TITO D.TIi1 D.TIi2 hTI)
  ·exact (sb.2 _ D.TOz).trans TO'
  ·exact h1'.at fun o q=>(sb.2 _ D.i1z).trans q
  ·exact tupIt_at h2' fun o q=>(sb.2 _ D.i2z).trans q
  ·have hlt:c < s.heap.objs.size:=by
    simp only [List.mem_cons,List.not_mem_nil,or_false] at hcm
    rcases hcm with q | q | q | q | q
    ·rw [q]; exact hzl
    ·rw [q]; exact Heap.lt_size hTI
    ·rw [q]; exact Heap.lt_size hTO
    ·rw [q]; obtain ⟨_,e1,_⟩:=h1; exact Heap.lt_size e1
    ·rw [q]; obtain ⟨_,e2,_⟩:=h2; exact Heap.lt_size e2
   rw [upd_ne (Nat.ne_of_lt hlt)]
   exact (hf c hcm).1
 done:=by
  intro X hP hw hK hc i pins s σ H E I hf st hg
  subst hP hw hK
  obtain ⟨hz,hTI,⟨x0,y0,hTO⟩,h1,h2⟩:=st
  obtain ⟨xs,hqx,hend⟩:=hg
  obtain ⟨its,rv,p,_⟩:=I.list hqx
  have l1:=rv.length
  exact pyNext_zipTE (I.ok.hd hc) D hz hTI hTO h1 p.isList (by simp; omega) fun h' hk=>⟨rfl,I.turnedL (t':=s.toks) (ch:=[z,TI,TO,i1,i2]) (fun c o hb q=>
   hk c o (fun q'=>hb (by simp [q'])) (fun q'=>hb (by simp [q'])) (fun q'=>hb (by simp [q'])) (fun q'=>hb (by simp [q'])) q) hf⟩
 self:=fun A i s Q E st h=>wpAny_pyIter_zip st.1 h
def iZipT (K:PySem.W.Frag) (ta:TA):TI:=fun σ H R=>ta σ H fun vs H1=>∃ a b xs ys,vs = [.ref a,.ref b] ∧ SqL K H1 a xs ∧ SqT K H1 b ys ∧ R (ItzT K a b) H1
theorem pi_zipT {X:Cx} {e e2:Expr} {ta:TA} {p pos tpos:Pos} {elts:List Expr} {kk:Nat} (hg:Gl X "zip") (hm:X.mg "zip" = none) (ha:PA X [e,e2] ta)
  (hs:starEach [e,e2] X.env = (false,eval e X.env) :: starEach [e2] X.env:=by rfl) (hpl:(backTo pos (starEach [e2] X.env)).any (·.1) = false:=by rfl):
  PI X (.Tuple elts kk tpos) (.Call (.Name "zip" p) [e,e2] [] pos) (iZipT X.K ta):=by
 intro pins s σ H R I h
 refine Call_ (ld_blt I hg hm (by decide +kernel:bootBuiltins "zip" = some (.type "zip")) (PyProof.Rows.callWith_type1 (thn (ha pos pins s σ H _ I h) fun us s1 ⟨vs,H1,I1,r1,q1⟩=>?_) hs hpl))
 obtain ⟨a,b,xs,ys,ex,hqx,hqy,q⟩:=q1
 subst ex
 cases r1 with
 | cons r rr=>
  cases rr with
  | cons r' rr=>
   cases rr
   cases r
   cases r'
   obtain ⟨its,rv,p1,_⟩:=I1.list hqx
   obtain ⟨its2,rv2,p2,_⟩:=I1.tuple hqy
   have la:a < s1.heap.objs.size:=p1.lt
   have lb:b < s1.heap.objs.size:=p2.lt
   refine call_zipT p1.isList (show s1.heap.IsTuple b its2.toArray from p2) fun h' hz hTI hTO h1 h2 hk=>wpAny_pyIter_zip hz ?_
   have I2:Inv X pins σ H1 { s1 with heap:=h' }:=I1.kept (t':=s1.toks) hk
   refine ⟨s1.heap.objs.size + 4,[s1.heap.objs.size + 4,s1.heap.objs.size + 2,s1.heap.objs.size + 3,s1.heap.objs.size,s1.heap.objs.size + 1],_,_,H1,rfl,I2,turn_zipT (PySem.W.ktu_apart s1.heap.objs.size a b la lb),⟨hz,hTI,⟨_,_,hTO⟩,h1,h2⟩,fun c hcm=>?_,q⟩
   have hle:s1.heap.objs.size ≤ c:=by
    simp only [List.mem_cons,List.not_mem_nil,or_false] at hcm
    rcases hcm with z | z | z | z | z
    ·rw [z]; exact Nat.le_add_right _ _
    ·rw [z]; exact Nat.le_add_right _ _
    ·rw [z]; exact Nat.le_add_right _ _
    ·rw [z]; exact Nat.le_refl _
    ·rw [z]; exact Nat.le_add_right _ _
   exact I1.fpOk hle (I1.hok.fresh hle)
theorem for_zipT {K:PySem.W.Frag} {a b:Addr} {xs ys:List V} {g:TG} {tb:TS} {D:Ends} {σ:L2.St} {H:Hp} (len:xs.length ≤ ys.length) (Pv:Nat → L2.St → Hp → Prop) (h0:Pv 0 σ H) (hl:∀ i σ H,i ≤ xs.length → Pv i σ H → SqL K H a xs ∧ SqT K H b ys)
  (hs:∀ i x y σ H T,xs[i]? = some x → ys[i]? = some y → Pv i σ H → H T = none → g (.ref T) σ (upd H T (.tup [x,y])) fun σ2 H2=>tb { D with nx:=Pv (i + 1),ct:=Pv (i + 1),bk:=D.nx } σ2 H2) (hd:∀ σ H,Pv xs.length σ H → D.nx σ H):
  ∃ W:Nat → Nat → L2.St → Hp → Prop,(∃ m,W 0 m σ H) ∧ ∀ i m σ H,W i m σ H →
   ((ItzT K a b).stop i H ∧ D.nx σ H) ∨ ((ItzT K a b).go i H ∧ ∃ N:L2.St → Hp → Prop,(∀ σ' H',N σ' H' → ∃ m',m' < m ∧ W (i + 1) m' σ' H') ∧ ∀ x H',(ItzT K a b).yld i H x H' → g x σ H' fun σ2 H2=>tb { D with nx:=N,ct:=N,bk:=D.nx } σ2 H2):=by
 refine ⟨fun i m σ H=>m = xs.length - i ∧ i ≤ xs.length ∧ Pv i σ H,⟨xs.length,by simp,Nat.zero_le _,h0⟩,?_⟩
 rintro i m σ H ⟨rfl,hi,p⟩
 obtain ⟨q1,q2⟩:=hl i σ H hi p
 by_cases hlt:i < xs.length
 ·refine .inr ⟨⟨xs,ys,xs[i],ys[i],q1,q2,by simp [hlt],by simp⟩,Pv (i + 1),fun σ' H' p'=>⟨xs.length - (i + 1),by omega,rfl,hlt,p'⟩,fun v H' y=>?_⟩
  obtain ⟨T,x,y,rfl,hT,rfl,e1,e2⟩:=y
  exact hs i x y σ H T (e1 xs q1) (e2 ys q2) p hT
 ·have e:i = xs.length:=by omega
  subst e
  exact .inl ⟨⟨xs,q1,Nat.le_refl _⟩,hd σ H p⟩
theorem fun_okC {P:Program} {w:World} {K:PySem.W.Frag} {mg:Str → Option Value} {base:Heap} {x qual:Str} {st:Stmt} {f:Addr} {fd:FuncData} {N ps:List Str} {k:Nat} {sp:Sp} (F:Fun K x qual st f fd) (S:FnScope N ps (defScope st)) (len:∀ vs H Q E,sp vs H Q E → vs.length = ps.length)
  (hbody:∀ (cdv:Value) (A:Around) (outer:List Env) (s:Shared) (H:Hp) (vs:List V) (Q:VK) (E:XK),fd.code = cdv → Room k (A.deeper (envOfC qual (defScope st) s.heap.objs.size f cdv)) → sp vs H Q E →
   ∃ t,PSs (cxOf CX0 P w K mg base N qual (defScope st) f cdv A outer s H E).nox (defBody st) t ∧ t { nx:=fun _ H'=>Q .non H',rt:=Q } (L2.start N vs) H):FnOk P w K mg base CX0 (k + 1) f fd ps sp:=by
 obtain ⟨oc,od,kV,doc,pm,an,cdv,ct,osl,rfl,lk,hcd⟩:=F.ex
 refine fn_of lk hcd S len fun A outer s H vs Q E hr hsp=>?_
 obtain ⟨t,h,q⟩:=hbody cdv A outer s H vs Q E rfl hr hsp
 exact ⟨t,h.nox,q⟩
end Cc
end
section
set_option Elab.async false
set_option linter.all false
set_option maxRecDepth 100000
set_option maxHeartbeats 4000000
namespace Cc
open PySem PySem.Spec PyProof.Rows L2
open PySem.W (WData Codec OpenSpec Well WellAll ReadsW ReadsAllW CodeHd tabObj TabsAt)
def withT (Ps:List Addr) (H:Hp):Hp:=fun b=>if b ∈ Ps then some (.tbl #[]) else H b
theorem codeK {K:PySem.W.Frag} {h:Heap} {c P:Addr} {o:Obj} (X:K.In h) (x:CodeHd h c P) (l:K.lookup c = some o):∀ g:Heap,K.In g → CodeHd g c P:=fun g Y=>by
 obtain ⟨o',vs,a1,a2,a3,a4,a5,a6,a7,e,r⟩:=x
 rw [X _ _ l] at e
 cases e
 exact ⟨o,vs,a1,a2,a3,a4,a5,a6,a7,Y _ _ l,r⟩
theorem noTab_lookup {K:PySem.W.Frag} {h:Heap} {b:Addr} (X:K.In h) (hK:PySem.W.noTabs K = true) (e:h.get? b = some (tabObj #[])):K.lookup b = none:=by
 cases q:K.lookup b with
 | none=>rfl
 | some o=>
  have h2:=List.all_eq_true.mp hK (b,o) (PySem.W.mem_of_lookupK q)
  rw [X _ _ q] at e
  cases e
  exact absurd (show false = true from h2) Bool.false_ne_true
theorem specT_call {P:Program} {w:World} {K:PySem.W.Frag} {mg mb:Str → Option Value} {CX:CXT} {k:Nat} {fa:Addr} {fd:FuncData} {ps:List Str} {sp:Sp} {s1:Shared} {vals:List Value} {ds:List WData} {R:PySem.W.WRecords} {cl:Str → Option Addr} {d0:WData} {tabs:List (Addr × Addr)}
  (hT:TabsAt tabs s1.heap) (hK:PySem.W.noTabs K = true) (BM:∀ q ∈ tabs,s1.heap.BuiltinsAt mg q.2)
  (KX:K.In s1.heap) (hns:s1.heap.Ns mainGlobals mg) (hb:s1.heap.Ns builtinsNs mb) (hbb:∀ x:Str,x ≠ "__name__" → mb x = bootBuiltins x) (hlim:s1.heap.NoLimit) (hg:s1.gens = #[])
  (hwl:WellAll w.params s1.heap vals ds) (hpl:plWs ds = true) (hwt:∀ d ∈ ds,d.weight ≤ 1048576) (hr:Room k callerA)
  (F:∀ base:Heap,K.In base → base.Ns mainGlobals mg → (∀ q ∈ tabs,base.BuiltinsAt mg q.2) → FnOk P w K mg base CX k fa fd ps sp) (hbind:∀ (s:Shared) (us:List Value),us.length = ps.length → BindsTo s fd ⟨us,[]⟩ (ps.zip us)) (hlen:ds.length = ps.length)
  (hsp:∀ (H0 H:Hp) (xs:List V),DwAll K H0 xs ds → Same H0 H → (∀ q ∈ tabs,H q.2 = some (.tbl #[])) → sp xs H (fun v H'=>Dw K H' v d0) fun _ _ _=>False)
  (hCX:∀ H e s',CX [] H s1 (fun _ _ _=>False) e s' → False):
  codeAny (model P w) callerA (.call (.ref fa) ⟨vals,[]⟩) (fun r s'=>∃ u as,r = .ok (.ret u) ∧ ReadsW R cl s'.heap u d0 as ∧ OldK s1.heap s'.heap ∧ s'.os = s1.os ∧ AllBare s'.gens) s1:=by
 obtain ⟨A,ho,ar⟩:=area_all ds vals hwl hpl hwt
 have hO:OnlyF (argH K s1.heap A):=argH_only ar
 have hok0:HOk P w (argH K s1.heap A) s1.heap:=argH_ok ar
 have hS:=dw_all KX ar ds vals hwl hpl ho
 have hV:=vals_toV ho
 have hT1:∀ b ∈ tabs.map (·.2),s1.heap.get? b = some (tabObj #[]) ∧ isCodeTable s1.heap b:=fun b hb=>by
  obtain ⟨q,hq,rfl⟩:=List.mem_map.mp hb
  exact ⟨(hT q hq).2,((hT q hq).1.tab (hT q hq).2).isCodeTable⟩
 have isq:∀ {b u},argH K s1.heap A b = some u → K.lookup b = none ∧ ∃ c vs,s1.heap.get? b = some { cls:=.type c,data:=.seq vs }:=fun {b u} q=>by
  obtain ⟨h1,vs,_,_,⟨e2,_⟩ | ⟨e2,_⟩⟩:=argH_is ar q
  ·exact ⟨h1,_,_,e2⟩
  ·exact ⟨h1,_,_,e2⟩
 have apart:∀ {b u},argH K s1.heap A b = some u → b ∉ tabs.map (·.2):=fun {b u} q hb=>by
  obtain ⟨_,c,vs,e⟩:=isq q
  rw [(hT1 b hb).1] at e
  cases e
 have sm:Same (argH K s1.heap A) (withT (tabs.map (·.2)) (argH K s1.heap A)):=fun b o e=>by
  unfold withT
  rw [if_neg (apart e)]
  exact e
 have atT:∀ b ∈ tabs.map (·.2),withT (tabs.map (·.2)) (argH K s1.heap A) b = some (.tbl #[]):=fun b hb=>if_pos hb
 have hOT:∀ b,withT (tabs.map (·.2)) (argH K s1.heap A) b = none ∨ (∃ o u,withT (tabs.map (·.2)) (argH K s1.heap A) b = some (.frz o u)) ∨ b ∈ tabs.map (·.2):=fun b=>by
  by_cases hb:b ∈ tabs.map (·.2)
  ·exact .inr (.inr hb)
  ·unfold withT
   rw [if_neg hb]
   rcases hO b with z | z
   ·exact .inl z
   ·exact .inr (.inl z)
 have hok:HOk P w (withT (tabs.map (·.2)) (argH K s1.heap A)) s1.heap:=fun b u e=>by
  by_cases hb:b ∈ tabs.map (·.2)
  ·rw [atT b hb] at e
   cases e
   exact (hT1 b hb).1
  ·unfold withT at e
   rw [if_neg hb] at e
   refine (hok0 b u e).stay (fun _ _ _ q=>q) (fun c q=>sm c _ q) fun c xs q=>sm c _ q
 have nK:∀ b o,K.lookup b = some o → withT (tabs.map (·.2)) (argH K s1.heap A) b = none:=fun b o e=>by
  have hb:b ∉ tabs.map (·.2):=fun hb=>by
   rw [noTab_lookup KX hK (hT1 b hb).1] at e
   cases e
  unfold withT
  rw [if_neg hb]
  cases q:argH K s1.heap A b with
  | none=>rfl
  | some u=>
   rw [(isq q).1] at e
   cases e
 have noA:∀ {b:Addr} {o:Obj},s1.heap.get? b = some o → (∀ c vs n,o ≠ { cls:=.type c,data:=.seq vs n }) → o ≠ tabObj #[] → withT (tabs.map (·.2)) (argH K s1.heap A) b = none:=fun {b o} e d1 d2=>by
  have hb:b ∉ tabs.map (·.2):=fun hb=>by
   rw [(hT1 b hb).1] at e
   exact d2 (Option.some.inj e).symm
  unfold withT
  rw [if_neg hb]
  cases q:argH K s1.heap A b with
  | none=>rfl
  | some u=>
   obtain ⟨_,c,vs,e2⟩:=isq q
   rw [e2] at e
   exact absurd (Option.some.inj e).symm (d1 _ _ _)
 have key:=hsp _ _ _ hS sm fun q hq=>atT _ (List.mem_map_of_mem hq)
 generalize withT (tabs.map (·.2)) (argH K s1.heap A) = H at atT hOT hok nK noA key
 have base_of:∀ {b:Addr} {o:Obj},s1.heap.get? b = some o → H b = none → (hidT s1.heap H).get? b = some o:=fun e n=>hidT_get e n
 have nsK:∀ {b:Addr} {m:Str → Option Value},s1.heap.Ns b m → (hidT s1.heap H).Ns b m:=fun {b m} ⟨o,es,ep,e,d,r⟩=>⟨o,es,ep,base_of e (noA e (fun c vs n z=>by rw [z] at d; cases d) (fun z=>by rw [z] at d; cases d)),d,r⟩
 have hKb:K.In (hidT s1.heap H):=fun b o e=>base_of (KX b o e) (nK b o e)
 have hM:Mod K mg (hidT s1.heap H):=⟨hKb,nsK hns,⟨mb,nsK hb,hbb⟩,let ⟨mc,h1,h2⟩:=hlim; ⟨mc,nsK h1,h2⟩⟩
 have hBM:∀ q ∈ tabs,(hidT s1.heap H).BuiltinsAt mg q.2:=fun q hq=>by
  obtain ⟨bm,o,q1,q2,q3,q4,q5,q6,q7,q8⟩:=BM q hq
  exact ⟨bm,o,q1,q2,q3,q4,base_of q5 (noA q5 (fun c vs n z=>by rw [z] at q8; cases q8) (fun z=>by rw [z] at q8; cases q8)),q6,q7,q8⟩
 have e0:Env0 P w K mg (hidT s1.heap H) callerA [] s1 H:=⟨rfl,hM,fun b o e=>of_hidT e,Nat.le_of_eq (hidT_size _ _),trivial,fun b hb=>absurd (show b ∈ ([]:List Addr) from hb) (by simp),hok,.of_eq hg⟩
 have hl:vals.length = ps.length:=by rw [wellAll_len hwl]; exact hlen
 refine codeAny_mono ((F _ hKb (nsK hns) hBM).run callerA [] s1 H ⟨vals,[]⟩ vals (vals.map toV) _ _ hr e0 (hbind s1 vals hl) hV key) fun r s' x=>?_
 cases r with
 | error e=>exact (hCX H e s' x).elim
 | ok fl=>
  cases fl with
  | next=>exact False.elim x
  | brk=>exact False.elim x
  | cont=>exact False.elim x
  | ret u=>
   obtain ⟨v,H',os,bare,un,hok',r',q⟩:=x
   have kept:∀ b o,s1.heap.get? b = some o → b ∉ tabs.map (·.2) → s'.heap.get? b = some o:=fun b o e nb=>by
    rcases hOT b with z | ⟨ob,u3,z⟩ | z
    ·exact un.keep b o e z (by intro z; exact absurd (show b ∈ ([]:List Addr) from z) (by simp)) (by simp)
    ·obtain ⟨e1,_⟩:=hok b _ z
     obtain ⟨e2,_⟩:=hok' b _ (un.frzs b ob _ z)
     rw [e] at e1
     cases e1
     exact e2
    ·exact absurd z nb
   have grown:∀ b ∈ tabs.map (·.2),∃ more:Array Value,s'.heap.get? b = some { cls:=.none,data:=.fields (#[] ++ more) }:=fun b hb=>by
    obtain ⟨more,z⟩:=un.tbls b #[] (atT b hb)
    exact ⟨more,hok' b _ z⟩
   have old:OldK s1.heap s'.heap:=by
    refine ⟨fun b o e=>?_,fun b o e=>?_⟩
    ·by_cases hb:b ∈ tabs.map (·.2)
     ·obtain ⟨more,z⟩:=grown b hb
      obtain ⟨e1,e2⟩:=hT1 b hb
      rw [e1] at e
      cases e
      exact .inr (.inl ⟨e2,rfl,#[],more,rfl,z⟩)
     ·exact .inl (kept b o e hb)
    ·by_cases hb:b ∈ tabs.map (·.2)
     ·obtain ⟨more,z⟩:=grown b hb
      exact ⟨_,z⟩
     ·exact ⟨o,kept b o e hb⟩
   have KX':K.In s'.heap:=fun b o e=>kept b o (KX b o e) fun hb=>by
    rw [noTab_lookup KX hK (hT1 b hb).1] at e
    cases e
   obtain ⟨as,hrd⟩:=Dw.reads (R:=R) (cl:=cl) hok' KX' d0 v u q r'
   exact ⟨u,as,rfl,hrd,old,os,bare⟩
theorem walk_specT {r:OpenSpec} {k:Nat} {q:Program} {loose:List Str} {XP:(Str → Option Value) → Heap → Prop} {YP:World → Heap → Prop} {d:DefRec} {K:Params → PySem.W.Frag} {CX:CXT} {ps:List Str} {sp:PySem.W.Frag → Sp} (tabs:List (Addr × Addr))
  (hwell:r.wellSaid = true) (hdf:d.params.defaults = []) (hlen:r.args.length = ps.length) (hr:Room k callerA) (hY:∀ (w:World) (h:Heap),YP w h → (K w.params).In h)
  (hT:∀ (w:World) (mg mb:Str → Option Value) (mean:ExcName → Option Value) (h:Heap),PyProof.Rows.Top q (PySem.W.looseW q loose) mean mg mb h → YP w h → TabsAt tabs h) (hK:∀ w:World,PySem.W.noTabs (K w.params) = true)
  (F:∀ (w:World) (mg:Str → Option Value) (fa:Addr) (h:Heap),YP w h → (K w.params).In h → h.Ns mainGlobals mg → mg d.name = some (.ref fa) → TabsAt tabs h →
   ∃ fd:FuncData,(∀ (s:Shared) (us:List Value),us.length = ps.length → BindsTo s fd ⟨us,[]⟩ (ps.zip us)) ∧
    ∀ base:Heap,(K w.params).In base → base.Ns mainGlobals mg → (∀ q ∈ tabs,base.BuiltinsAt mg q.2) → FnOk r.prog w (K w.params) mg base CX k fa fd ps (sp (K w.params)))
  (hsp:∀ (K:PySem.W.Frag) (H0 H:Hp) (xs:List V) (a:Codec.denoteAll r.args),Codec.withinAll r.args a = true → Codec.app r.args r.asked a = true → DwAll K H0 xs (Codec.encAll r.args a) → Same H0 H → (∀ q ∈ tabs,H q.2 = some (.tbl #[])) →
   sp K xs H (fun v H'=>Dw K H' v (r.ret.enc (Codec.app r.args r.f a))) fun _ _ _=>False)
  (hCX:∀ (H:Hp) (s:Shared) (e:Value) (s':Shared),CX [] H s (fun _ _ _=>False) e s' → False):
  PySem.W.WalkOS q loose XP YP r d [] (fun f vs=>PySem.call f vs):=by
 intro w s0 s1 mg mb G Y fa o pm cd doc dV kV ho hd hcd hD hmg hg args vals as hpre hlay hrd hwl hlo
 obtain ⟨a,e1,e2⟩:=PySem.W.os_pre_some hpre
 obtain ⟨e3,hwi⟩:=Codec.encAll_of_decAll r.args args a e1
 subst e3
 have KX:=hY w _ Y
 have TT:=hT w mg mb _ _ G.T Y
 have BM:∀ q ∈ tabs,s1.heap.BuiltinsAt mg q.2:=fun q hq=>by
  obtain ⟨bm,ob,b1,b2,b3,b4,b5,b6⟩:=G.T.bmain
  refine ⟨bm,ob,b1,b2,fun z=>?_,fun z=>?_,b3,b4,b5,b6⟩
  ·obtain ⟨o,es,ep,e,hd,_⟩:=G.T.g
   rw [z,e] at b3
   cases b3
   rw [hd] at b6
   cases b6
  ·rw [z,(TT q hq).2] at b3
   cases b3
   cases b4
 obtain ⟨fd,hb,hF⟩:=F w mg fa _ Y KX G.T.g hmg TT
 refine PySem.W.enter_call (codeAny_mono (specT_call (R:=[]) (cl:=classAt s0.heap) (d0:=r.ret.enc (Codec.app r.args r.f a)) TT (hK w) BM KX G.T.g G.T.b G.T.builtins G.T.nolimit hg hwl (pl_encAll _ _) (layable_weight hlay) hr hF hb (by rw [encAll_len]; exact hlen)
  (fun H0 H xs hS hm ht=>hsp (K w.params) H0 H xs a hwi e2 hS hm ht) fun H e s'=>hCX H s1 e s') fun r' s' hq=>?_)
 obtain ⟨u,as',rfl,h1,h2,h3,h4⟩:=hq
 exact ⟨.inl ⟨u,_,as',rfl,fun _=>rfl,h1,(OpenSpec.post_iff hwell hwi _ _).mpr rfl,fun z=>Bool.noConfusion (show false = true from z)⟩,h2,h3,h4⟩
end Cc
end
section
set_option Elab.async false
set_option linter.all false
set_option maxRecDepth 100000
set_option maxHeartbeats 4000000
namespace Cc
open PySem PySem.Spec PyProof.Rows L2
def top (i:Nat):Stmt:=PySem.Challenge.pw_cardclaims_s01_answers.main.body.getD i (.Pass ⟨0,0,0,0⟩)
abbrev s_Deal_init:Stmt:=inClass (top 3) 0
abbrev s_Position_init:Stmt:=inClass (top 4) 0
abbrev s_between_tricks:Stmt:=top 5
abbrev s_start:Stmt:=top 6
abbrev s_hand_of:Stmt:=top 7
abbrev s_leader_of:Stmt:=top 8
abbrev s_key_of:Stmt:=top 9
abbrev s_tricks_of_rest:Stmt:=top 10
abbrev s_may_play:Stmt:=top 11
abbrev s_beats:Stmt:=top 12
abbrev s_position_behind:Stmt:=top 13
abbrev s_trick_won:Stmt:=top 14
abbrev s_Valuing_init:Stmt:=inClass (top 16) 0
abbrev s_value:Stmt:=top 17
abbrev s_value_for_side_0:Stmt:=top 18
abbrev s_value_with:Stmt:=top 19
abbrev s_score_of:Stmt:=top 21
abbrev s_gifts_of_cards:Stmt:=top 22
abbrev s_account_of_claim:Stmt:=top 23
abbrev s_value_still_open:Stmt:=top 24
abbrev s_account_of:Stmt:=top 25
abbrev s_Claim_init:Stmt:=inClass (top 28) 0
abbrev s_Ending_init:Stmt:=inClass (top 29) 0
abbrev s_begin:Stmt:=top 30
abbrev s_put_card:Stmt:=top 31
abbrev s_take_card_back:Stmt:=top 32
abbrev s_Statement_init:Stmt:=inClass (top 37) 0
abbrev s_highest_of_suits:Stmt:=top 38
abbrev s_lowest_of_suits:Stmt:=top 39
abbrev s_let_by_way:Stmt:=top 40
abbrev s_cards_let:Stmt:=top 41
abbrev s_Judging_init:Stmt:=inClass (top 43) 0
abbrev s_judged:Stmt:=top 44
abbrev s_judged_with:Stmt:=top 45
abbrev s_sure_for:Stmt:=top 46
abbrev s_worst_play:Stmt:=top 47
abbrev s_worst_card:Stmt:=top 48
abbrev s_Call_init:Stmt:=inClass (top 52) 0
abbrev s_call_at:Stmt:=top 53
abbrev s_row_in_range:Stmt:=top 54
abbrev s_in_range:Stmt:=top 55
abbrev s_Wording_init:Stmt:=inClass (top 57) 0
abbrev s_own_cards:Stmt:=top 58
abbrev s_judged_with_row:Stmt:=top 59
abbrev s_cards_needed:Stmt:=top 60
abbrev s_orders_of:Stmt:=top 61
abbrev s_best_order:Stmt:=top 62
abbrev s_hands_are_right:Stmt:=top 75
abbrev s_cards_told:Stmt:=top 76
abbrev s_deal:Stmt:=top 77
abbrev s_turn_and_tricks:Stmt:=top 78
abbrev s_play:Stmt:=top 79
abbrev s_back:Stmt:=top 80
abbrev s_turn:Stmt:=top 81
abbrev s_judge:Stmt:=top 82
abbrev s_claim:Stmt:=top 83
abbrev s_withdraw:Stmt:=top 84
abbrev s_worst:Stmt:=top 85
abbrev s_sure:Stmt:=top 86
abbrev s_shortest:Stmt:=top 87
abbrev s_order:Stmt:=top 88
abbrev s_score:Stmt:=top 89
abbrev s_account:Stmt:=top 90
abbrev s_lets:Stmt:=top 91
abbrev s_claim_told:Stmt:=top 92
abbrev s_told:Stmt:=top 93
abbrev s_answer:Stmt:=top 95
abbrev s_answers:Stmt:=top 96
theorem sc_Deal_init:FnScope ["self","hands","trump","leader"] ["self","hands","trump","leader"] (defScope s_Deal_init):=⟨rfl,rfl,rfl,by decide +kernel,rfl,by decide +kernel,by decide +kernel⟩
theorem sc_Position_init:FnScope ["self","deal","left","seat","count","led","best","winner"] ["self","deal","left","seat","count","led","best","winner"] (defScope s_Position_init):=⟨rfl,rfl,rfl,by decide +kernel,rfl,by decide +kernel,by decide +kernel⟩
theorem sc_between_tricks:FnScope ["deal","left","leader"] ["deal","left","leader"] (defScope s_between_tricks):=⟨rfl,rfl,rfl,by decide +kernel,rfl,by decide +kernel,by decide +kernel⟩
theorem sc_start:FnScope ["deal","left","hand","card"] ["deal"] (defScope s_start):=⟨rfl,rfl,rfl,by decide +kernel,rfl,by decide +kernel,by decide +kernel⟩
theorem sc_hand_of:FnScope ["position","seat","left","card"] ["position","seat"] (defScope s_hand_of):=⟨rfl,rfl,rfl,by decide +kernel,rfl,by decide +kernel,by decide +kernel⟩
theorem sc_leader_of:FnScope ["position"] ["position"] (defScope s_leader_of):=⟨rfl,rfl,rfl,by decide +kernel,rfl,by decide +kernel,by decide +kernel⟩
theorem sc_key_of:FnScope ["position"] ["position"] (defScope s_key_of):=⟨rfl,rfl,rfl,by decide +kernel,rfl,by decide +kernel,by decide +kernel⟩
theorem sc_tricks_of_rest:FnScope ["position","seat"] ["position"] (defScope s_tricks_of_rest):=⟨rfl,rfl,rfl,by decide +kernel,rfl,by decide +kernel,by decide +kernel⟩
theorem sc_may_play:FnScope ["position","hand","led","following","card"] ["position"] (defScope s_may_play):=⟨rfl,rfl,rfl,by decide +kernel,rfl,by decide +kernel,by decide +kernel⟩
theorem sc_beats:FnScope ["card","best","trump","suit","best_suit"] ["card","best","trump"] (defScope s_beats):=⟨rfl,rfl,rfl,by decide +kernel,rfl,by decide +kernel,by decide +kernel⟩
theorem sc_position_behind:FnScope ["position","card","deal","left","best","winner","led"] ["position","card"] (defScope s_position_behind):=⟨rfl,rfl,rfl,by decide +kernel,rfl,by decide +kernel,by decide +kernel⟩
theorem sc_trick_won:FnScope ["position","side"] ["position","side"] (defScope s_trick_won):=⟨rfl,rfl,rfl,by decide +kernel,rfl,by decide +kernel,by decide +kernel⟩
theorem sc_Valuing_init:FnScope ["self"] ["self"] (defScope s_Valuing_init):=⟨rfl,rfl,rfl,by decide +kernel,rfl,by decide +kernel,by decide +kernel⟩
theorem sc_value:FnScope ["valuing","position","side","for_side_0"] ["valuing","position","side"] (defScope s_value):=⟨rfl,rfl,rfl,by decide +kernel,rfl,by decide +kernel,by decide +kernel⟩
theorem sc_value_for_side_0:FnScope ["valuing","position","key","tricks","card"] ["valuing","position"] (defScope s_value_for_side_0):=⟨rfl,rfl,rfl,by decide +kernel,rfl,by decide +kernel,by decide +kernel⟩
theorem sc_value_with:FnScope ["valuing","position","card","behind"] ["valuing","position","card"] (defScope s_value_with):=⟨rfl,rfl,rfl,by decide +kernel,rfl,by decide +kernel,by decide +kernel⟩
theorem sc_score_of:FnScope ["ending","score","claim"] ["ending"] (defScope s_score_of):=⟨rfl,rfl,rfl,by decide +kernel,rfl,by decide +kernel,by decide +kernel⟩
theorem sc_gifts_of_cards:FnScope ["valuing","ending","gifts","position","card","side","behind","kept"] ["valuing","ending"] (defScope s_gifts_of_cards):=⟨rfl,rfl,rfl,by decide +kernel,rfl,by decide +kernel,by decide +kernel⟩
theorem sc_account_of_claim:FnScope ["valuing","ending","claim"] ["valuing","ending"] (defScope s_account_of_claim):=⟨rfl,rfl,rfl,by decide +kernel,rfl,by decide +kernel,by decide +kernel⟩
theorem sc_value_still_open:FnScope ["valuing","ending"] ["valuing","ending"] (defScope s_value_still_open):=⟨rfl,rfl,rfl,by decide +kernel,rfl,by decide +kernel,by decide +kernel⟩
theorem sc_account_of:FnScope ["ending","valuing","dealt","gifts","by_claim"] ["ending"] (defScope s_account_of):=⟨rfl,rfl,rfl,by decide +kernel,rfl,by decide +kernel,by decide +kernel⟩
theorem sc_Claim_init:FnScope ["self","side","tricks","judged","sure","awarded"] ["self","side","tricks","judged","sure","awarded"] (defScope s_Claim_init):=⟨rfl,rfl,rfl,by decide +kernel,rfl,by decide +kernel,by decide +kernel⟩
theorem sc_Ending_init:FnScope ["self"] ["self"] (defScope s_Ending_init):=⟨rfl,rfl,rfl,by decide +kernel,rfl,by decide +kernel,by decide +kernel⟩
theorem sc_begin:FnScope ["ending","deal"] ["ending","deal"] (defScope s_begin):=⟨rfl,rfl,rfl,by decide +kernel,rfl,by decide +kernel,by decide +kernel⟩
theorem sc_put_card:FnScope ["ending","card"] ["ending","card"] (defScope s_put_card):=⟨rfl,rfl,rfl,by decide +kernel,rfl,by decide +kernel,by decide +kernel⟩
theorem sc_take_card_back:FnScope ["ending","kept","card"] ["ending"] (defScope s_take_card_back):=⟨rfl,rfl,rfl,by decide +kernel,rfl,by decide +kernel,by decide +kernel⟩
theorem sc_Statement_init:FnScope ["self","side","way","cards"] ["self","side","way","cards"] (defScope s_Statement_init):=⟨rfl,rfl,rfl,by decide +kernel,rfl,by decide +kernel,by decide +kernel⟩
theorem sc_highest_of_suits:FnScope ["cards","highest","card"] ["cards"] (defScope s_highest_of_suits):=⟨rfl,rfl,rfl,by decide +kernel,rfl,by decide +kernel,by decide +kernel⟩
theorem sc_lowest_of_suits:FnScope ["cards","lowest","card"] ["cards"] (defScope s_lowest_of_suits):=⟨rfl,rfl,rfl,by decide +kernel,rfl,by decide +kernel,by decide +kernel⟩
theorem sc_let_by_way:FnScope ["way","cards"] ["way","cards"] (defScope s_let_by_way):=⟨rfl,rfl,rfl,by decide +kernel,rfl,by decide +kernel,by decide +kernel⟩
theorem sc_cards_let:FnScope ["statement","position","playable","card"] ["statement","position"] (defScope s_cards_let):=⟨rfl,rfl,rfl,by decide +kernel,rfl,by decide +kernel,by decide +kernel⟩
theorem sc_Judging_init:FnScope ["self","statement"] ["self","statement"] (defScope s_Judging_init):=⟨rfl,rfl,rfl,by decide +kernel,rfl,by decide +kernel,by decide +kernel⟩
theorem sc_judged:FnScope ["judging","position","key","least","card","tricks"] ["judging","position"] (defScope s_judged):=⟨rfl,rfl,rfl,by decide +kernel,rfl,by decide +kernel,by decide +kernel⟩
theorem sc_judged_with:FnScope ["judging","position","card","behind"] ["judging","position","card"] (defScope s_judged_with):=⟨rfl,rfl,rfl,by decide +kernel,rfl,by decide +kernel,by decide +kernel⟩
theorem sc_sure_for:FnScope ["position","side"] ["position","side"] (defScope s_sure_for):=⟨rfl,rfl,rfl,by decide +kernel,rfl,by decide +kernel,by decide +kernel⟩
theorem sc_worst_play:FnScope ["judging","position","cards","card"] ["judging","position"] (defScope s_worst_play):=⟨rfl,rfl,rfl,by decide +kernel,rfl,by decide +kernel,by decide +kernel⟩
theorem sc_worst_card:FnScope ["judging","position"] ["judging","position"] (defScope s_worst_card):=⟨rfl,rfl,rfl,by decide +kernel,rfl,by decide +kernel,by decide +kernel⟩
theorem sc_Call_init:FnScope ["self","number","numbers","rows","end"] ["self","number","numbers","rows","end"] (defScope s_Call_init):=⟨rfl,rfl,rfl,by decide +kernel,rfl,by decide +kernel,by decide +kernel⟩
theorem sc_call_at:FnScope ["calls","place","form","end","numbers","rows","first"] ["calls","place"] (defScope s_call_at):=⟨rfl,rfl,rfl,by decide +kernel,rfl,by decide +kernel,by decide +kernel⟩
theorem sc_row_in_range:FnScope ["row","longest","card"] ["row","longest"] (defScope s_row_in_range):=⟨rfl,rfl,rfl,by decide +kernel,rfl,by decide +kernel,by decide +kernel⟩
theorem sc_in_range:FnScope ["call","form","number","top","row"] ["call"] (defScope s_in_range):=⟨rfl,rfl,rfl,by decide +kernel,rfl,by decide +kernel,by decide +kernel⟩
theorem sc_Wording_init:FnScope ["self","position","side","way"] ["self","position","side","way"] (defScope s_Wording_init):=⟨rfl,rfl,rfl,by decide +kernel,rfl,by decide +kernel,by decide +kernel⟩
theorem sc_own_cards:FnScope ["position","seat","cards","hand","own","card"] ["position","seat","cards"] (defScope s_own_cards):=⟨rfl,rfl,rfl,by decide +kernel,rfl,by decide +kernel,by decide +kernel⟩
theorem sc_judged_with_row:FnScope ["wording","cards","position","side","row"] ["wording","cards"] (defScope s_judged_with_row):=⟨rfl,rfl,rfl,by decide +kernel,rfl,by decide +kernel,by decide +kernel⟩
theorem sc_cards_needed:FnScope ["wording","cards","tricks","size"] ["wording","cards","tricks"] (defScope s_cards_needed):=⟨rfl,rfl,rfl,by decide +kernel,rfl,by decide +kernel,by decide +kernel⟩
theorem sc_orders_of:FnScope ["cards","rising","begun","longer","row","card"] ["cards"] (defScope s_orders_of):=⟨rfl,rfl,rfl,by decide +kernel,rfl,by decide +kernel,by decide +kernel⟩
theorem sc_best_order:FnScope ["wording","cards"] ["wording","cards"] (defScope s_best_order):=⟨rfl,rfl,rfl,by decide +kernel,rfl,by decide +kernel,by decide +kernel⟩
theorem sc_hands_are_right:FnScope ["hands","cards","hand"] ["hands"] (defScope s_hands_are_right):=⟨rfl,rfl,rfl,by decide +kernel,rfl,by decide +kernel,by decide +kernel⟩
theorem sc_cards_told:FnScope ["cards"] ["cards"] (defScope s_cards_told):=⟨rfl,rfl,rfl,by decide +kernel,rfl,by decide +kernel,by decide +kernel⟩
theorem sc_deal:FnScope ["ending","numbers","rows","hands","row"] ["ending","numbers","rows"] (defScope s_deal):=⟨rfl,rfl,rfl,by decide +kernel,rfl,by decide +kernel,by decide +kernel⟩
theorem sc_turn_and_tricks:FnScope ["ending"] ["ending"] (defScope s_turn_and_tricks):=⟨rfl,rfl,rfl,by decide +kernel,rfl,by decide +kernel,by decide +kernel⟩
theorem sc_play:FnScope ["ending","numbers","rows","card","position"] ["ending","numbers","rows"] (defScope s_play):=⟨rfl,rfl,rfl,by decide +kernel,rfl,by decide +kernel,by decide +kernel⟩
theorem sc_back:FnScope ["ending","numbers","rows"] ["ending","numbers","rows"] (defScope s_back):=⟨rfl,rfl,rfl,by decide +kernel,rfl,by decide +kernel,by decide +kernel⟩
theorem sc_turn:FnScope ["ending","numbers","rows"] ["ending","numbers","rows"] (defScope s_turn):=⟨rfl,rfl,rfl,by decide +kernel,rfl,by decide +kernel,by decide +kernel⟩
theorem sc_judge:FnScope ["ending","numbers","rows","judging"] ["ending","numbers","rows"] (defScope s_judge):=⟨rfl,rfl,rfl,by decide +kernel,rfl,by decide +kernel,by decide +kernel⟩
theorem sc_claim:FnScope ["ending","numbers","rows","side","tricks","position","by_statement","for_sure","awarded"] ["ending","numbers","rows"] (defScope s_claim):=⟨rfl,rfl,rfl,by decide +kernel,rfl,by decide +kernel,by decide +kernel⟩
theorem sc_withdraw:FnScope ["ending","numbers","rows"] ["ending","numbers","rows"] (defScope s_withdraw):=⟨rfl,rfl,rfl,by decide +kernel,rfl,by decide +kernel,by decide +kernel⟩
theorem sc_worst:FnScope ["ending","numbers","rows","judging"] ["ending","numbers","rows"] (defScope s_worst):=⟨rfl,rfl,rfl,by decide +kernel,rfl,by decide +kernel,by decide +kernel⟩
theorem sc_sure:FnScope ["ending","numbers","rows","side","position"] ["ending","numbers","rows"] (defScope s_sure):=⟨rfl,rfl,rfl,by decide +kernel,rfl,by decide +kernel,by decide +kernel⟩
theorem sc_shortest:FnScope ["ending","numbers","rows","wording","needed"] ["ending","numbers","rows"] (defScope s_shortest):=⟨rfl,rfl,rfl,by decide +kernel,rfl,by decide +kernel,by decide +kernel⟩
theorem sc_order:FnScope ["ending","numbers","rows","cards","wording","best"] ["ending","numbers","rows"] (defScope s_order):=⟨rfl,rfl,rfl,by decide +kernel,rfl,by decide +kernel,by decide +kernel⟩
theorem sc_score:FnScope ["ending","numbers","rows","there"] ["ending","numbers","rows"] (defScope s_score):=⟨rfl,rfl,rfl,by decide +kernel,rfl,by decide +kernel,by decide +kernel⟩
theorem sc_account:FnScope ["ending","numbers","rows"] ["ending","numbers","rows"] (defScope s_account):=⟨rfl,rfl,rfl,by decide +kernel,rfl,by decide +kernel,by decide +kernel⟩
theorem sc_lets:FnScope ["ending","numbers","rows","statement"] ["ending","numbers","rows"] (defScope s_lets):=⟨rfl,rfl,rfl,by decide +kernel,rfl,by decide +kernel,by decide +kernel⟩
theorem sc_claim_told:FnScope ["made"] ["made"] (defScope s_claim_told):=⟨rfl,rfl,rfl,by decide +kernel,rfl,by decide +kernel,by decide +kernel⟩
theorem sc_told:FnScope ["ending","numbers","rows","position","played","found","seat"] ["ending","numbers","rows"] (defScope s_told):=⟨rfl,rfl,rfl,by decide +kernel,rfl,by decide +kernel,by decide +kernel⟩
theorem sc_answer:FnScope ["ending","call","answerer"] ["ending","call"] (defScope s_answer):=⟨rfl,rfl,rfl,by decide +kernel,rfl,by decide +kernel,by decide +kernel⟩
theorem sc_answers:FnScope ["calls","ending","answered","place","call","numbers"] ["calls"] (defScope s_answers):=⟨rfl,rfl,rfl,by decide +kernel,rfl,by decide +kernel,by decide +kernel⟩
set_option genInjectivity false
set_option genSizeOf false
structure Adr where
 c_Deal:Addr
 c_Position:Addr
 c_Valuing:Addr
 c_Claim:Addr
 c_Ending:Addr
 c_Statement:Addr
 c_Judging:Addr
 c_Call:Addr
 c_Wording:Addr
 f_Deal_init:Addr
 d_Deal_init:FuncData
 f_Position_init:Addr
 d_Position_init:FuncData
 f_between_tricks:Addr
 d_between_tricks:FuncData
 f_start:Addr
 d_start:FuncData
 f_hand_of:Addr
 d_hand_of:FuncData
 f_leader_of:Addr
 d_leader_of:FuncData
 f_key_of:Addr
 d_key_of:FuncData
 f_tricks_of_rest:Addr
 d_tricks_of_rest:FuncData
 f_may_play:Addr
 d_may_play:FuncData
 f_beats:Addr
 d_beats:FuncData
 f_position_behind:Addr
 d_position_behind:FuncData
 f_trick_won:Addr
 d_trick_won:FuncData
 f_Valuing_init:Addr
 d_Valuing_init:FuncData
 f_value:Addr
 d_value:FuncData
 f_value_for_side_0:Addr
 d_value_for_side_0:FuncData
 f_value_with:Addr
 d_value_with:FuncData
 f_score_of:Addr
 d_score_of:FuncData
 f_gifts_of_cards:Addr
 d_gifts_of_cards:FuncData
 f_account_of_claim:Addr
 d_account_of_claim:FuncData
 f_value_still_open:Addr
 d_value_still_open:FuncData
 f_account_of:Addr
 d_account_of:FuncData
 f_Claim_init:Addr
 d_Claim_init:FuncData
 f_Ending_init:Addr
 d_Ending_init:FuncData
 f_begin:Addr
 d_begin:FuncData
 f_put_card:Addr
 d_put_card:FuncData
 f_take_card_back:Addr
 d_take_card_back:FuncData
 f_Statement_init:Addr
 d_Statement_init:FuncData
 f_highest_of_suits:Addr
 d_highest_of_suits:FuncData
 f_lowest_of_suits:Addr
 d_lowest_of_suits:FuncData
 f_let_by_way:Addr
 d_let_by_way:FuncData
 f_cards_let:Addr
 d_cards_let:FuncData
 f_Judging_init:Addr
 d_Judging_init:FuncData
 f_judged:Addr
 d_judged:FuncData
 f_judged_with:Addr
 d_judged_with:FuncData
 f_sure_for:Addr
 d_sure_for:FuncData
 f_worst_play:Addr
 d_worst_play:FuncData
 f_worst_card:Addr
 d_worst_card:FuncData
 f_Call_init:Addr
 d_Call_init:FuncData
 f_call_at:Addr
 d_call_at:FuncData
 f_row_in_range:Addr
 d_row_in_range:FuncData
 f_in_range:Addr
 d_in_range:FuncData
 f_Wording_init:Addr
 d_Wording_init:FuncData
 f_own_cards:Addr
 d_own_cards:FuncData
 f_judged_with_row:Addr
 d_judged_with_row:FuncData
 f_cards_needed:Addr
 d_cards_needed:FuncData
 f_orders_of:Addr
 d_orders_of:FuncData
 f_best_order:Addr
 d_best_order:FuncData
 f_hands_are_right:Addr
 d_hands_are_right:FuncData
 f_cards_told:Addr
 d_cards_told:FuncData
 f_deal:Addr
 d_deal:FuncData
 f_turn_and_tricks:Addr
 d_turn_and_tricks:FuncData
 f_play:Addr
 d_play:FuncData
 f_back:Addr
 d_back:FuncData
 f_turn:Addr
 d_turn:FuncData
 f_judge:Addr
 d_judge:FuncData
 f_claim:Addr
 d_claim:FuncData
 f_withdraw:Addr
 d_withdraw:FuncData
 f_worst:Addr
 d_worst:FuncData
 f_sure:Addr
 d_sure:FuncData
 f_shortest:Addr
 d_shortest:FuncData
 f_order:Addr
 d_order:FuncData
 f_score:Addr
 d_score:FuncData
 f_account:Addr
 d_account:FuncData
 f_lets:Addr
 d_lets:FuncData
 f_claim_told:Addr
 d_claim_told:FuncData
 f_told:Addr
 d_told:FuncData
 f_answer:Addr
 d_answer:FuncData
 f_answers:Addr
 d_answers:FuncData
 t_FORMS:Addr
 t_FORMS_0:Addr
 t_FORMS_0_0:Addr
 t_FORMS_1:Addr
 t_FORMS_1_0:Addr
 t_FORMS_2:Addr
 t_FORMS_2_0:Addr
 t_FORMS_3:Addr
 t_FORMS_3_0:Addr
 t_FORMS_4:Addr
 t_FORMS_4_0:Addr
 t_FORMS_5:Addr
 t_FORMS_5_0:Addr
 t_FORMS_6:Addr
 t_FORMS_6_0:Addr
 t_FORMS_7:Addr
 t_FORMS_7_0:Addr
 t_FORMS_8:Addr
 t_FORMS_8_0:Addr
 t_FORMS_9:Addr
 t_FORMS_9_0:Addr
 t_FORMS_10:Addr
 t_FORMS_10_0:Addr
 t_FORMS_11:Addr
 t_FORMS_11_0:Addr
 t_FORMS_12:Addr
 t_FORMS_12_0:Addr
 t_FORMS_13:Addr
 t_FORMS_13_0:Addr
 t_FORMS_14:Addr
 t_FORMS_14_0:Addr
 t_ANSWERERS:Addr
 p_worst_card:Addr
 p_best_order:Addr
def TupK (K:PySem.W.Frag) (a:Addr) (xs:List V):Prop:=∃ (o:Obj) (its:Array Value) (n:Nat),K.lookup a = some o ∧ o.cls = .type "tuple" ∧ o.data = .seq its n ∧ its.size ≤ sizeLine ∧ Vals xs its.toList
theorem tup_mk {K:PySem.W.Frag} {a:Addr} {o:Option Addr} {its:Array Value} {n:Nat} {vl:Array (Option Value)} {xs:List V} (l:K.lookup a = some ⟨.type "tuple",o,.seq its n,vl⟩) (h:its.size ≤ sizeLine) (v:Vals xs its.toList):TupK K a xs:=⟨_,its,n,l,rfl,rfl,h,v⟩
structure Txt (K:PySem.W.Frag) (mg:Str → Option Value) (A:Adr):Prop where
 m_Deal:mg "Deal" = some (.ref A.c_Deal)
 c_Deal:Cls K A.c_Deal
 M_Deal:Mk K A.c_Deal A.f_Deal_init
 n_Deal_hands:NoAttr K A.c_Deal "hands"
 n_Deal_trump:NoAttr K A.c_Deal "trump"
 n_Deal_leader:NoAttr K A.c_Deal "leader"
 m_Position:mg "Position" = some (.ref A.c_Position)
 c_Position:Cls K A.c_Position
 M_Position:Mk K A.c_Position A.f_Position_init
 n_Position_deal:NoAttr K A.c_Position "deal"
 n_Position_left:NoAttr K A.c_Position "left"
 n_Position_seat:NoAttr K A.c_Position "seat"
 n_Position_count:NoAttr K A.c_Position "count"
 n_Position_led:NoAttr K A.c_Position "led"
 n_Position_best:NoAttr K A.c_Position "best"
 n_Position_winner:NoAttr K A.c_Position "winner"
 m_Valuing:mg "Valuing" = some (.ref A.c_Valuing)
 c_Valuing:Cls K A.c_Valuing
 M_Valuing:Mk K A.c_Valuing A.f_Valuing_init
 n_Valuing_known:NoAttr K A.c_Valuing "known"
 m_Claim:mg "Claim" = some (.ref A.c_Claim)
 c_Claim:Cls K A.c_Claim
 M_Claim:Mk K A.c_Claim A.f_Claim_init
 n_Claim_side:NoAttr K A.c_Claim "side"
 n_Claim_tricks:NoAttr K A.c_Claim "tricks"
 n_Claim_judged:NoAttr K A.c_Claim "judged"
 n_Claim_sure:NoAttr K A.c_Claim "sure"
 n_Claim_awarded:NoAttr K A.c_Claim "awarded"
 m_Ending:mg "Ending" = some (.ref A.c_Ending)
 c_Ending:Cls K A.c_Ending
 M_Ending:Mk K A.c_Ending A.f_Ending_init
 n_Ending_dealt:NoAttr K A.c_Ending "dealt"
 n_Ending_played:NoAttr K A.c_Ending "played"
 n_Ending_position:NoAttr K A.c_Ending "position"
 n_Ending_won:NoAttr K A.c_Ending "won"
 n_Ending_claim:NoAttr K A.c_Ending "claim"
 m_Statement:mg "Statement" = some (.ref A.c_Statement)
 c_Statement:Cls K A.c_Statement
 M_Statement:Mk K A.c_Statement A.f_Statement_init
 n_Statement_side:NoAttr K A.c_Statement "side"
 n_Statement_way:NoAttr K A.c_Statement "way"
 n_Statement_cards:NoAttr K A.c_Statement "cards"
 m_Judging:mg "Judging" = some (.ref A.c_Judging)
 c_Judging:Cls K A.c_Judging
 M_Judging:Mk K A.c_Judging A.f_Judging_init
 n_Judging_statement:NoAttr K A.c_Judging "statement"
 n_Judging_known:NoAttr K A.c_Judging "known"
 m_Call:mg "Call" = some (.ref A.c_Call)
 c_Call:Cls K A.c_Call
 M_Call:Mk K A.c_Call A.f_Call_init
 n_Call_number:NoAttr K A.c_Call "number"
 n_Call_numbers:NoAttr K A.c_Call "numbers"
 n_Call_rows:NoAttr K A.c_Call "rows"
 n_Call_end:NoAttr K A.c_Call "end"
 m_Wording:mg "Wording" = some (.ref A.c_Wording)
 c_Wording:Cls K A.c_Wording
 M_Wording:Mk K A.c_Wording A.f_Wording_init
 n_Wording_position:NoAttr K A.c_Wording "position"
 n_Wording_side:NoAttr K A.c_Wording "side"
 n_Wording_way:NoAttr K A.c_Wording "way"
 n_Wording_known:NoAttr K A.c_Wording "known"
 F_Deal_init:Fun K "__init__" "Deal.__init__" s_Deal_init A.f_Deal_init A.d_Deal_init
 b_Deal_init:Binds K A.d_Deal_init ["self","hands","trump","leader"] []
 F_Position_init:Fun K "__init__" "Position.__init__" s_Position_init A.f_Position_init A.d_Position_init
 b_Position_init:Binds K A.d_Position_init ["self","deal","left","seat","count","led","best","winner"] []
 m_between_tricks:mg "between_tricks" = some (.ref A.f_between_tricks)
 F_between_tricks:Fun K "between_tricks" "between_tricks" s_between_tricks A.f_between_tricks A.d_between_tricks
 b_between_tricks:Binds K A.d_between_tricks ["deal","left","leader"] []
 m_start:mg "start" = some (.ref A.f_start)
 F_start:Fun K "start" "start" s_start A.f_start A.d_start
 b_start:Binds K A.d_start ["deal"] []
 m_hand_of:mg "hand_of" = some (.ref A.f_hand_of)
 F_hand_of:Fun K "hand_of" "hand_of" s_hand_of A.f_hand_of A.d_hand_of
 b_hand_of:Binds K A.d_hand_of ["position","seat"] []
 m_leader_of:mg "leader_of" = some (.ref A.f_leader_of)
 F_leader_of:Fun K "leader_of" "leader_of" s_leader_of A.f_leader_of A.d_leader_of
 b_leader_of:Binds K A.d_leader_of ["position"] []
 m_key_of:mg "key_of" = some (.ref A.f_key_of)
 F_key_of:Fun K "key_of" "key_of" s_key_of A.f_key_of A.d_key_of
 b_key_of:Binds K A.d_key_of ["position"] []
 m_tricks_of_rest:mg "tricks_of_rest" = some (.ref A.f_tricks_of_rest)
 F_tricks_of_rest:Fun K "tricks_of_rest" "tricks_of_rest" s_tricks_of_rest A.f_tricks_of_rest A.d_tricks_of_rest
 b_tricks_of_rest:Binds K A.d_tricks_of_rest ["position"] []
 m_may_play:mg "may_play" = some (.ref A.f_may_play)
 F_may_play:Fun K "may_play" "may_play" s_may_play A.f_may_play A.d_may_play
 b_may_play:Binds K A.d_may_play ["position"] []
 m_beats:mg "beats" = some (.ref A.f_beats)
 F_beats:Fun K "beats" "beats" s_beats A.f_beats A.d_beats
 b_beats:Binds K A.d_beats ["card","best","trump"] []
 m_position_behind:mg "position_behind" = some (.ref A.f_position_behind)
 F_position_behind:Fun K "position_behind" "position_behind" s_position_behind A.f_position_behind A.d_position_behind
 b_position_behind:Binds K A.d_position_behind ["position","card"] []
 m_trick_won:mg "trick_won" = some (.ref A.f_trick_won)
 F_trick_won:Fun K "trick_won" "trick_won" s_trick_won A.f_trick_won A.d_trick_won
 b_trick_won:Binds K A.d_trick_won ["position","side"] []
 F_Valuing_init:Fun K "__init__" "Valuing.__init__" s_Valuing_init A.f_Valuing_init A.d_Valuing_init
 b_Valuing_init:Binds K A.d_Valuing_init ["self"] []
 m_value:mg "value" = some (.ref A.f_value)
 F_value:Fun K "value" "value" s_value A.f_value A.d_value
 b_value:Binds K A.d_value ["valuing","position","side"] []
 m_value_for_side_0:mg "value_for_side_0" = some (.ref A.f_value_for_side_0)
 F_value_for_side_0:Fun K "value_for_side_0" "value_for_side_0" s_value_for_side_0 A.f_value_for_side_0 A.d_value_for_side_0
 b_value_for_side_0:Binds K A.d_value_for_side_0 ["valuing","position"] []
 m_value_with:mg "value_with" = some (.ref A.f_value_with)
 F_value_with:Fun K "value_with" "value_with" s_value_with A.f_value_with A.d_value_with
 b_value_with:Binds K A.d_value_with ["valuing","position","card"] []
 m_score_of:mg "score_of" = some (.ref A.f_score_of)
 F_score_of:Fun K "score_of" "score_of" s_score_of A.f_score_of A.d_score_of
 b_score_of:Binds K A.d_score_of ["ending"] []
 m_gifts_of_cards:mg "gifts_of_cards" = some (.ref A.f_gifts_of_cards)
 F_gifts_of_cards:Fun K "gifts_of_cards" "gifts_of_cards" s_gifts_of_cards A.f_gifts_of_cards A.d_gifts_of_cards
 b_gifts_of_cards:Binds K A.d_gifts_of_cards ["valuing","ending"] []
 m_account_of_claim:mg "account_of_claim" = some (.ref A.f_account_of_claim)
 F_account_of_claim:Fun K "account_of_claim" "account_of_claim" s_account_of_claim A.f_account_of_claim A.d_account_of_claim
 b_account_of_claim:Binds K A.d_account_of_claim ["valuing","ending"] []
 m_value_still_open:mg "value_still_open" = some (.ref A.f_value_still_open)
 F_value_still_open:Fun K "value_still_open" "value_still_open" s_value_still_open A.f_value_still_open A.d_value_still_open
 b_value_still_open:Binds K A.d_value_still_open ["valuing","ending"] []
 m_account_of:mg "account_of" = some (.ref A.f_account_of)
 F_account_of:Fun K "account_of" "account_of" s_account_of A.f_account_of A.d_account_of
 b_account_of:Binds K A.d_account_of ["ending"] []
 F_Claim_init:Fun K "__init__" "Claim.__init__" s_Claim_init A.f_Claim_init A.d_Claim_init
 b_Claim_init:Binds K A.d_Claim_init ["self","side","tricks","judged","sure","awarded"] []
 F_Ending_init:Fun K "__init__" "Ending.__init__" s_Ending_init A.f_Ending_init A.d_Ending_init
 b_Ending_init:Binds K A.d_Ending_init ["self"] []
 m_begin:mg "begin" = some (.ref A.f_begin)
 F_begin:Fun K "begin" "begin" s_begin A.f_begin A.d_begin
 b_begin:Binds K A.d_begin ["ending","deal"] []
 m_put_card:mg "put_card" = some (.ref A.f_put_card)
 F_put_card:Fun K "put_card" "put_card" s_put_card A.f_put_card A.d_put_card
 b_put_card:Binds K A.d_put_card ["ending","card"] []
 m_take_card_back:mg "take_card_back" = some (.ref A.f_take_card_back)
 F_take_card_back:Fun K "take_card_back" "take_card_back" s_take_card_back A.f_take_card_back A.d_take_card_back
 b_take_card_back:Binds K A.d_take_card_back ["ending"] []
 F_Statement_init:Fun K "__init__" "Statement.__init__" s_Statement_init A.f_Statement_init A.d_Statement_init
 b_Statement_init:Binds K A.d_Statement_init ["self","side","way","cards"] []
 m_highest_of_suits:mg "highest_of_suits" = some (.ref A.f_highest_of_suits)
 F_highest_of_suits:Fun K "highest_of_suits" "highest_of_suits" s_highest_of_suits A.f_highest_of_suits A.d_highest_of_suits
 b_highest_of_suits:Binds K A.d_highest_of_suits ["cards"] []
 m_lowest_of_suits:mg "lowest_of_suits" = some (.ref A.f_lowest_of_suits)
 F_lowest_of_suits:Fun K "lowest_of_suits" "lowest_of_suits" s_lowest_of_suits A.f_lowest_of_suits A.d_lowest_of_suits
 b_lowest_of_suits:Binds K A.d_lowest_of_suits ["cards"] []
 m_let_by_way:mg "let_by_way" = some (.ref A.f_let_by_way)
 F_let_by_way:Fun K "let_by_way" "let_by_way" s_let_by_way A.f_let_by_way A.d_let_by_way
 b_let_by_way:Binds K A.d_let_by_way ["way","cards"] []
 m_cards_let:mg "cards_let" = some (.ref A.f_cards_let)
 F_cards_let:Fun K "cards_let" "cards_let" s_cards_let A.f_cards_let A.d_cards_let
 b_cards_let:Binds K A.d_cards_let ["statement","position"] []
 F_Judging_init:Fun K "__init__" "Judging.__init__" s_Judging_init A.f_Judging_init A.d_Judging_init
 b_Judging_init:Binds K A.d_Judging_init ["self","statement"] []
 m_judged:mg "judged" = some (.ref A.f_judged)
 F_judged:Fun K "judged" "judged" s_judged A.f_judged A.d_judged
 b_judged:Binds K A.d_judged ["judging","position"] []
 m_judged_with:mg "judged_with" = some (.ref A.f_judged_with)
 F_judged_with:Fun K "judged_with" "judged_with" s_judged_with A.f_judged_with A.d_judged_with
 b_judged_with:Binds K A.d_judged_with ["judging","position","card"] []
 m_sure_for:mg "sure_for" = some (.ref A.f_sure_for)
 F_sure_for:Fun K "sure_for" "sure_for" s_sure_for A.f_sure_for A.d_sure_for
 b_sure_for:Binds K A.d_sure_for ["position","side"] []
 m_worst_play:mg "worst_play" = some (.ref A.f_worst_play)
 F_worst_play:Fun K "worst_play" "worst_play" s_worst_play A.f_worst_play A.d_worst_play
 b_worst_play:Binds K A.d_worst_play ["judging","position"] []
 m_worst_card:mg "worst_card" = some (.ref A.f_worst_card)
 F_worst_card:Fun K "worst_card" "worst_card" s_worst_card A.f_worst_card A.d_worst_card
 b_worst_card:Binds K A.d_worst_card ["judging","position"] []
 F_Call_init:Fun K "__init__" "Call.__init__" s_Call_init A.f_Call_init A.d_Call_init
 b_Call_init:Binds K A.d_Call_init ["self","number","numbers","rows","end"] []
 m_call_at:mg "call_at" = some (.ref A.f_call_at)
 F_call_at:Fun K "call_at" "call_at" s_call_at A.f_call_at A.d_call_at
 b_call_at:Binds K A.d_call_at ["calls","place"] []
 m_row_in_range:mg "row_in_range" = some (.ref A.f_row_in_range)
 F_row_in_range:Fun K "row_in_range" "row_in_range" s_row_in_range A.f_row_in_range A.d_row_in_range
 b_row_in_range:Binds K A.d_row_in_range ["row","longest"] []
 m_in_range:mg "in_range" = some (.ref A.f_in_range)
 F_in_range:Fun K "in_range" "in_range" s_in_range A.f_in_range A.d_in_range
 b_in_range:Binds K A.d_in_range ["call"] []
 F_Wording_init:Fun K "__init__" "Wording.__init__" s_Wording_init A.f_Wording_init A.d_Wording_init
 b_Wording_init:Binds K A.d_Wording_init ["self","position","side","way"] []
 m_own_cards:mg "own_cards" = some (.ref A.f_own_cards)
 F_own_cards:Fun K "own_cards" "own_cards" s_own_cards A.f_own_cards A.d_own_cards
 b_own_cards:Binds K A.d_own_cards ["position","seat","cards"] []
 m_judged_with_row:mg "judged_with_row" = some (.ref A.f_judged_with_row)
 F_judged_with_row:Fun K "judged_with_row" "judged_with_row" s_judged_with_row A.f_judged_with_row A.d_judged_with_row
 b_judged_with_row:Binds K A.d_judged_with_row ["wording","cards"] []
 m_cards_needed:mg "cards_needed" = some (.ref A.f_cards_needed)
 F_cards_needed:Fun K "cards_needed" "cards_needed" s_cards_needed A.f_cards_needed A.d_cards_needed
 b_cards_needed:Binds K A.d_cards_needed ["wording","cards","tricks"] []
 m_orders_of:mg "orders_of" = some (.ref A.f_orders_of)
 F_orders_of:Fun K "orders_of" "orders_of" s_orders_of A.f_orders_of A.d_orders_of
 b_orders_of:Binds K A.d_orders_of ["cards"] []
 m_best_order:mg "best_order" = some (.ref A.f_best_order)
 F_best_order:Fun K "best_order" "best_order" s_best_order A.f_best_order A.d_best_order
 b_best_order:Binds K A.d_best_order ["wording","cards"] []
 m_hands_are_right:mg "hands_are_right" = some (.ref A.f_hands_are_right)
 F_hands_are_right:Fun K "hands_are_right" "hands_are_right" s_hands_are_right A.f_hands_are_right A.d_hands_are_right
 b_hands_are_right:Binds K A.d_hands_are_right ["hands"] []
 m_cards_told:mg "cards_told" = some (.ref A.f_cards_told)
 F_cards_told:Fun K "cards_told" "cards_told" s_cards_told A.f_cards_told A.d_cards_told
 b_cards_told:Binds K A.d_cards_told ["cards"] []
 m_deal:mg "deal" = some (.ref A.f_deal)
 F_deal:Fun K "deal" "deal" s_deal A.f_deal A.d_deal
 b_deal:Binds K A.d_deal ["ending","numbers","rows"] []
 m_turn_and_tricks:mg "turn_and_tricks" = some (.ref A.f_turn_and_tricks)
 F_turn_and_tricks:Fun K "turn_and_tricks" "turn_and_tricks" s_turn_and_tricks A.f_turn_and_tricks A.d_turn_and_tricks
 b_turn_and_tricks:Binds K A.d_turn_and_tricks ["ending"] []
 m_play:mg "play" = some (.ref A.f_play)
 F_play:Fun K "play" "play" s_play A.f_play A.d_play
 b_play:Binds K A.d_play ["ending","numbers","rows"] []
 m_back:mg "back" = some (.ref A.f_back)
 F_back:Fun K "back" "back" s_back A.f_back A.d_back
 b_back:Binds K A.d_back ["ending","numbers","rows"] []
 m_turn:mg "turn" = some (.ref A.f_turn)
 F_turn:Fun K "turn" "turn" s_turn A.f_turn A.d_turn
 b_turn:Binds K A.d_turn ["ending","numbers","rows"] []
 m_judge:mg "judge" = some (.ref A.f_judge)
 F_judge:Fun K "judge" "judge" s_judge A.f_judge A.d_judge
 b_judge:Binds K A.d_judge ["ending","numbers","rows"] []
 m_claim:mg "claim" = some (.ref A.f_claim)
 F_claim:Fun K "claim" "claim" s_claim A.f_claim A.d_claim
 b_claim:Binds K A.d_claim ["ending","numbers","rows"] []
 m_withdraw:mg "withdraw" = some (.ref A.f_withdraw)
 F_withdraw:Fun K "withdraw" "withdraw" s_withdraw A.f_withdraw A.d_withdraw
 b_withdraw:Binds K A.d_withdraw ["ending","numbers","rows"] []
 m_worst:mg "worst" = some (.ref A.f_worst)
 F_worst:Fun K "worst" "worst" s_worst A.f_worst A.d_worst
 b_worst:Binds K A.d_worst ["ending","numbers","rows"] []
 m_sure:mg "sure" = some (.ref A.f_sure)
 F_sure:Fun K "sure" "sure" s_sure A.f_sure A.d_sure
 b_sure:Binds K A.d_sure ["ending","numbers","rows"] []
 m_shortest:mg "shortest" = some (.ref A.f_shortest)
 F_shortest:Fun K "shortest" "shortest" s_shortest A.f_shortest A.d_shortest
 b_shortest:Binds K A.d_shortest ["ending","numbers","rows"] []
 m_order:mg "order" = some (.ref A.f_order)
 F_order:Fun K "order" "order" s_order A.f_order A.d_order
 b_order:Binds K A.d_order ["ending","numbers","rows"] []
 m_score:mg "score" = some (.ref A.f_score)
 F_score:Fun K "score" "score" s_score A.f_score A.d_score
 b_score:Binds K A.d_score ["ending","numbers","rows"] []
 m_account:mg "account" = some (.ref A.f_account)
 F_account:Fun K "account" "account" s_account A.f_account A.d_account
 b_account:Binds K A.d_account ["ending","numbers","rows"] []
 m_lets:mg "lets" = some (.ref A.f_lets)
 F_lets:Fun K "lets" "lets" s_lets A.f_lets A.d_lets
 b_lets:Binds K A.d_lets ["ending","numbers","rows"] []
 m_claim_told:mg "claim_told" = some (.ref A.f_claim_told)
 F_claim_told:Fun K "claim_told" "claim_told" s_claim_told A.f_claim_told A.d_claim_told
 b_claim_told:Binds K A.d_claim_told ["made"] []
 m_told:mg "told" = some (.ref A.f_told)
 F_told:Fun K "told" "told" s_told A.f_told A.d_told
 b_told:Binds K A.d_told ["ending","numbers","rows"] []
 m_answer:mg "answer" = some (.ref A.f_answer)
 F_answer:Fun K "answer" "answer" s_answer A.f_answer A.d_answer
 b_answer:Binds K A.d_answer ["ending","call"] []
 m_answers:mg "answers" = some (.ref A.f_answers)
 F_answers:Fun K "answers" "answers" s_answers A.f_answers A.d_answers
 b_answers:Binds K A.d_answers ["calls"] []
 g_SUIT_SIZE:∃ t,mg "SUIT_SIZE" = some (.int (13) t)
 g_SEATS:∃ t,mg "SEATS" = some (.int (4) t)
 g_NO_TRUMP:∃ t,mg "NO_TRUMP" = some (.int (4) t)
 g_ANY_CARD:∃ t,mg "ANY_CARD" = some (.int (0) t)
 g_HIGHEST_OF_SUIT:∃ t,mg "HIGHEST_OF_SUIT" = some (.int (1) t)
 g_LOWEST_OF_SUIT:∃ t,mg "LOWEST_OF_SUIT" = some (.int (2) t)
 g_HIGHEST_CARD:∃ t,mg "HIGHEST_CARD" = some (.int (51) t)
 m_FORMS:mg "FORMS" = some (.ref A.t_FORMS)
 g_NOT_IN_RANGE:∃ t,mg "NOT_IN_RANGE" = some (.int (-1) t)
 g_HANDS_NOT_RIGHT:∃ t,mg "HANDS_NOT_RIGHT" = some (.int (-2) t)
 g_TOO_MANY_CLAIMED:∃ t,mg "TOO_MANY_CLAIMED" = some (.int (-2) t)
 g_NO_CARDS:∃ t,mg "NO_CARDS" = some (.int (-3) t)
 g_CARD_NOT_THERE:∃ t,mg "CARD_NOT_THERE" = some (.int (-4) t)
 g_NO_CLAIM:∃ t,mg "NO_CLAIM" = some (.int (-4) t)
 g_SUIT_NOT_FOLLOWED:∃ t,mg "SUIT_NOT_FOLLOWED" = some (.int (-5) t)
 g_NOT_TO_BE_ORDERED:∃ t,mg "NOT_TO_BE_ORDERED" = some (.int (-6) t)
 g_NEVER_ENOUGH:∃ t,mg "NEVER_ENOUGH" = some (.int (-7) t)
 g_CLAIM_THERE:∃ t,mg "CLAIM_THERE" = some (.int (-8) t)
 g_MOST_TO_ORDER:∃ t,mg "MOST_TO_ORDER" = some (.int (4) t)
 m_ANSWERERS:mg "ANSWERERS" = some (.ref A.t_ANSWERERS)
 q_FORMS:TupK K A.t_FORMS [.ref A.t_FORMS_0,.ref A.t_FORMS_1,.ref A.t_FORMS_2,.ref A.t_FORMS_3,.ref A.t_FORMS_4,.ref A.t_FORMS_5,.ref A.t_FORMS_6,.ref A.t_FORMS_7,.ref A.t_FORMS_8,.ref A.t_FORMS_9,.ref A.t_FORMS_10,.ref A.t_FORMS_11,.ref A.t_FORMS_12,.ref A.t_FORMS_13,.ref A.t_FORMS_14]
 q_FORMS_0:TupK K A.t_FORMS_0 [.ref A.t_FORMS_0_0,.int (4),.int (4)]
 q_FORMS_0_0:TupK K A.t_FORMS_0_0 [.int (4),.int (3)]
 q_FORMS_1:TupK K A.t_FORMS_1 [.ref A.t_FORMS_1_0,.int (0),.int (0)]
 q_FORMS_1_0:TupK K A.t_FORMS_1_0 [.int (51)]
 q_FORMS_2:TupK K A.t_FORMS_2 [.ref A.t_FORMS_2_0,.int (0),.int (0)]
 q_FORMS_2_0:TupK K A.t_FORMS_2_0 []
 q_FORMS_3:TupK K A.t_FORMS_3 [.ref A.t_FORMS_3_0,.int (0),.int (0)]
 q_FORMS_3_0:TupK K A.t_FORMS_3_0 []
 q_FORMS_4:TupK K A.t_FORMS_4 [.ref A.t_FORMS_4_0,.int (1),.int (16)]
 q_FORMS_4_0:TupK K A.t_FORMS_4_0 [.int (1),.int (2)]
 q_FORMS_5:TupK K A.t_FORMS_5 [.ref A.t_FORMS_5_0,.int (1),.int (16)]
 q_FORMS_5_0:TupK K A.t_FORMS_5_0 [.int (1),.int (4),.int (2)]
 q_FORMS_6:TupK K A.t_FORMS_6 [.ref A.t_FORMS_6_0,.int (0),.int (0)]
 q_FORMS_6_0:TupK K A.t_FORMS_6_0 []
 q_FORMS_7:TupK K A.t_FORMS_7 [.ref A.t_FORMS_7_0,.int (1),.int (16)]
 q_FORMS_7_0:TupK K A.t_FORMS_7_0 [.int (1),.int (2)]
 q_FORMS_8:TupK K A.t_FORMS_8 [.ref A.t_FORMS_8_0,.int (0),.int (0)]
 q_FORMS_8_0:TupK K A.t_FORMS_8_0 [.int (1)]
 q_FORMS_9:TupK K A.t_FORMS_9 [.ref A.t_FORMS_9_0,.int (1),.int (16)]
 q_FORMS_9_0:TupK K A.t_FORMS_9_0 [.int (1),.int (4),.int (2)]
 q_FORMS_10:TupK K A.t_FORMS_10 [.ref A.t_FORMS_10_0,.int (1),.int (16)]
 q_FORMS_10_0:TupK K A.t_FORMS_10_0 [.int (1),.int (2)]
 q_FORMS_11:TupK K A.t_FORMS_11 [.ref A.t_FORMS_11_0,.int (0),.int (0)]
 q_FORMS_11_0:TupK K A.t_FORMS_11_0 []
 q_FORMS_12:TupK K A.t_FORMS_12 [.ref A.t_FORMS_12_0,.int (0),.int (0)]
 q_FORMS_12_0:TupK K A.t_FORMS_12_0 []
 q_FORMS_13:TupK K A.t_FORMS_13 [.ref A.t_FORMS_13_0,.int (1),.int (16)]
 q_FORMS_13_0:TupK K A.t_FORMS_13_0 [.int (1),.int (2)]
 q_FORMS_14:TupK K A.t_FORMS_14 [.ref A.t_FORMS_14_0,.int (0),.int (0)]
 q_FORMS_14_0:TupK K A.t_FORMS_14_0 []
 q_ANSWERERS:TupK K A.t_ANSWERERS [.ref A.f_deal,.ref A.f_play,.ref A.f_back,.ref A.f_turn,.ref A.f_judge,.ref A.f_claim,.ref A.f_withdraw,.ref A.f_worst,.ref A.f_sure,.ref A.f_shortest,.ref A.f_order,.ref A.f_score,.ref A.f_account,.ref A.f_lets,.ref A.f_told]
 k_worst_card:∃ c,A.d_worst_card.code = .ref c ∧ ∀ g:Heap,K.In g → PySem.W.CodeHd g c A.p_worst_card
 k_best_order:∃ c,A.d_best_order.code = .ref c ∧ ∀ g:Heap,K.In g → PySem.W.CodeHd g c A.p_best_order
 z_max:mg "max" = none
 z_list:mg "list" = none
 z_min:mg "min" = none
 z_zip:mg "zip" = none
 z_all:mg "all" = none
 z_tuple:mg "tuple" = none
 z_range:mg "range" = none
 z_sorted:mg "sorted" = none
 z_len:mg "len" = none
 z_set:mg "set" = none
end Cc
end
section
set_option Elab.async false
set_option linter.all false
set_option maxRecDepth 100000
set_option maxHeartbeats 4000000
namespace Cc
open PySem PySem.Spec PyProof.Rows L2
section
variable {X:Cx}
theorem pe_gint {x:Str} {i:Int} {pos:PySem.Pos} (hg:Gl X x) (hm:∃ t,X.mg x = some (.int i t)) (hd:(x == ("__debug__":Str)) = false:=by decide):PE X (.Name x pos) (tC (.int i)):=by
 obtain ⟨t,hm⟩:=hm
 exact pe_glob hg hm ⟨t,rfl⟩ hd
end
theorem lk_hit {f:Str} {v:V} {fs:List (Str × V)}:(putF f v fs).lookup f = some v:=by rw [lookup_putF,if_pos rfl]
theorem lk_miss {f g:Str} {v:V} {fs:List (Str × V)} (h:¬ g = f):(putF f v fs).lookup g = fs.lookup g:=by rw [lookup_putF,if_neg h]
theorem len_put {f:Str} {v:V} {fs:List (Str × V)} {n:Nat} (h:fs.length ≤ n):(putF f v fs).length ≤ n + 1:=Nat.le_trans (length_putF f v fs) (Nat.succ_le_succ h)
theorem ifD {p:Prop} [Decidable p] {A B:Prop} (h1:p → A) (h2:¬ p → B):if decide p = true then A else B:=by
 by_cases h:p
 ·rw [decide_eq_true h]; exact iteT (h1 h)
 ·rw [decide_eq_false h]; exact iteF (h2 h)
theorem ifN {p:Prop} [Decidable p] {A B:Prop} (h1:¬ p → A) (h2:p → B):if (!decide p) = true then A else B:=by
 by_cases h:p
 ·rw [decide_eq_true h]; exact iteF (h2 h)
 ·rw [decide_eq_false h]; exact iteT (h1 h)
theorem ifI {a b:Int} {A B:Prop} (h1:a = b → A) (h2:¬ a = b → B):if decide (V.int a = V.int b) = true then A else B:=
 ifD (fun e=>h1 (by injection e)) fun e=>h2 fun q=>e (by rw [q])
theorem ifIN {a b:Int} {A B:Prop} (h1:¬ a = b → A) (h2:a = b → B):if (!decide (V.int a = V.int b)) = true then A else B:=
 ifN (fun e=>h1 fun q=>e (by rw [q])) fun e=>h2 (by injection e)
def nints (l:List Nat):List V:=l.map fun (c:Nat)=>V.int (c:Int)
theorem ints_at {l:List Nat} {i:Nat} {x:V} (h:(nints l)[i]? = some x):∃ c,l[i]? = some c ∧ x = V.int (c:Int):=by
 unfold nints at h
 rw [List.getElem?_map] at h
 cases e:l[i]? with
 | none=>rw [e] at h; cases h
 | some c=>rw [e] at h; exact ⟨c,rfl,(Option.some.inj h).symm⟩
theorem ints_get {l:List Nat} {i c:Nat} (h:l[i]? = some c):(nints l)[i]? = some (V.int (c:Int)):=by
 unfold nints
 rw [List.getElem?_map,h]
 rfl
theorem ints_len (l:List Nat):(nints l).length = l.length:=List.length_map _
theorem ints_snoc (l:List Nat) (c:Nat):nints (l ++ [c]) = nints l ++ [V.int (c:Int)]:=by
 unfold nints
 rw [List.map_append]
 rfl
theorem ints_flat (l:List Nat):(nints l).all flatV = true:=by
 unfold nints
 rw [List.all_map,List.all_eq_true]
 intro x _
 rfl
theorem inV_ints (l:List Nat) (c:Nat):inV (V.int (c:Int)) (nints l) = l.contains c:=by
 unfold inV nints
 rw [List.any_map,List.contains_eq_any_beq,Bool.eq_iff_iff,List.any_eq_true,List.any_eq_true]
 constructor
 ·rintro ⟨x,hx,e⟩
  refine ⟨x,hx,?_⟩
  have e':eqV (V.int (x:Int)) (V.int (c:Int)) = true:=e
  simp [eqV] at e'
  simp
  omega
 ·rintro ⟨x,hx,e⟩
  have:c = x:=by simpa using e
  subst this
  exact ⟨c,hx,by simp [eqV]⟩
theorem take_snoc {α:Type} {l:List α} {i:Nat} {x:α} (h:l[i]? = some x):l.take (i + 1) = l.take i ++ [x]:=by
 rw [List.take_add_one,h]
 rfl
theorem same_new {H:Hp} {p:Addr} (h:H p = none) (o:HO):Same H (upd H p o):=fun b u q=>by rw [upd_ne (ne_of_none q h)]; exact q
theorem made_same {H H':Hp} {x dx:Addr} {o:HO} (nx:H x = none) (nd:H dx = none) (k:∀ b,b ≠ x → H' b = upd (upd H dx (.own x)) x o b):Same H H':=fun b u e=>by
 rw [k b (ne_of_none e nx),upd_ne (ne_of_none e nx),upd_ne (ne_of_none e nd)]
 exact e
theorem nat_at {a b:Nat} (h:((a:Nat):Int) = ((b:Nat):Int)):a = b:=by omega
def HandsAt (H:Hp) (hs:List Addr) (hands:List (List Nat)):Prop:=hs.length = hands.length ∧ ∀ (i:Nat) (h:List Nat),hands[i]? = some h → ∃ b,hs[i]? = some b ∧ H b = some (.tup (nints h))
def DealAt (A:Adr) (H:Hp) (a:Addr) (d:Deal):Prop:=∃ (dx hx:Addr) (fs:List (Str × V)) (hs:List Addr),H a = some (.ins A.c_Deal dx fs) ∧ fs.lookup ("hands":Str) = some (.ref hx) ∧ fs.lookup ("trump":Str) = some (.int (d.trump:Int)) ∧ fs.lookup ("leader":Str) = some (.int (d.leader:Int)) ∧
 H hx = some (.tup (hs.map V.ref)) ∧ HandsAt H hs d.hands
theorem DealAt.same {A:Adr} {H H':Hp} {a:Addr} {d:Deal} (h:DealAt A H a d) (s:Same H H'):DealAt A H' a d:=by
 obtain ⟨dx,hx,fs,hs,h1,h2,h3,h4,h5,h6,h7⟩:=h
 exact ⟨dx,hx,fs,hs,s _ _ h1,h2,h3,h4,s _ _ h5,h6,fun i h e=>let ⟨b,e1,e2⟩:=h7 i h e; ⟨b,e1,s _ _ e2⟩⟩
def PosAt (A:Adr) (H:Hp) (a:Addr) (d:Deal) (m:MP):Prop:=∃ (dd dx:Addr) (fs:List (Str × V)),DealAt A H dd d ∧ H a = some (.ins A.c_Position dx fs) ∧ fs.lookup ("deal":Str) = some (.ref dd) ∧ fs.lookup ("left":Str) = some (.int (m.left:Int)) ∧ fs.lookup ("seat":Str) = some (.int (m.seat:Int)) ∧
 fs.lookup ("count":Str) = some (.int (m.count:Int)) ∧ fs.lookup ("led":Str) = some (.int (m.led:Int)) ∧ fs.lookup ("best":Str) = some (.int (m.best:Int)) ∧ fs.lookup ("winner":Str) = some (.int (m.winner:Int))
theorem PosAt.same {A:Adr} {H H':Hp} {a:Addr} {d:Deal} {m:MP} (h:PosAt A H a d m) (s:Same H H'):PosAt A H' a d m:=by
 obtain ⟨dd,dx,fs,h0,h1,r⟩:=h
 exact ⟨dd,dx,fs,h0.same s,s _ _ h1,r⟩
section
variable {P:Program} {w:World} {K:PySem.W.Frag} {mg:Str → Option Value} {base:Heap} {A:Adr}
theorem bt_len:bootBuiltins "len" = some (.builtin "len"):=by decide +kernel
theorem bt_max:bootBuiltins "max" = some (.builtin "max"):=by decide +kernel
theorem bt_min:bootBuiltins "min" = some (.builtin "min"):=by decide +kernel
theorem bt_sum:bootBuiltins "sum" = some (.builtin "sum"):=by decide +kernel
theorem bt_sorted:bootBuiltins "sorted" = some (.builtin "sorted"):=by decide +kernel
theorem bt_all:bootBuiltins "all" = some (.builtin "all"):=by decide +kernel
theorem bt_any:bootBuiltins "any" = some (.builtin "any"):=by decide +kernel
theorem bt_abs:bootBuiltins "abs" = some (.builtin "abs"):=by decide +kernel
theorem bt_list:bootBuiltins "list" = some (.type "list"):=by decide +kernel
theorem bt_tuple:bootBuiltins "tuple" = some (.type "tuple"):=by decide +kernel
theorem bt_set:bootBuiltins "set" = some (.type "set"):=by decide +kernel
theorem bt_zip:bootBuiltins "zip" = some (.type "zip"):=by decide +kernel
section
variable {X:Cx}
def tCallL (X:Cx) (i:Nat) (t:TA):TE:=fun σ H Q=>∃ f,σ[i]? = some (some (.ref f)) ∧ PySem.W.keepIn X.K (.ref f) = true ∧ t σ H fun vs H1=>∃ (k:Nat) (fd:FuncData) (ps:List Str) (sp:Sp),FnOk X.prog X.w X.K X.mg X.base CX0 k f fd ps sp ∧ Room k X.A ∧ Binds X.K fd ps [] ∧ sp vs H1 Q E0
theorem pe_callL (i:Nat) {x:Str} {p pos:PySem.Pos} {e:Expr} {es:List Expr} {t:TA} (ha:PA X (e :: es) t) (hN:X.N[i]? = some x:=by rfl) (hv:Vis X.env.scope x:=by first | exact Or.inl rfl | exact Or.inr (Or.inl rfl) | exact Or.inr (Or.inr rfl))
  (hd:(x == ("__debug__":Str)) = false:=by decide) (hcd:(x == ("__classdict__":Str)) = false:=by decide) (he:starEach (e :: es) X.env = (false,eval e X.env) :: starEach es X.env:=by rfl) (hpl:(backTo pos (starEach es X.env)).any (·.1) = false:=by rfl) (hxe:X.xe = fun _ _=>False:=by rfl):
  PE X (.Call (.Name x p) (e :: es) [] pos) (tCallL X i t):=by
 intro pins s σ H Q I h
 obtain ⟨f,e1,hk,h⟩:=h
 refine wpAny_Call_Name_kw (thn (pe_var hN hv hd hcd pins s σ H (fun v H'=>v = .ref f ∧ H' = H) I ⟨_,e1,rfl,rfl⟩) fun v s1 ⟨y,H1,I1,r1,ex,eh⟩=>?_)
 subst ex eh
 cases r1
 refine PySem.W.callWith_K (h₀:=X.base) I.ok.mod.kin hk (thn (ha pos pins s1 σ H1 _ I1 h) fun us s2 ⟨vs,H2,I2,r,k,fd,ps,sp,F,hr,hb,q⟩=>⟨I2.kIn,?_⟩) he hpl
 exact run_fn F hr hb .nil pass0 I2 r (by rw [List.append_nil]; exact q)
def tLVals (td:TE):TE:=fun σ H Q=>td σ H fun x H1=>∃ d kvs,x = .ref d ∧ H1 d = some (.dK kvs) ∧ ∀ p,H1 p = none → Q (.ref p) (upd H1 p (.lst (kvs.map (·.2))))
theorem vals_kv {κ:Type}:∀ {kvs:List (κ × V)} {vs:List (κ × Value)},KV kvs vs → Vals (kvs.map (·.2)) (vs.map (·.2))
 | _,_,.nil=>.nil
 | _,_,.cons h t=>.cons h.2 (vals_kv t)
theorem pe_lvals {e:Expr} {td:TE} {p apos cpos pos:PySem.Pos} (hc:X.calm = true) (hg:Gl X "list") (hm:X.mg "list" = none) (he:PE X e td) (hbase:attributeBase e "values" X.env (eval e X.env) = eval e X.env:=by rfl) (hline:(apos.endLine == cpos.line) = true:=by rfl)
  (hs:starEach [.Call (.Attribute e "values" apos) [] [] cpos] X.env = [(false,eval (.Call (.Attribute e "values" apos) [] [] cpos) X.env)]:=by rfl):
  PE X (.Call (.Name "list" p) [.Call (.Attribute e "values" apos) [] [] cpos] [] pos) (tLVals td):=by
 intro pins s σ H Q I h
 refine wpAny_Call_Name_kw (ld_blt I hg hm bt_list ?_)
 refine PyProof.Rows.callWith_type1 ?_ hs rfl
 rw [hs]
 show wpAny _ _ (spliced ((false,eval (.Call (.Attribute e "values" apos) [] [] cpos) X.env) :: [])) _ _ s
 refine Calls.spliced_cons ?_
 refine wpAny_Call_method (T:="dict") (id:="dict.values") hbase rfl hline F.plainAttrs_dict F.slot_dict_values F.type_dict_values (thn (he pins s σ H _ I h) fun u s1 ⟨x,H1,I1,rx,d,kvs,ex,hd,q⟩=>?_)
 subst ex
 obtain rfl:u = Value.ref d:=rx
 obtain ⟨hz,hS,vs,rel,dd⟩:kvs.length ≤ sizeLine ∧ (d == sysModules) = false ∧ ∃ vs,KV kvs vs ∧ s1.heap.DictOf (mixKind X.prog X.w) d vs:=I1.hok d _ hd
 have hl:kvs.length = vs.length:=Paired.length rel
 obtain ⟨ep,hat⟩:=dd.dictAt
 refine ⟨dd.typeIs,dd.mapOf.noDict,?_⟩
 have I2:Inv X pins σ H1 { s1 with heap:=s1.heap.push { cls:=.type "dict_values",data:=.fields #[.ref d] } }:=I1.kept (t':=s1.toks) fun b ob q=>Heap.get?_push_of_some _ q
 have fin:wpAny (model X.prog X.w) X.A (call (.type "list") [.ref s1.heap.objs.size]) (EP X pins σ Q) X.xe { s1 with heap:=s1.heap.push { cls:=.type "dict_values",data:=.fields #[.ref d] } }:=by
  refine PySem.W.kdl_call (PySem.W.kdl_values (knd:=mixKind X.prog X.w) (kvs:=vs) (ep:=ep)) (I.ok.hd hc) ⟨⟨_,Heap.get?_push_size _ rfl,rfl,rfl⟩,hat.push _⟩ (by rw [← hl]; exact hz) fun h' tk acc' c' hk hD hacc=>?_
  have ev:acc'.toList = vs.map (·.2):=PySem.W.kdl_vals_eq acc'.toList (by rw [Array.length_toList]; exact hacc.1) fun j v ej=>hacc.2 j v (by rw [← Array.getElem?_toList]; exact ej)
  have hz2:(kvs.map (·.2)).length ≤ sizeLine:=by rw [List.length_map]; exact hz
  refine ⟨.ref _,_,I2.laid (t':=tk) (o:=.lst (kvs.map (·.2))) hk (Nat.le_refl _) ⟨hz2,acc'.toList,c',by rw [ev]; exact vals_kv rel,by rw [Array.toArray_toList]; exact hD⟩,rfl,q _ (I2.hok.fresh (Nat.le_refl _))⟩
 show wpAny _ _ (callWith cpos (.builtin "dict.values") [.ref d] [] []) _ X.xe s1
 exact method_meetsIn F.slot_dict_values F.entry_dict_values rfl (PySem.evalArgs_none ⟨rfl,dd.typeIs,F.args_dict_values_1 _,_,meets_dict_values (mixKind X.prog X.w) d hS,⟨vs,dd⟩,Calls.spliced_nil fin⟩)
def rSetDef:V → List V → Hp → VK → Prop:=fun x xs H Q=>∃ d kvs k v,x = .ref d ∧ xs = [kV k,v] ∧ H d = some (.dK kvs) ∧ kvs.length < sizeLine ∧
 (∀ y,valV kvs k = some y → Q y H) ∧ (valV kvs k = none → Q v (upd H d (.dK (kvs ++ [(k,v)]))))
theorem mt_setdef:MtR X "dict.setdefault" rSetDef:=by
 intro pins s σ H x xs v us Q I rx rxs h
 obtain ⟨d,kvs,k,y,rfl,rfl,e,l,q1,q2⟩:=h
 cases rx
 obtain ⟨u,w',rfl,ru,rw'⟩:=vals2 rxs
 obtain ⟨z,hd,vs,rel,dd⟩:=dk_of I.hok e
 have hz:vs.length ≤ sizeLine:=by rw [← rel.length]; exact z
 have rv:=rel.val k
 refine call_meetsIn PySem.F.slot_dict_setdefault dd.typeIs PySem.F.entry_dict_setdefault (PySem.F.args_dict_setdefault_3 _ _ _) (kt_meets_setdefault (mixKind X.prog X.w) d (kV_is ru) hd w') ⟨vs,dd,hz,fun v' hv'=>?_,fun hn h' dd' hs=>?_⟩
 ·rw [hv'] at rv
  cases hk:valV kvs k with
  | none=>rw [hk] at rv; exact rv.elim
  | some y'=>rw [hk] at rv; exact ⟨y',H,I.tok _,rv,q1 y' hk⟩
 ·have hnone:valV kvs k = none:=by
   rw [hn] at rv
   cases hk:valV kvs k with
   | none=>rfl
   | some y'=>rw [hk] at rv; exact rv.elim
  have hl:(putK kvs k y).length ≤ sizeLine:=by have:=length_putK kvs k y; omega
  have he:∃ q,h'.get? d = some q:=let ⟨q,_,_,hq,_⟩:=dd'; ⟨q,hq⟩
  have I2:=d_write (t':=s.toks + 1) I (by rw [e]; exact True.intro) hs he (dk_new hl hd (rel.put k rw') dd')
  rw [putK_new y hnone] at I2
  exact ⟨y,_,I2,rw',q2 hnone⟩
end
section
variable {X:Cx} {K:PySem.W.Frag} {a:Expr} {ta:TE}
def tTruK (K:PySem.W.Frag) (ta:TE):TT:=fun σ H Q=>ta σ H fun x H'=>∃ k,TruV K x H' k ∧ Q k H'
theorem pt_truthK (e:X.K = K) (ha:PE X a ta) (he:∀ whole,isTrue a X.env whole = (do let v ← whole; standAt a.pos; holding [v] (truthy v))):PT X a (tTruK K ta):=by
 subst e
 exact pt_truth ha he
theorem call_len_seqK (e:X.K = K):CallR X (.builtin "len") (fun xs H Q=>∃ p ys,xs = [.ref p] ∧ (SqL K H p ys ∨ SqT K H p ys) ∧ Q (.int ys.length) H):=by
 subst e
 exact call_len_seq
theorem ix_tupK (e:X.K = K):IxR X (rIxT K):=by
 subst e
 exact ix_tup
theorem ix_listK (e:X.K = K):IxR X (rIxL K):=by
 subst e
 exact ix_list
theorem op_notIn_seqK (e:X.K = K):OpR X (compareOp .NotIn) (rIn K true):=by
 subst e
 exact op_notIn_seq
theorem cr_sortedK (e:X.K = K):CallR X (.builtin "sorted") (rSorted K):=by
 subst e
 exact cr_sorted
end
section
variable {X:Cx}
def rCatU:R2:=fun x y H Q=>∃ a b xs ys,x = .ref a ∧ y = .ref b ∧ H a = some (.tup xs) ∧ H b = some (.tup ys) ∧ xs.length + ys.length ≤ 1000 ∧ ∀ (p:Addr) (H':Hp),Same H H' → H' p = some (.tup (xs ++ ys)) → Q (.ref p) H'
theorem op_catU:OpR X (binaryOp .Add) rCatU:=by
 intro pins s σ H x y v u Q I rx ry h
 obtain ⟨a,b,xs,ys,rfl,rfl,ha,hb,hz,k⟩:=h
 by_cases e:xs = []
 ·subst e
  cases rx
  cases ry
  obtain ⟨its,r1,p1,_⟩:=I.tuple (SqT.of ha)
  obtain ⟨its2,r2,p2,_⟩:=I.tuple (SqT.of hb)
  have ei:its = []:=r1.nil_iff.mpr rfl
  subst ei
  obtain ⟨⟨cls,dd,data,sl⟩,ho,hc,n,hd⟩:=id p1
  obtain ⟨⟨cls2,dd2,data2,sl2⟩,ho2,hc2,n2,hd2⟩:=id p2
  simp only at hc hd hc2 hd2
  subst hc hd hc2 hd2
  exact concat_meets ⟨_,ho,rfl⟩ ⟨_,ho2,rfl⟩ noFill_tuple_add seq_tuple_add PySem.F.slot_tuple_add PySem.F.entry_tuple_add (PySem.F.args_tuple_add_2 _ _) (tuple_addW0 a b _ _ n n2 dd dd2 sl sl2 (by simp)) ⟨ho,ho2,⟨.ref b,H,I,rfl,k b H (Same.refl H) hb⟩⟩
 ·refine op_catT pins s σ H (.ref a) (.ref b) v u Q I rx ry ⟨a,b,xs,ys,rfl,rfl,SqT.of ha,SqT.of hb,e,Nat.le_trans hz (Nat.le_of_lt (small1000 (Nat.le_refl _))),fun z=>?_,fun z p hp=>?_⟩
  ·subst z
   exact k a H (Same.refl H) (by rw [List.append_nil]; exact ha)
  ·exact k p _ (same_new hp _) upd_same
theorem get_list:PGet X (fun o i H Q=>∃ p xs j v,o = .ref p ∧ i = .int ((j:Nat):Int) ∧ H p = some (.lst xs) ∧ xs[j]? = some v ∧ j ≤ 1000 ∧ Q v H):=by
 intro pins s σ H o i ov iv Q I ro ri h
 obtain ⟨p,xs,j,v,rfl,rfl,hp,hv,hj,q⟩:=h
 cases ro
 obtain ⟨t,rfl⟩:=ri
 obtain ⟨its,r,pl,hz⟩:=I.list (SqL.of hp)
 obtain ⟨u,eu,ru⟩:=r.get hv
 exact PySem.wpAny_getItem_list pl.isList (Int.natCast_nonneg _) (by omega) (by simpa using eu) ⟨v,H,I,ru,q⟩
end
def sp_Deal_init (A:Adr):Sp:=fun vs H Q _=>∃ (p dx:Addr) (x1 x2 x3:V),vs = [.ref p,x1,x2,x3] ∧ H p = some (.ins A.c_Deal dx []) ∧ ∀ (H':Hp) (fs:List (Str × V)),H' p = some (.ins A.c_Deal dx fs) → fs.lookup ("hands":Str) = some x1 → fs.lookup ("trump":Str) = some x2 → fs.lookup ("leader":Str) = some x3 → (∀ b,b ≠ p → H' b = H b) → Q .non H'
theorem ok_Deal_init (T:Txt K mg A):FnOk P w K mg base CX0 1 A.f_Deal_init A.d_Deal_init ["self","hands","trump","leader"] (sp_Deal_init A):=by
 refine T.F_Deal_init.ok sc_Deal_init (fun vs H Q E h=>?_) (fun cdv A' outer s H vs Q E hr h=>?_)
 ·obtain ⟨p,dx,x1,x2,x3,rfl,_⟩:=h
  rfl
 ·obtain ⟨p,dx,x1,x2,x3,rfl,hp,k⟩:=h
  refine ⟨_,(pss_cons (ps_fld (pv 0) (pv 1) rfl) (pss_cons (ps_fld (pv 0) (pv 2) rfl) (pss_one (ps_fld (pv 0) (pv 3) rfl)))),?_⟩
  refine ⟨_,rfl,_,rfl,p,_,dx,_,rfl,hp,T.c_Deal,T.n_Deal_hands,Nat.lt_of_le_of_lt (Nat.zero_le 0) (by decide:0 < 1000),?_⟩
  refine ⟨_,rfl,_,rfl,p,_,dx,_,rfl,upd_same,T.c_Deal,T.n_Deal_trump,Nat.lt_of_le_of_lt (len_put (Nat.zero_le 0)) (by decide:1 < 1000),?_⟩
  refine ⟨_,rfl,_,rfl,p,_,dx,_,rfl,upd_same,T.c_Deal,T.n_Deal_leader,Nat.lt_of_le_of_lt (len_put (len_put (Nat.zero_le 0))) (by decide:2 < 1000),?_⟩
  exact k _ _ upd_same ((lk_miss (by decide +kernel)).trans ((lk_miss (by decide +kernel)).trans lk_hit)) ((lk_miss (by decide +kernel)).trans lk_hit) lk_hit (fun b hb=>(upd_ne hb).trans ((upd_ne hb).trans (upd_ne hb)))
def sp_Position_init (A:Adr):Sp:=fun vs H Q _=>∃ (p dx:Addr) (x1 x2 x3 x4 x5 x6 x7:V),vs = [.ref p,x1,x2,x3,x4,x5,x6,x7] ∧ H p = some (.ins A.c_Position dx []) ∧ ∀ (H':Hp) (fs:List (Str × V)),H' p = some (.ins A.c_Position dx fs) → fs.lookup ("deal":Str) = some x1 → fs.lookup ("left":Str) = some x2 → fs.lookup ("seat":Str) = some x3 → fs.lookup ("count":Str) = some x4 → fs.lookup ("led":Str) = some x5 → fs.lookup ("best":Str) = some x6 → fs.lookup ("winner":Str) = some x7 → (∀ b,b ≠ p → H' b = H b) → Q .non H'
theorem ok_Position_init (T:Txt K mg A):FnOk P w K mg base CX0 1 A.f_Position_init A.d_Position_init ["self","deal","left","seat","count","led","best","winner"] (sp_Position_init A):=by
 refine T.F_Position_init.ok sc_Position_init (fun vs H Q E h=>?_) (fun cdv A' outer s H vs Q E hr h=>?_)
 ·obtain ⟨p,dx,x1,x2,x3,x4,x5,x6,x7,rfl,_⟩:=h
  rfl
 ·obtain ⟨p,dx,x1,x2,x3,x4,x5,x6,x7,rfl,hp,k⟩:=h
  refine ⟨_,(pss_cons (ps_fld (pv 0) (pv 1) rfl) (pss_cons (ps_fld (pv 0) (pv 2) rfl) (pss_cons (ps_fld (pv 0) (pv 3) rfl) (pss_cons (ps_fld (pv 0) (pv 4) rfl) (pss_cons (ps_fld (pv 0) (pv 5) rfl) (pss_cons (ps_fld (pv 0) (pv 6) rfl) (pss_one (ps_fld (pv 0) (pv 7) rfl)))))))),?_⟩
  refine ⟨_,rfl,_,rfl,p,_,dx,_,rfl,hp,T.c_Position,T.n_Position_deal,Nat.lt_of_le_of_lt (Nat.zero_le 0) (by decide:0 < 1000),?_⟩
  refine ⟨_,rfl,_,rfl,p,_,dx,_,rfl,upd_same,T.c_Position,T.n_Position_left,Nat.lt_of_le_of_lt (len_put (Nat.zero_le 0)) (by decide:1 < 1000),?_⟩
  refine ⟨_,rfl,_,rfl,p,_,dx,_,rfl,upd_same,T.c_Position,T.n_Position_seat,Nat.lt_of_le_of_lt (len_put (len_put (Nat.zero_le 0))) (by decide:2 < 1000),?_⟩
  refine ⟨_,rfl,_,rfl,p,_,dx,_,rfl,upd_same,T.c_Position,T.n_Position_count,Nat.lt_of_le_of_lt (len_put (len_put (len_put (Nat.zero_le 0)))) (by decide:3 < 1000),?_⟩
  refine ⟨_,rfl,_,rfl,p,_,dx,_,rfl,upd_same,T.c_Position,T.n_Position_led,Nat.lt_of_le_of_lt (len_put (len_put (len_put (len_put (Nat.zero_le 0))))) (by decide:4 < 1000),?_⟩
  refine ⟨_,rfl,_,rfl,p,_,dx,_,rfl,upd_same,T.c_Position,T.n_Position_best,Nat.lt_of_le_of_lt (len_put (len_put (len_put (len_put (len_put (Nat.zero_le 0)))))) (by decide:5 < 1000),?_⟩
  refine ⟨_,rfl,_,rfl,p,_,dx,_,rfl,upd_same,T.c_Position,T.n_Position_winner,Nat.lt_of_le_of_lt (len_put (len_put (len_put (len_put (len_put (len_put (Nat.zero_le 0))))))) (by decide:6 < 1000),?_⟩
  exact k _ _ upd_same ((lk_miss (by decide +kernel)).trans ((lk_miss (by decide +kernel)).trans ((lk_miss (by decide +kernel)).trans ((lk_miss (by decide +kernel)).trans ((lk_miss (by decide +kernel)).trans ((lk_miss (by decide +kernel)).trans lk_hit)))))) ((lk_miss (by decide +kernel)).trans ((lk_miss (by decide +kernel)).trans ((lk_miss (by decide +kernel)).trans ((lk_miss (by decide +kernel)).trans ((lk_miss (by decide +kernel)).trans lk_hit))))) ((lk_miss (by decide +kernel)).trans ((lk_miss (by decide +kernel)).trans ((lk_miss (by decide +kernel)).trans ((lk_miss (by decide +kernel)).trans lk_hit)))) ((lk_miss (by decide +kernel)).trans ((lk_miss (by decide +kernel)).trans ((lk_miss (by decide +kernel)).trans lk_hit))) ((lk_miss (by decide +kernel)).trans ((lk_miss (by decide +kernel)).trans lk_hit)) ((lk_miss (by decide +kernel)).trans lk_hit) lk_hit (fun b hb=>(upd_ne hb).trans ((upd_ne hb).trans ((upd_ne hb).trans ((upd_ne hb).trans ((upd_ne hb).trans ((upd_ne hb).trans (upd_ne hb)))))))
def sp_Claim_init (A:Adr):Sp:=fun vs H Q _=>∃ (p dx:Addr) (x1 x2 x3 x4 x5:V),vs = [.ref p,x1,x2,x3,x4,x5] ∧ H p = some (.ins A.c_Claim dx []) ∧ ∀ (H':Hp) (fs:List (Str × V)),H' p = some (.ins A.c_Claim dx fs) → fs.lookup ("side":Str) = some x1 → fs.lookup ("tricks":Str) = some x2 → fs.lookup ("judged":Str) = some x3 → fs.lookup ("sure":Str) = some x4 → fs.lookup ("awarded":Str) = some x5 → (∀ b,b ≠ p → H' b = H b) → Q .non H'
theorem ok_Claim_init (T:Txt K mg A):FnOk P w K mg base CX0 1 A.f_Claim_init A.d_Claim_init ["self","side","tricks","judged","sure","awarded"] (sp_Claim_init A):=by
 refine T.F_Claim_init.ok sc_Claim_init (fun vs H Q E h=>?_) (fun cdv A' outer s H vs Q E hr h=>?_)
 ·obtain ⟨p,dx,x1,x2,x3,x4,x5,rfl,_⟩:=h
  rfl
 ·obtain ⟨p,dx,x1,x2,x3,x4,x5,rfl,hp,k⟩:=h
  refine ⟨_,(pss_cons (ps_fld (pv 0) (pv 1) rfl) (pss_cons (ps_fld (pv 0) (pv 2) rfl) (pss_cons (ps_fld (pv 0) (pv 3) rfl) (pss_cons (ps_fld (pv 0) (pv 4) rfl) (pss_one (ps_fld (pv 0) (pv 5) rfl)))))),?_⟩
  refine ⟨_,rfl,_,rfl,p,_,dx,_,rfl,hp,T.c_Claim,T.n_Claim_side,Nat.lt_of_le_of_lt (Nat.zero_le 0) (by decide:0 < 1000),?_⟩
  refine ⟨_,rfl,_,rfl,p,_,dx,_,rfl,upd_same,T.c_Claim,T.n_Claim_tricks,Nat.lt_of_le_of_lt (len_put (Nat.zero_le 0)) (by decide:1 < 1000),?_⟩
  refine ⟨_,rfl,_,rfl,p,_,dx,_,rfl,upd_same,T.c_Claim,T.n_Claim_judged,Nat.lt_of_le_of_lt (len_put (len_put (Nat.zero_le 0))) (by decide:2 < 1000),?_⟩
  refine ⟨_,rfl,_,rfl,p,_,dx,_,rfl,upd_same,T.c_Claim,T.n_Claim_sure,Nat.lt_of_le_of_lt (len_put (len_put (len_put (Nat.zero_le 0)))) (by decide:3 < 1000),?_⟩
  refine ⟨_,rfl,_,rfl,p,_,dx,_,rfl,upd_same,T.c_Claim,T.n_Claim_awarded,Nat.lt_of_le_of_lt (len_put (len_put (len_put (len_put (Nat.zero_le 0))))) (by decide:4 < 1000),?_⟩
  exact k _ _ upd_same ((lk_miss (by decide +kernel)).trans ((lk_miss (by decide +kernel)).trans ((lk_miss (by decide +kernel)).trans ((lk_miss (by decide +kernel)).trans lk_hit)))) ((lk_miss (by decide +kernel)).trans ((lk_miss (by decide +kernel)).trans ((lk_miss (by decide +kernel)).trans lk_hit))) ((lk_miss (by decide +kernel)).trans ((lk_miss (by decide +kernel)).trans lk_hit)) ((lk_miss (by decide +kernel)).trans lk_hit) lk_hit (fun b hb=>(upd_ne hb).trans ((upd_ne hb).trans ((upd_ne hb).trans ((upd_ne hb).trans (upd_ne hb)))))
def sp_Statement_init (A:Adr):Sp:=fun vs H Q _=>∃ (p dx:Addr) (x1 x2 x3:V),vs = [.ref p,x1,x2,x3] ∧ H p = some (.ins A.c_Statement dx []) ∧ ∀ (H':Hp) (fs:List (Str × V)),H' p = some (.ins A.c_Statement dx fs) → fs.lookup ("side":Str) = some x1 → fs.lookup ("way":Str) = some x2 → fs.lookup ("cards":Str) = some x3 → (∀ b,b ≠ p → H' b = H b) → Q .non H'
theorem ok_Statement_init (T:Txt K mg A):FnOk P w K mg base CX0 1 A.f_Statement_init A.d_Statement_init ["self","side","way","cards"] (sp_Statement_init A):=by
 refine T.F_Statement_init.ok sc_Statement_init (fun vs H Q E h=>?_) (fun cdv A' outer s H vs Q E hr h=>?_)
 ·obtain ⟨p,dx,x1,x2,x3,rfl,_⟩:=h
  rfl
 ·obtain ⟨p,dx,x1,x2,x3,rfl,hp,k⟩:=h
  refine ⟨_,(pss_cons (ps_fld (pv 0) (pv 1) rfl) (pss_cons (ps_fld (pv 0) (pv 2) rfl) (pss_one (ps_fld (pv 0) (pv 3) rfl)))),?_⟩
  refine ⟨_,rfl,_,rfl,p,_,dx,_,rfl,hp,T.c_Statement,T.n_Statement_side,Nat.lt_of_le_of_lt (Nat.zero_le 0) (by decide:0 < 1000),?_⟩
  refine ⟨_,rfl,_,rfl,p,_,dx,_,rfl,upd_same,T.c_Statement,T.n_Statement_way,Nat.lt_of_le_of_lt (len_put (Nat.zero_le 0)) (by decide:1 < 1000),?_⟩
  refine ⟨_,rfl,_,rfl,p,_,dx,_,rfl,upd_same,T.c_Statement,T.n_Statement_cards,Nat.lt_of_le_of_lt (len_put (len_put (Nat.zero_le 0))) (by decide:2 < 1000),?_⟩
  exact k _ _ upd_same ((lk_miss (by decide +kernel)).trans ((lk_miss (by decide +kernel)).trans lk_hit)) ((lk_miss (by decide +kernel)).trans lk_hit) lk_hit (fun b hb=>(upd_ne hb).trans ((upd_ne hb).trans (upd_ne hb)))
def sp_Call_init (A:Adr):Sp:=fun vs H Q _=>∃ (p dx:Addr) (x1 x2 x3 x4:V),vs = [.ref p,x1,x2,x3,x4] ∧ H p = some (.ins A.c_Call dx []) ∧ ∀ (H':Hp) (fs:List (Str × V)),H' p = some (.ins A.c_Call dx fs) → fs.lookup ("number":Str) = some x1 → fs.lookup ("numbers":Str) = some x2 → fs.lookup ("rows":Str) = some x3 → fs.lookup ("end":Str) = some x4 → (∀ b,b ≠ p → H' b = H b) → Q .non H'
theorem ok_Call_init (T:Txt K mg A):FnOk P w K mg base CX0 1 A.f_Call_init A.d_Call_init ["self","number","numbers","rows","end"] (sp_Call_init A):=by
 refine T.F_Call_init.ok sc_Call_init (fun vs H Q E h=>?_) (fun cdv A' outer s H vs Q E hr h=>?_)
 ·obtain ⟨p,dx,x1,x2,x3,x4,rfl,_⟩:=h
  rfl
 ·obtain ⟨p,dx,x1,x2,x3,x4,rfl,hp,k⟩:=h
  refine ⟨_,(pss_cons (ps_fld (pv 0) (pv 1) rfl) (pss_cons (ps_fld (pv 0) (pv 2) rfl) (pss_cons (ps_fld (pv 0) (pv 3) rfl) (pss_one (ps_fld (pv 0) (pv 4) rfl))))),?_⟩
  refine ⟨_,rfl,_,rfl,p,_,dx,_,rfl,hp,T.c_Call,T.n_Call_number,Nat.lt_of_le_of_lt (Nat.zero_le 0) (by decide:0 < 1000),?_⟩
  refine ⟨_,rfl,_,rfl,p,_,dx,_,rfl,upd_same,T.c_Call,T.n_Call_numbers,Nat.lt_of_le_of_lt (len_put (Nat.zero_le 0)) (by decide:1 < 1000),?_⟩
  refine ⟨_,rfl,_,rfl,p,_,dx,_,rfl,upd_same,T.c_Call,T.n_Call_rows,Nat.lt_of_le_of_lt (len_put (len_put (Nat.zero_le 0))) (by decide:2 < 1000),?_⟩
  refine ⟨_,rfl,_,rfl,p,_,dx,_,rfl,upd_same,T.c_Call,T.n_Call_end,Nat.lt_of_le_of_lt (len_put (len_put (len_put (Nat.zero_le 0)))) (by decide:3 < 1000),?_⟩
  exact k _ _ upd_same ((lk_miss (by decide +kernel)).trans ((lk_miss (by decide +kernel)).trans ((lk_miss (by decide +kernel)).trans lk_hit))) ((lk_miss (by decide +kernel)).trans ((lk_miss (by decide +kernel)).trans lk_hit)) ((lk_miss (by decide +kernel)).trans lk_hit) lk_hit (fun b hb=>(upd_ne hb).trans ((upd_ne hb).trans ((upd_ne hb).trans (upd_ne hb))))
end
end Cc
end
section
set_option Elab.async false
set_option linter.all false
set_option maxRecDepth 100000
set_option maxHeartbeats 4000000
namespace Cc
open PySem PySem.Spec PyProof.Rows L2
section
variable {P:Program} {w:World} {K:PySem.W.Frag} {mg:Str → Option Value} {base:Heap} {A:Adr}
def sp_between_tricks (A:Adr):Sp:=fun vs H Q _=>∃ (dd:Addr) (d:Deal) (l e:Nat),vs = [.ref dd,.int (l:Int),.int (e:Int)] ∧ DealAt A H dd d ∧ ∀ (r:Addr) (H':Hp),Same H H' → PosAt A H' r d (between l e) → Q (.ref r) H'
theorem ok_between_tricks (T:Txt K mg A):FnOk P w K mg base CX0 3 A.f_between_tricks A.d_between_tricks ["deal","left","leader"] (sp_between_tricks A):=by
 have G_Position_init:=ok_Position_init (P:=P) (w:=w) (base:=base) T
 refine T.F_between_tricks.ok sc_between_tricks (fun vs H Q E h=>?_) (fun cdv A' outer s H vs Q E hr h=>?_)
 ·obtain ⟨dd,d,l,e,rfl,_⟩:=h
  rfl
 ·obtain ⟨dd,d,l,e,rfl,hd,k⟩:=h
  refine ⟨_,(pss_one (ps_ret (pe_make T.M_Position G_Position_init (hr.mono (by decide)) rfl T.m_Position T.b_Position_init .nil pass0 (pa_cons (pv 0) (pa_cons (pv 1) (pa_cons (pv 2) (pa_cons pe_int (pa_cons pe_int (pa_cons pe_int (pa_cons (pv 2) pa_nil)))))))))),?_⟩
  refine ⟨_,rfl,_,rfl,_,rfl,_,rfl,fun x dx nx ndx ne=>?_⟩
  refine ⟨x,dx,_,_,_,_,_,_,_,rfl,upd_same,fun H' fs hH l1 l2 l3 l4 l5 l6 l7 kp=>⟨rfl,?_⟩⟩
  have sm:=made_same nx ndx kp
  exact k x H' sm ⟨dd,dx,fs,hd.same sm,hH,l1,l2,l3,l4,l5,l6,l7⟩
def sp_beats:Sp:=fun vs H Q _=>∃ c b t:Nat,vs = [.int (c:Int),.int (b:Int),.int (t:Int)] ∧ Q (.bl (Vbbraf.over t b c)) H
theorem ok_beats (T:Txt K mg A):FnOk P w K mg base CX0 1 A.f_beats A.d_beats ["card","best","trump"] sp_beats:=by
 refine T.F_beats.ok sc_beats (fun vs H Q E h=>?_) (fun cdv A' outer s H vs Q E hr h=>?_)
 ·obtain ⟨c,b,t,rfl,_⟩:=h
  rfl
 ·obtain ⟨c,b,t,rfl,k⟩:=h
  refine ⟨_,(pss_cons (ps_set (i:=3) sc_beats.nd rfl (by first | exact Or.inl rfl | exact Or.inr rfl) (pe_op op_fdiv (pv 0) (pe_gint rfl T.g_SUIT_SIZE))) (pss_cons (ps_set (i:=4) sc_beats.nd rfl (by first | exact Or.inl rfl | exact Or.inr rfl) (pe_op op_fdiv (pv 1) (pe_gint rfl T.g_SUIT_SIZE))) (pss_cons (ps_if (pt_cmpR op_eq (pv 3) (pv 4) (nomark _)) (pss_one (ps_ret (pe_cmpR op_gt (pv 0) (pv 1) (nomark _)))) pss_nil) (pss_one (ps_ret (pe_cmpR op_eq (pv 3) (pv 2) (nomark _))))))),?_⟩
  refine ⟨_,rfl,_,_,rfl,rfl,⟨by decide,by decide⟩,?_⟩
  refine ⟨_,rfl,_,_,rfl,rfl,⟨by decide,by decide⟩,?_⟩
  refine ⟨_,rfl,_,rfl,rfl,_,rfl,?_⟩
  refine ifI (fun e=>?_) fun e=>?_
  ·refine ⟨_,rfl,_,rfl,_,_,rfl,rfl,?_⟩
   have q:Vbbraf.over t b c = decide ((b:Int) < (c:Int)):=by
    unfold Vbbraf.over Vbbraf.suitOf
    rw [if_pos (by omega)]
    congr 1
    exact propext Int.ofNat_lt.symm
   rw [q] at k
   exact k
  ·refine ⟨_,rfl,_,rfl,rfl,?_⟩
   have q:Vbbraf.over t b c = decide (V.int ((c:Int) / 13) = V.int (t:Int)):=by
    unfold Vbbraf.over Vbbraf.suitOf
    rw [if_neg (by omega),Bool.eq_iff_iff,beq_iff_eq,decide_eq_true_iff]
    constructor
    ·intro h
     congr 1
     omega
    ·intro h
     injection h with h
     omega
   rw [q] at k
   exact k
def sp_trick_won (A:Adr):Sp:=fun vs H Q _=>∃ (a:Addr) (d:Deal) (m:MP) (side:Nat),vs = [.ref a,.int (side:Int)] ∧ PosAt A H a d m ∧ Q (.int (won m side:Nat)) H
theorem ok_trick_won (T:Txt K mg A):FnOk P w K mg base CX0 1 A.f_trick_won A.d_trick_won ["position","side"] (sp_trick_won A):=by
 refine T.F_trick_won.ok sc_trick_won (fun vs H Q E h=>?_) (fun cdv A' outer s H vs Q E hr h=>?_)
 ·obtain ⟨a,d,m,side,rfl,_⟩:=h
  rfl
 ·obtain ⟨a,d,m,side,rfl,⟨dd,dx,fs,hd,hp,l1,l2,l3,l4,l5,l6,l7⟩,k⟩:=h
  refine ⟨_,(pss_one (ps_ret (pe_ifExp (PW.pt (pw_and (pt_cmpR op_eq (pe_fld (pv 0) rfl) pe_int (nomark _)) (pw_and1 (pt_cmpR op_eq (pe_op op_mod (pe_fld (pv 0) rfl) pe_int) (pv 1) (nomark _))))) pe_int pe_int))),?_⟩
  refine ⟨_,rfl,a,_,dx,fs,_,rfl,hp,T.c_Position,T.n_Position_count,l4,rfl,_,rfl,?_⟩
  refine ifI (fun e=>?_) fun e=>?_
  ·refine ⟨_,rfl,a,_,dx,fs,_,rfl,hp,T.c_Position,T.n_Position_seat,l3,_,_,rfl,rfl,(by show (0:Int) < 2; decide),_,rfl,rfl,_,rfl,?_⟩
   refine ifI (fun e2=>?_) fun e2=>?_
   ·have q:won m side = 1:=by
     unfold won
     rw [if_pos ⟨by omega,by omega⟩]
    rw [q] at k
    exact k
   ·have q:won m side = 0:=by
     unfold won
     rw [if_neg (by rintro ⟨_,z⟩; omega)]
    rw [q] at k
    exact k
  ·have q:won m side = 0:=by
    unfold won
    rw [if_neg (by rintro ⟨z,_⟩; omega)]
   rw [q] at k
   exact iteF k
def sp_hand_of (A:Adr):Sp:=fun vs H Q _=>∃ (a:Addr) (d:Deal) (m:MP) (s:Nat),vs = [.ref a,.int (s:Int)] ∧ PosAt A H a d m ∧ d.hands.length = 4 ∧ s < 4 ∧ (∀ h ∈ d.hands,h.length ≤ 4) ∧
 ∀ (r:Addr) (H':Hp),Same H H' → H' r = some (.lst (nints (hand d m s))) → Q (.ref r) H'
theorem bit_test (x c:Nat):((Builtin.bitAnd ((x:Int) / 2 ^ ((c:Int)).toNat) 1) != 0) = x.testBit c:=by
 rw [Int.toNat_natCast,bitAnd_m1,Nat.testBit_eq_decide_div_mod_eq]
 have e:((x:Int) / 2 ^ c % 2) = ((x / 2 ^ c % 2:Nat):Int):=by
  rw [Int.natCast_emod,Int.natCast_ediv,Int.natCast_pow]
  rfl
 rw [e]
 have:x / 2 ^ c % 2 = 0 ∨ x / 2 ^ c % 2 = 1:=by omega
 rcases this with q | q <;> rw [q] <;> rfl
theorem ok_hand_of (T:Txt K mg A):FnOk P w K mg base CX0 1 A.f_hand_of A.d_hand_of ["position","seat"] (sp_hand_of A):=by
 refine T.F_hand_of.ok sc_hand_of (fun vs H Q E h=>?_) (fun cdv A' outer s H vs Q E hr h=>?_)
 ·obtain ⟨a,d,m,s,rfl,_⟩:=h
  rfl
 ·obtain ⟨a,d,m,s,rfl,⟨dd,dx,fs,⟨ddx,hx,dfs,hs,hd1,hd2,hd3,hd4,hd5,hd6,hd7⟩,hp,l1,l2,l3,l4,l5,l6,l7⟩,len,s4,h4,k⟩:=h
  have es:=getD_some (l:=d.hands) (s:=s) (by rw [len]; exact s4)
  obtain ⟨b,eb,hb⟩:=hd7 s _ es
  have hlen:(d.hands.getD s []).length ≤ 4:=h4 _ (List.mem_of_getElem? es)
  refine ⟨_,(pss_cons (ps_set (i:=2) sc_hand_of.nd rfl (by first | exact Or.inl rfl | exact Or.inr rfl) (pe_fld (pv 0) rfl)) (pss_one (ps_ret (pe_lc rfl sc_hand_of.nd (pi_tup (pe_ix ix_tup (pe_fld (pe_fld (pv 0) rfl) rfl) (pv 1) (fun _ _=>rfl))) (blkOk_by (own:=[("card",3)]) (by show blkC ["position","seat","left","card"] (defScope s_hand_of) _ _ = true; decide +kernel)) (fun _ _ _ _ _=>(pg_name (i:=3) sc_hand_of.nd rfl (Or.inl rfl))) (fun _ _ _ _ _=>(pts_one (pt_truthK (K:=K) rfl (pe_op op_and (pe_op op_shr (pv 2) (pv 3)) pe_int) (fun _=>rfl)))) (fun _ _ _ _ _=>(pv 3)))))),?_⟩
  refine ⟨_,rfl,a,_,dx,fs,_,rfl,hp,T.c_Position,T.n_Position_left,l2,?_⟩
  refine ⟨_,rfl,a,_,dx,fs,_,rfl,hp,T.c_Position,T.n_Position_deal,l1,dd,_,ddx,dfs,_,rfl,hd1,T.c_Deal,T.n_Deal_hands,hd2,_,rfl,hx,_,_,_,rfl,rfl,SqT.of hd5,atI_nat (v:=V.ref b) (by rw [List.getElem?_map,eb]; rfl),b,rfl,⟨_,SqT.of hb⟩,fun D hD=>?_⟩
  refine lc_tup (K:=K) (a:=b) (xs:=nints (d.hands.getD s [])) (fun i H'=>Same H H' ∧ H' D = some (.lst (nints (((d.hands.getD s []).take i).filter fun c=>m.left.testBit c)))) ⟨same_new hD _,upd_same⟩ (fun i H' _ ⟨sm,_⟩=>SqT.of (sm _ _ hb)) (fun i x H' hi ⟨sm,hl⟩=>?_) (fun H' ⟨sm,hl⟩=>?_)
  ·obtain ⟨c,hc,rfl⟩:=ints_at hi
   refine ⟨rfl,_,rfl,_,rfl,_,_,rfl,rfl,Int.natCast_nonneg _,_,_,rfl,rfl,_,rfl,?_⟩
   rw [bit_test]
   cases hbit:m.left.testBit c with
   | true=>
    refine iteT ⟨_,rfl,_,hl,?_,fun y o e=>?_,?_⟩
    ·rw [ints_len]
     refine Nat.lt_of_le_of_lt (List.length_filter_le _ _) (Nat.lt_of_le_of_lt (List.length_take_le' _ _) (small1000 (by omega)))
    ·rw [upd_ne (ne_of_none e hD)]
     exact sm _ _ e
    ·rw [upd_same,take_snoc hc,List.filter_append,List.filter_cons,if_pos hbit,List.filter_nil,ints_snoc]
   | false=>
    refine iteF ⟨sm,?_⟩
    rw [take_snoc hc,List.filter_append,List.filter_cons,if_neg (by rw [hbit]; decide),List.filter_nil,List.append_nil]
    exact hl
  ·rw [ints_len,List.take_length] at hl
   exact k D H' sm hl
def sp_may_play (A:Adr):Sp:=fun vs H Q _=>∃ (a:Addr) (d:Deal) (m:MP),vs = [.ref a] ∧ PosAt A H a d m ∧ d.hands.length = 4 ∧ m.seat < 4 ∧ (∀ h ∈ d.hands,h.length ≤ 4) ∧
 ∀ (r:Addr) (H':Hp),Same H H' → H' r = some (.lst (nints (may d m))) → Q (.ref r) H'
theorem hand_len {d:Deal} (m:MP) {s:Nat} (len:d.hands.length = 4) (s4:s < 4) (h4:∀ h ∈ d.hands,h.length ≤ 4):(hand d m s).length ≤ 4:=by
 have es:=getD_some (l:=d.hands) (s:=s) (by rw [len]; exact s4)
 exact Nat.le_trans (List.length_filter_le _ _) (h4 _ (List.mem_of_getElem? es))
theorem ok_may_play (T:Txt K mg A):FnOk P w K mg base CX0 2 A.f_may_play A.d_may_play ["position"] (sp_may_play A):=by
 have G_hand_of:=ok_hand_of (P:=P) (w:=w) (base:=base) T
 refine T.F_may_play.ok sc_may_play (fun vs H Q E h=>?_) (fun cdv A' outer s H vs Q E hr h=>?_)
 ·obtain ⟨a,d,m,rfl,_⟩:=h
  rfl
 ·obtain ⟨a,d,m,rfl,hpos,len,s4,h4,k⟩:=h
  obtain ⟨dd,dx,fs,hd,hp,l1,l2,l3,l4,l5,l6,l7⟩:=id hpos
  have hl4:=hand_len m len s4 h4
  refine ⟨_,(pss_cons (ps_set (i:=1) sc_may_play.nd rfl (by first | exact Or.inl rfl | exact Or.inr rfl) (pe_call G_hand_of (hr.mono (by decide)) rfl T.m_hand_of T.F_hand_of.kp T.b_hand_of .nil pass0 (pa_cons (pv 0) (pa_cons (pe_fld (pv 0) rfl) pa_nil)))) (pss_cons (ps_if (pt_cmpR op_eq (pe_fld (pv 0) rfl) pe_int (nomark _)) (pss_one (ps_ret (pv 1))) pss_nil) (pss_cons (ps_set (i:=2) sc_may_play.nd rfl (by first | exact Or.inl rfl | exact Or.inr rfl) (pe_fld (pv 0) rfl)) (pss_cons (ps_setLc (i:=3) rfl sc_may_play.nd rfl rfl (sw_true rfl rfl rfl (by decide +kernel)) (pi_list (pv 1)) (blkOk_by (own:=[("card",4)]) (by show blkC ["position","hand","led","following","card"] (defScope s_may_play) _ _ = true; decide +kernel)) (fun _ _ _ _ _=>(pg_name (i:=4) sc_may_play.nd rfl (Or.inl rfl))) (fun _ _ _ _ _=>(pts_one (pt_cmpR op_eq (pe_op op_fdiv (pv 4) (pe_gint rfl T.g_SUIT_SIZE)) (pv 2) (nomark _)))) (fun _ _ _ _ _=>(pv 4))) (pss_one (ps_ret (pe_ifExp (pt_truth (pv 3) (fun _=>rfl)) (pv 3) (pv 1)))))))),?_⟩
  refine ⟨_,rfl,_,rfl,a,_,dx,fs,_,rfl,hp,T.c_Position,T.n_Position_seat,l3,a,d,m,m.seat,rfl,hpos,len,s4,h4,fun r H1 s1 hr1=>?_⟩
  refine ⟨_,rfl,a,_,dx,fs,_,rfl,s1 _ _ hp,T.c_Position,T.n_Position_count,l4,rfl,_,rfl,?_⟩
  refine ifI (fun e=>?_) fun e=>?_
  ·refine ⟨_,rfl,k r H1 s1 ?_⟩
   rw [hr1]
   unfold may
   rw [if_pos (by omega)]
  ·refine ⟨_,rfl,a,_,dx,fs,_,rfl,s1 _ _ hp,T.c_Position,T.n_Position_led,l5,?_⟩
   refine ⟨_,rfl,r,rfl,⟨_,SqL.of hr1⟩,fun D hD=>?_⟩
   refine lc_list (K:=K) (a:=r) (xs:=nints (hand d m m.seat)) (fun i H'=>Same H1 H' ∧ H' D = some (.lst (nints (((hand d m m.seat).take i).filter fun c=>c / 13 == m.led)))) ⟨same_new hD _,upd_same⟩ (fun i H' _ ⟨sm,_⟩=>SqL.of (sm _ _ hr1)) (fun i x H' hi ⟨sm,hl⟩=>?_) (fun H' ⟨sm,hl⟩=>?_)
   ·obtain ⟨c,hc,rfl⟩:=ints_at hi
    refine ⟨rfl,_,rfl,_,_,rfl,rfl,⟨by decide,by decide⟩,_,rfl,rfl,_,rfl,?_⟩
    refine ifI (fun e2=>?_) fun e2=>?_
    ·refine ⟨_,rfl,_,hl,?_,fun y o z=>?_,?_⟩
     ·rw [ints_len]
      refine Nat.lt_of_le_of_lt (List.length_filter_le _ _) (Nat.lt_of_le_of_lt (List.length_take_le' _ _) (small1000 (by omega)))
     ·rw [upd_ne (ne_of_none z hD)]
      exact sm _ _ z
     ·rw [upd_same,take_snoc hc,List.filter_append,List.filter_cons,if_pos (by rw [beq_iff_eq]; omega),List.filter_nil,ints_snoc]
    ·refine ⟨sm,?_⟩
     rw [take_snoc hc,List.filter_append,List.filter_cons,if_neg (by rw [beq_iff_eq]; omega),List.filter_nil,List.append_nil]
     exact hl
   ·rw [ints_len,List.take_length] at hl
    refine ⟨_,rfl,_,.inl ⟨_,SqL.of hl,rfl⟩,?_⟩
    cases hq:(hand d m m.seat).filter fun c=>c / 13 == m.led with
    | nil=>
     rw [hq] at hl
     refine iteF ⟨_,rfl,k r H' (s1.trans sm) ?_⟩
     rw [sm _ _ hr1]
     unfold may
     rw [if_neg (by omega),hq]
     rfl
    | cons x t=>
     rw [hq] at hl
     refine iteT ⟨_,rfl,k D H' (s1.trans sm) ?_⟩
     rw [hl]
     unfold may
     rw [if_neg (by omega),hq]
     rfl
def sp_tricks_of_rest (A:Adr):Sp:=fun vs H Q _=>∃ (a:Addr) (d:Deal) (m:MP) (p:Vbbraf.Pos),vs = [.ref a] ∧ PosAt A H a d m ∧ DealOk d ∧ Rel d m p ∧ ∀ H':Hp,Same H H' → Q (.int (Cc.toCome d m:Nat)) H'
theorem deal4 {d:Deal} (O:DealOk d):∀ h ∈ d.hands,h.length ≤ 4:=fun h hh=>by
 obtain ⟨n,h4,hn⟩:=O.even
 rw [hn h hh]
 exact h4
theorem ok_tricks_of_rest (T:Txt K mg A):FnOk P w K mg base CX0 2 A.f_tricks_of_rest A.d_tricks_of_rest ["position"] (sp_tricks_of_rest A):=by
 have G_hand_of:=ok_hand_of (P:=P) (w:=w) (base:=base) T
 refine T.F_tricks_of_rest.ok sc_tricks_of_rest (fun vs H Q E h=>?_) (fun cdv A' outer s H vs Q E hr h=>?_)
 ·obtain ⟨a,d,m,p,rfl,_⟩:=h
  rfl
 ·obtain ⟨a,d,m,p,rfl,hpos,O,R,k⟩:=h
  refine ⟨_,(pss_one (ps_ret (pe_callB (cr_max rfl) (by rfl) T.z_max bt_max (pa_cons (pe_lc rfl sc_tricks_of_rest.nd (pi_range1 rfl T.z_range (pa_cons (pe_gint rfl T.g_SEATS) pa_nil)) (blkOk_by (own:=[("seat",1)]) (by show blkC ["position","seat"] (defScope s_tricks_of_rest) _ _ = true; decide +kernel)) (fun _ _ _ _ _=>(pg_name (i:=1) sc_tricks_of_rest.nd rfl (Or.inl rfl))) (fun _ _ _ _ _=>pts_nil) (fun _ _ _ _ _=>(pe_callB (call_len_seqK (K:=K) rfl) (by rfl) T.z_len bt_len (pa_cons (pe_call G_hand_of (hr.mono (by decide)) rfl T.m_hand_of T.F_hand_of.kp T.b_hand_of .nil pass0 (pa_cons (pv 0) (pa_cons (pv 1) pa_nil))) pa_nil)))) pa_nil)))),?_⟩
  refine ⟨4,rfl,by decide,by decide,fun D hD=>?_⟩
  refine lc_range (lo:=0) (n:=4) (fun i H'=>Same H H' ∧ H' D = some (.lst (((List.range i).map fun s=>((hand d m s).length:Int)).map V.int))) ⟨same_new hD _,upd_same⟩ (fun i H' hi ⟨sm,hl⟩=>?_) (fun H' ⟨sm,hl⟩=>?_)
  ·refine ⟨rfl,_,rfl,_,rfl,a,d,m,i,(by show [V.ref a,V.int (0 + (i:Int))] = _; rw [Int.zero_add]),hpos.same sm,O.len,hi,deal4 O,fun r H1 s1 hr1=>?_⟩
   refine ⟨r,_,rfl,.inl (SqL.of hr1),_,s1 _ _ hl,?_,fun y o z=>?_,?_⟩
   ·rw [List.length_map,List.length_map,List.length_range]
    exact small1000 (by omega)
   ·rw [upd_ne (ne_of_none z hD)]
    exact s1 _ _ (sm _ _ z)
   ·rw [upd_same,ints_len,List.range_succ,List.map_append,List.map_append]
    rfl
  ·refine ⟨D,_,rfl,SqL.of hl,by simp,fun mx hm hy=>?_⟩
   obtain ⟨n,hn4,h1,h2,h3,h5⟩:=R.lens O
   have hs:=R.seat4
   have c3:=R.c3
   have a1:=hy _ (List.mem_map.mpr ⟨m.seat,List.mem_range.mpr hs,rfl⟩)
   obtain ⟨s,hs',e⟩:=List.mem_map.mp hm
   have a2:=h5 s (List.mem_range.mp hs')
   have q:mx = ((Cc.toCome d m:Nat):Int):=by
    unfold Cc.toCome
    omega
   rw [q]
   exact k H' sm
def sp_start (A:Adr):Sp:=fun vs H Q _=>∃ (dd:Addr) (d:Deal),vs = [.ref dd] ∧ DealAt A H dd d ∧ (∀ h ∈ d.hands,∀ c ∈ h,c < 52) ∧ ∀ (r:Addr) (H':Hp),Same H H' → PosAt A H' r d (startM d) → Q (.ref r) H'
theorem ok_start (T:Txt K mg A):FnOk P w K mg base CX0 4 A.f_start A.d_start ["deal"] (sp_start A):=by
 have G_between_tricks:=ok_between_tricks (P:=P) (w:=w) (base:=base) T
 refine T.F_start.ok sc_start (fun vs H Q E h=>?_) (fun cdv A' outer s H vs Q E hr h=>?_)
 ·obtain ⟨dd,d,rfl,_⟩:=h
  rfl
 ·obtain ⟨dd,d,rfl,hdeal,h52,k⟩:=h
  obtain ⟨dx,hx,fs,hs,h1,h2,h3,h4,h5,h6,h7⟩:=id hdeal
  refine ⟨_,(pss_cons (ps_set (i:=1) sc_start.nd rfl (by first | exact Or.inl rfl | exact Or.inr rfl) pe_int) (pss_cons (ps_for PassesOwn.never rfl (pi_tup (pe_fld (pv 0) rfl)) (pg_name (i:=2) sc_start.nd rfl (Or.inl rfl)) (pss_one (ps_for PassesOwn.never rfl (pi_tup (pv 2)) (pg_name (i:=3) sc_start.nd rfl (Or.inl rfl)) (pss_one (ps_aug (i:=1) sc_start.nd rfl (Or.inl rfl) (pe_op op_shl pe_int (pv 3)) ip_add))))) (pss_one (ps_ret (pe_call G_between_tricks (hr.mono (by decide)) rfl T.m_between_tricks T.F_between_tricks.kp T.b_between_tricks .nil pass0 (pa_cons (pv 0) (pa_cons (pv 1) (pa_cons (pe_fld (pv 0) rfl) pa_nil)))))))),?_⟩
  refine ⟨_,rfl,dd,_,dx,fs,_,rfl,h1,T.c_Deal,T.n_Deal_hands,h2,hx,rfl,⟨_,SqT.of h5⟩,?_⟩
  refine for_tup (K:=K) (a:=hx) (xs:=hs.map V.ref) (fun i σ H'=>H' = H ∧ ∃ v1 v2:Option V,σ = [some (.ref dd),some (.int (((d.hands.take i).foldl addCards 0:Nat):Int)),v1,v2]) ⟨rfl,none,none,rfl⟩ (fun i σ H' _ ⟨e,_⟩=>by rw [e]; exact SqT.of h5) ?_ ?_
  ·rintro i x σ H' hi ⟨rfl,v1,v2,rfl⟩
   obtain ⟨b,hb,rfl⟩:∃ b,hs[i]? = some b ∧ x = V.ref b:=by
    rw [List.getElem?_map] at hi
    cases e:hs[i]? with
    | none=>rw [e] at hi; cases hi
    | some b=>rw [e] at hi; exact ⟨b,rfl,(Option.some.inj hi).symm⟩
   have hlt:=(List.getElem?_eq_some_iff.mp hb).1
   have eh:=List.getElem?_eq_getElem (l:=d.hands) (i:=i) (by rw [← h6]; exact hlt)
   obtain ⟨b',hb',hbt⟩:=h7 i _ eh
   rw [hb] at hb'
   cases hb'
   refine ⟨_,rfl,b,rfl,⟨_,SqT.of hbt⟩,?_⟩
   refine for_tup (K:=K) (a:=b) (xs:=nints (d.hands[i]'(by rw [← h6]; exact hlt))) (fun j σ H''=>H'' = H' ∧ ∃ v2:Option V,σ = [some (.ref dd),some (.int ((addCards ((d.hands.take i).foldl addCards 0) ((d.hands[i]'(by rw [← h6]; exact hlt)).take j):Nat):Int)),some (.ref b),v2]) ⟨rfl,v2,rfl⟩ (fun j σ H'' _ ⟨e,_⟩=>by rw [e]; exact SqT.of hbt) ?_ ?_
   ·rintro j y σ H'' hj ⟨rfl,v2,rfl⟩
    obtain ⟨c,hc,rfl⟩:=ints_at hj
    have c52:=h52 _ (List.mem_of_getElem? eh) c (List.mem_of_getElem? hc)
    refine ⟨_,rfl,_,rfl,_,_,rfl,rfl,⟨Int.natCast_nonneg _,by omega,by decide⟩,_,_,rfl,rfl,rfl,some (.int (c:Int)),?_⟩
    rw [take_snoc hc]
    have q:(addCards ((d.hands.take i).foldl addCards 0) ((d.hands[i]'(by rw [← h6]; exact hlt)).take j):Int) + 1 * 2 ^ ((c:Int)).toNat = ((addCards ((d.hands.take i).foldl addCards 0) ((d.hands[i]'(by rw [← h6]; exact hlt)).take j ++ [c]):Nat):Int):=by
     unfold addCards
     rw [List.foldl_append,Int.one_mul,Int.toNat_natCast]
     show _ = (((_ + 2 ^ c:Nat)):Int)
     rw [Int.natCast_add,Int.natCast_pow]
     rfl
    exact congrArg (fun z=>[some (V.ref dd),some (V.int z),some (V.ref b),some (V.int (c:Int))]) q
   ·rintro σ H'' ⟨rfl,v2,rfl⟩
    rw [ints_len,List.take_length]
    refine ⟨rfl,some (.ref b),v2,?_⟩
    have e1:(d.hands.take (i + 1)).foldl addCards 0 = addCards ((d.hands.take i).foldl addCards 0) (d.hands[i]'(by rw [← h6]; exact hlt)):=by
     rw [take_snoc eh,List.foldl_append]
     rfl
    rw [e1]
  ·rintro σ H' ⟨rfl,v1,v2,rfl⟩
   rw [List.length_map,h6,List.take_length]
   refine ⟨_,rfl,_,rfl,_,rfl,dd,_,dx,fs,_,rfl,h1,T.c_Deal,T.n_Deal_leader,h4,?_⟩
   exact ⟨dd,d,leftOf d,d.leader,rfl,hdeal,k⟩
def sp_position_behind (A:Adr):Sp:=fun vs H Q _=>∃ (a:Addr) (d:Deal) (m:MP) (c:Nat),vs = [.ref a,.int (c:Int)] ∧ PosAt A H a d m ∧ m.left.testBit c = true ∧ c < 52 ∧
 ∀ (r:Addr) (H':Hp),Same H H' → PosAt A H' r d (behind d m c) → Q (.ref r) H'
theorem bit_le {x c:Nat} (h:x.testBit c = true):2 ^ c ≤ x:=Nat.ge_two_pow_of_testBit h
theorem left_sub {x c:Nat} (h:x.testBit c = true):(x:Int) - 1 * 2 ^ ((c:Int)).toNat = ((x - 2 ^ c:Nat):Int):=by
 have:=bit_le h
 rw [Int.one_mul,Int.toNat_natCast,Int.natCast_sub this,Int.natCast_pow]
 rfl
theorem ok_position_behind (T:Txt K mg A):FnOk P w K mg base CX0 4 A.f_position_behind A.d_position_behind ["position","card"] (sp_position_behind A):=by
 have G_between_tricks:=ok_between_tricks (P:=P) (w:=w) (base:=base) T
 have G_Position_init:=ok_Position_init (P:=P) (w:=w) (base:=base) T
 have G_beats:=ok_beats (P:=P) (w:=w) (base:=base) T
 refine T.F_position_behind.ok sc_position_behind (fun vs H Q E h=>?_) (fun cdv A' outer s H vs Q E hr h=>?_)
 ·obtain ⟨a,d,m,c,rfl,_⟩:=h
  rfl
 ·obtain ⟨a,d,m,c,rfl,hpos,hbit,c52,k⟩:=h
  obtain ⟨dd,dx,fs,hd,hp,l1,l2,l3,l4,l5,l6,l7⟩:=id hpos
  obtain ⟨ddx,hx,dfs,hs,hd1,hd2,hd3,hd4,hd5,hd6⟩:=id hd
  have ls:=left_sub hbit
  refine ⟨_,(pss_cons (ps_set (i:=2) sc_position_behind.nd rfl (by first | exact Or.inl rfl | exact Or.inr rfl) (pe_fld (pv 0) rfl)) (pss_cons (ps_set (i:=3) sc_position_behind.nd rfl (by first | exact Or.inl rfl | exact Or.inr rfl) (pe_op op_sub (pe_fld (pv 0) rfl) (pe_op op_shl pe_int (pv 1)))) (pss_cons (ps_set (i:=4) sc_position_behind.nd rfl (by first | exact Or.inl rfl | exact Or.inr rfl) (pe_fld (pv 0) rfl)) (pss_cons (ps_set (i:=5) sc_position_behind.nd rfl (by first | exact Or.inl rfl | exact Or.inr rfl) (pe_fld (pv 0) rfl)) (pss_cons (ps_if (PW.pt (pw_or (pt_cmpR op_eq (pe_fld (pv 0) rfl) pe_int (nomark _)) (pw_or1 (pt_val (pe_call G_beats (hr.mono (by decide)) rfl T.m_beats T.F_beats.kp T.b_beats .nil pass0 (pa_cons (pv 1) (pa_cons (pv 4) (pa_cons (pe_fld (pv 2) rfl) pa_nil)))))))) (pss_cons (ps_set (i:=4) sc_position_behind.nd rfl (by first | exact Or.inl rfl | exact Or.inr rfl) (pv 1)) (pss_one (ps_set (i:=5) sc_position_behind.nd rfl (by first | exact Or.inl rfl | exact Or.inr rfl) (pe_fld (pv 0) rfl)))) pss_nil) (pss_cons (ps_if (pt_cmpR op_eq (pe_fld (pv 0) rfl) (pe_op op_sub (pe_gint rfl T.g_SEATS) pe_int) (nomark _)) (pss_one (ps_ret (pe_call G_between_tricks (hr.mono (by decide)) rfl T.m_between_tricks T.F_between_tricks.kp T.b_between_tricks .nil pass0 (pa_cons (pv 2) (pa_cons (pv 3) (pa_cons (pv 5) pa_nil)))))) pss_nil) (pss_cons (ps_set (i:=6) sc_position_behind.nd rfl (by first | exact Or.inl rfl | exact Or.inr rfl) (pe_ifExp (pt_cmpR op_eq (pe_fld (pv 0) rfl) pe_int (nomark _)) (pe_op op_fdiv (pv 1) (pe_gint rfl T.g_SUIT_SIZE)) (pe_fld (pv 0) rfl))) (pss_one (ps_ret (pe_make T.M_Position G_Position_init (hr.mono (by decide)) rfl T.m_Position T.b_Position_init .nil pass0 (pa_cons (pv 2) (pa_cons (pv 3) (pa_cons (pe_op op_mod (pe_op op_add (pe_fld (pv 0) rfl) pe_int) (pe_gint rfl T.g_SEATS)) (pa_cons (pe_op op_add (pe_fld (pv 0) rfl) pe_int) (pa_cons (pv 6) (pa_cons (pv 4) (pa_cons (pv 5) pa_nil))))))))))))))))),?_⟩
  refine ⟨_,rfl,a,_,dx,fs,_,rfl,hp,T.c_Position,T.n_Position_deal,l1,?_⟩
  refine ⟨_,rfl,a,_,dx,fs,_,rfl,hp,T.c_Position,T.n_Position_left,l2,_,rfl,_,_,rfl,rfl,⟨Int.natCast_nonneg _,by omega,by decide⟩,_,_,rfl,rfl,?_⟩
  refine ⟨_,rfl,a,_,dx,fs,_,rfl,hp,T.c_Position,T.n_Position_best,l6,?_⟩
  refine ⟨_,rfl,a,_,dx,fs,_,rfl,hp,T.c_Position,T.n_Position_winner,l7,?_⟩
  dsimp only
  rw [ls]
  refine ⟨_,rfl,a,_,dx,fs,_,rfl,hp,T.c_Position,T.n_Position_count,l4,rfl,_,rfl,?_⟩
  refine ifI (fun e=>?_) fun e=>?_
  ·refine iteT ?_
   have hb:bestN d m c = c:=by unfold bestN; rw [if_pos (.inl (by omega))]
   have hw:winN d m c = m.seat:=by unfold winN; rw [if_pos (.inl (by omega))]
   refine ⟨_,rfl,?_⟩
   refine ⟨_,rfl,a,_,dx,fs,_,rfl,hp,T.c_Position,T.n_Position_seat,l3,?_⟩
   refine ⟨_,rfl,a,_,dx,fs,_,rfl,hp,T.c_Position,T.n_Position_count,l4,_,_,rfl,rfl,rfl,_,rfl,?_⟩
   refine ifI (fun e3=>?_) fun e3=>?_
   ·refine ⟨_,rfl,_,rfl,_,rfl,dd,d,m.left - 2 ^ c,_,rfl,hd,fun r H' sm hq=>k r H' sm ?_⟩
    have e1:behind d m c = between (m.left - 2 ^ c) (winN d m c):=by
     unfold behind
     rw [if_pos (by omega)]
    rw [e1,hw]
    exact hq
   ·refine ⟨_,rfl,a,_,dx,fs,_,rfl,hp,T.c_Position,T.n_Position_count,l4,rfl,_,rfl,?_⟩
    refine ifI (fun e0=>?_) fun e0=>?_
    ·refine ⟨_,rfl,_,_,rfl,rfl,⟨by decide,by decide⟩,?_⟩
     refine ⟨_,rfl,_,rfl,_,rfl,a,_,dx,fs,_,rfl,hp,T.c_Position,T.n_Position_seat,l3,_,_,rfl,rfl,_,_,rfl,rfl,(by show (0:Int) < 4; decide),_,rfl,a,_,dx,fs,_,rfl,hp,T.c_Position,T.n_Position_count,l4,_,_,rfl,rfl,_,rfl,_,rfl,_,rfl,fun x dx' nx ndx ne=>?_⟩
     refine ⟨x,dx',_,_,_,_,_,_,_,rfl,upd_same,fun H' fs' hH q1 q2 q3 q4 q5 q6 q7 kp=>⟨rfl,?_⟩⟩
     have sm:=made_same nx ndx kp
     have e1:behind d m c = ⟨m.left - 2 ^ c,(m.seat + 1) % 4,m.count + 1,c / 13,bestN d m c,winN d m c⟩:=by
      unfold behind
      rw [if_neg (by omega),if_pos (by omega)]
     refine k x H' sm ?_
     rw [e1,hb,hw]
     refine ⟨dd,dx',fs',hd.same sm,hH,q1,q2,q3.trans ?_,q4.trans ?_,q5.trans ?_,q6,q7⟩
     ·congr 2
     ·congr 2
     ·congr 2
    ·refine ⟨_,rfl,a,_,dx,fs,_,rfl,hp,T.c_Position,T.n_Position_led,l5,?_⟩
     refine ⟨_,rfl,_,rfl,_,rfl,a,_,dx,fs,_,rfl,hp,T.c_Position,T.n_Position_seat,l3,_,_,rfl,rfl,_,_,rfl,rfl,(by show (0:Int) < 4; decide),_,rfl,a,_,dx,fs,_,rfl,hp,T.c_Position,T.n_Position_count,l4,_,_,rfl,rfl,_,rfl,_,rfl,_,rfl,fun x dx' nx ndx ne=>?_⟩
     refine ⟨x,dx',_,_,_,_,_,_,_,rfl,upd_same,fun H' fs' hH q1 q2 q3 q4 q5 q6 q7 kp=>⟨rfl,?_⟩⟩
     have sm:=made_same nx ndx kp
     have e1:behind d m c = ⟨m.left - 2 ^ c,(m.seat + 1) % 4,m.count + 1,m.led,bestN d m c,winN d m c⟩:=by
      unfold behind
      rw [if_neg (by omega),if_neg (by omega)]
     refine k x H' sm ?_
     rw [e1,hb,hw]
     refine ⟨dd,dx',fs',hd.same sm,hH,q1,q2,q3.trans ?_,q4.trans ?_,q5,q6,q7⟩
     ·congr 2
     ·congr 2
  ·refine ⟨_,rfl,_,rfl,_,rfl,dd,_,ddx,dfs,_,rfl,hd1,T.c_Deal,T.n_Deal_trump,hd3,c,m.best,d.trump,rfl,_,rfl,?_⟩
   cases ov:Vbbraf.over d.trump m.best c with
   | true=>
    refine iteT ?_
    have hb:bestN d m c = c:=by unfold bestN; rw [if_pos (.inr ov)]
    have hw:winN d m c = m.seat:=by unfold winN; rw [if_pos (.inr ov)]
    refine ⟨_,rfl,?_⟩
    refine ⟨_,rfl,a,_,dx,fs,_,rfl,hp,T.c_Position,T.n_Position_seat,l3,?_⟩
    refine ⟨_,rfl,a,_,dx,fs,_,rfl,hp,T.c_Position,T.n_Position_count,l4,_,_,rfl,rfl,rfl,_,rfl,?_⟩
    refine ifI (fun e3=>?_) fun e3=>?_
    ·refine ⟨_,rfl,_,rfl,_,rfl,dd,d,m.left - 2 ^ c,_,rfl,hd,fun r H' sm hq=>k r H' sm ?_⟩
     have e1:behind d m c = between (m.left - 2 ^ c) (winN d m c):=by
      unfold behind
      rw [if_pos (by omega)]
     rw [e1,hw]
     exact hq
    ·refine ⟨_,rfl,a,_,dx,fs,_,rfl,hp,T.c_Position,T.n_Position_count,l4,rfl,_,rfl,?_⟩
     refine ifI (fun e0=>?_) fun e0=>?_
     ·refine ⟨_,rfl,_,_,rfl,rfl,⟨by decide,by decide⟩,?_⟩
      refine ⟨_,rfl,_,rfl,_,rfl,a,_,dx,fs,_,rfl,hp,T.c_Position,T.n_Position_seat,l3,_,_,rfl,rfl,_,_,rfl,rfl,(by show (0:Int) < 4; decide),_,rfl,a,_,dx,fs,_,rfl,hp,T.c_Position,T.n_Position_count,l4,_,_,rfl,rfl,_,rfl,_,rfl,_,rfl,fun x dx' nx ndx ne=>?_⟩
      refine ⟨x,dx',_,_,_,_,_,_,_,rfl,upd_same,fun H' fs' hH q1 q2 q3 q4 q5 q6 q7 kp=>⟨rfl,?_⟩⟩
      have sm:=made_same nx ndx kp
      have e1:behind d m c = ⟨m.left - 2 ^ c,(m.seat + 1) % 4,m.count + 1,c / 13,bestN d m c,winN d m c⟩:=by
       unfold behind
       rw [if_neg (by omega),if_pos (by omega)]
      refine k x H' sm ?_
      rw [e1,hb,hw]
      refine ⟨dd,dx',fs',hd.same sm,hH,q1,q2,q3.trans ?_,q4.trans ?_,q5.trans ?_,q6,q7⟩
      ·congr 2
      ·congr 2
      ·congr 2
     ·refine ⟨_,rfl,a,_,dx,fs,_,rfl,hp,T.c_Position,T.n_Position_led,l5,?_⟩
      refine ⟨_,rfl,_,rfl,_,rfl,a,_,dx,fs,_,rfl,hp,T.c_Position,T.n_Position_seat,l3,_,_,rfl,rfl,_,_,rfl,rfl,(by show (0:Int) < 4; decide),_,rfl,a,_,dx,fs,_,rfl,hp,T.c_Position,T.n_Position_count,l4,_,_,rfl,rfl,_,rfl,_,rfl,_,rfl,fun x dx' nx ndx ne=>?_⟩
      refine ⟨x,dx',_,_,_,_,_,_,_,rfl,upd_same,fun H' fs' hH q1 q2 q3 q4 q5 q6 q7 kp=>⟨rfl,?_⟩⟩
      have sm:=made_same nx ndx kp
      have e1:behind d m c = ⟨m.left - 2 ^ c,(m.seat + 1) % 4,m.count + 1,m.led,bestN d m c,winN d m c⟩:=by
       unfold behind
       rw [if_neg (by omega),if_neg (by omega)]
      refine k x H' sm ?_
      rw [e1,hb,hw]
      refine ⟨dd,dx',fs',hd.same sm,hH,q1,q2,q3.trans ?_,q4.trans ?_,q5,q6,q7⟩
      ·congr 2
      ·congr 2
   | false=>
    refine iteF ?_
    have nn:¬ (m.count = 0 ∨ Vbbraf.over d.trump m.best c = true):=by
     rintro (z | z)
     ·omega
     ·rw [ov] at z
      cases z
    have hb:bestN d m c = m.best:=by unfold bestN; rw [if_neg nn]
    have hw:winN d m c = m.winner:=by unfold winN; rw [if_neg nn]
    refine ⟨_,rfl,a,_,dx,fs,_,rfl,hp,T.c_Position,T.n_Position_count,l4,_,_,rfl,rfl,rfl,_,rfl,?_⟩
    refine ifI (fun e3=>?_) fun e3=>?_
    ·refine ⟨_,rfl,_,rfl,_,rfl,dd,d,m.left - 2 ^ c,_,rfl,hd,fun r H' sm hq=>k r H' sm ?_⟩
     have e1:behind d m c = between (m.left - 2 ^ c) (winN d m c):=by
      unfold behind
      rw [if_pos (by omega)]
     rw [e1,hw]
     exact hq
    ·refine ⟨_,rfl,a,_,dx,fs,_,rfl,hp,T.c_Position,T.n_Position_count,l4,rfl,_,rfl,?_⟩
     refine ifI (fun e0=>?_) fun e0=>?_
     ·refine ⟨_,rfl,_,_,rfl,rfl,⟨by decide,by decide⟩,?_⟩
      refine ⟨_,rfl,_,rfl,_,rfl,a,_,dx,fs,_,rfl,hp,T.c_Position,T.n_Position_seat,l3,_,_,rfl,rfl,_,_,rfl,rfl,(by show (0:Int) < 4; decide),_,rfl,a,_,dx,fs,_,rfl,hp,T.c_Position,T.n_Position_count,l4,_,_,rfl,rfl,_,rfl,_,rfl,_,rfl,fun x dx' nx ndx ne=>?_⟩
      refine ⟨x,dx',_,_,_,_,_,_,_,rfl,upd_same,fun H' fs' hH q1 q2 q3 q4 q5 q6 q7 kp=>⟨rfl,?_⟩⟩
      have sm:=made_same nx ndx kp
      have e1:behind d m c = ⟨m.left - 2 ^ c,(m.seat + 1) % 4,m.count + 1,c / 13,bestN d m c,winN d m c⟩:=by
       unfold behind
       rw [if_neg (by omega),if_pos (by omega)]
      refine k x H' sm ?_
      rw [e1,hb,hw]
      refine ⟨dd,dx',fs',hd.same sm,hH,q1,q2,q3.trans ?_,q4.trans ?_,q5.trans ?_,q6,q7⟩
      ·congr 2
      ·congr 2
      ·congr 2
     ·refine ⟨_,rfl,a,_,dx,fs,_,rfl,hp,T.c_Position,T.n_Position_led,l5,?_⟩
      refine ⟨_,rfl,_,rfl,_,rfl,a,_,dx,fs,_,rfl,hp,T.c_Position,T.n_Position_seat,l3,_,_,rfl,rfl,_,_,rfl,rfl,(by show (0:Int) < 4; decide),_,rfl,a,_,dx,fs,_,rfl,hp,T.c_Position,T.n_Position_count,l4,_,_,rfl,rfl,_,rfl,_,rfl,_,rfl,fun x dx' nx ndx ne=>?_⟩
      refine ⟨x,dx',_,_,_,_,_,_,_,rfl,upd_same,fun H' fs' hH q1 q2 q3 q4 q5 q6 q7 kp=>⟨rfl,?_⟩⟩
      have sm:=made_same nx ndx kp
      have e1:behind d m c = ⟨m.left - 2 ^ c,(m.seat + 1) % 4,m.count + 1,m.led,bestN d m c,winN d m c⟩:=by
       unfold behind
       rw [if_neg (by omega),if_neg (by omega)]
      refine k x H' sm ?_
      rw [e1,hb,hw]
      refine ⟨dd,dx',fs',hd.same sm,hH,q1,q2,q3.trans ?_,q4.trans ?_,q5,q6,q7⟩
      ·congr 2
      ·congr 2
def sp_leader_of (A:Adr):Sp:=fun vs H Q _=>∃ (a:Addr) (d:Deal) (m:MP) (p:Vbbraf.Pos),vs = [.ref a] ∧ PosAt A H a d m ∧ Rel d m p ∧ Q (.int (p.leader:Int)) H
theorem ok_leader_of (T:Txt K mg A):FnOk P w K mg base CX0 1 A.f_leader_of A.d_leader_of ["position"] (sp_leader_of A):=by
 refine T.F_leader_of.ok sc_leader_of (fun vs H Q E h=>?_) (fun cdv A' outer s H vs Q E hr h=>?_)
 ·obtain ⟨a,d,m,p,rfl,_⟩:=h
  rfl
 ·obtain ⟨a,d,m,p,rfl,⟨dd,dx,fs,hd,hp,l1,l2,l3,l4,l5,l6,l7⟩,R,k⟩:=h
  refine ⟨_,(pss_one (ps_ret (pe_op op_mod (pe_op op_sub (pe_fld (pv 0) rfl) (pe_fld (pv 0) rfl)) (pe_gint rfl T.g_SEATS)))),?_⟩
  refine ⟨_,rfl,a,_,dx,fs,_,rfl,hp,T.c_Position,T.n_Position_seat,l3,_,rfl,a,_,dx,fs,_,rfl,hp,T.c_Position,T.n_Position_count,l4,_,_,rfl,rfl,_,_,rfl,rfl,(by show (0:Int) < 4; decide),?_⟩
  rw [← R.leader_eq] at k
  exact k
def StAt (A:Adr) (H:Hp) (a:Addr) (wd:Vbbrag.Words):Prop:=∃ (dx l:Addr) (fs:List (Str × V)),H a = some (.ins A.c_Statement dx fs) ∧ fs.lookup ("side":Str) = some (.int (wd.side:Int)) ∧ fs.lookup ("way":Str) = some (.int (wd.way:Int)) ∧ fs.lookup ("cards":Str) = some (.ref l) ∧ H l = some (.lst (nints wd.cards))
theorem StAt.same {A:Adr} {H H':Hp} {a:Addr} {wd:Vbbrag.Words} (h:StAt A H a wd) (s:Same H H'):StAt A H' a wd:=by
 obtain ⟨dx,l,fs,h1,h2,h3,h4,h5⟩:=h
 exact ⟨dx,l,fs,s _ _ h1,h2,h3,h4,s _ _ h5⟩
def kvsOf (l:List Nat):List (Key × V):=l.map fun c=>(Sum.inl ((c / 13:Nat):Int),V.int (c:Int))
theorem kvsOf_vals (l:List Nat):(kvsOf l).map (·.2) = nints l:=by
 unfold kvsOf nints
 rw [List.map_map]
 rfl
theorem kvsOf_any (l:List Nat) (s:Nat):((kvsOf l).any fun kv=>decide (kv.1 = (Sum.inl ((s:Nat):Int):Key))) = l.any fun x=>x / 13 == s:=by
 unfold kvsOf
 rw [List.any_map]
 refine any_congr' fun c _=>?_
 show decide ((Sum.inl ((c / 13:Nat):Int):Key) = Sum.inl ((s:Nat):Int)) = _
 rw [Bool.eq_iff_iff,decide_eq_true_iff,beq_iff_eq]
 constructor
 ·intro h
  injection h with h
  omega
 ·intro h
  rw [h]
theorem kvsOf_put (l:List Nat) (c:Nat):putK (kvsOf l) (Sum.inl ((c / 13:Nat):Int)) (V.int (c:Int)) = kvsOf (if (l.any fun x=>x / 13 == c / 13) = true then l.map (fun x=>if x / 13 = c / 13 then c else x) else l ++ [c]):=by
 unfold putK
 rw [kvsOf_any]
 split
 ·unfold kvsOf
  rw [List.map_map,List.map_map]
  refine List.map_congr_left fun x _=>?_
  show (if (Sum.inl ((x / 13:Nat):Int):Key) = Sum.inl ((c / 13:Nat):Int) then _ else _) = _
  by_cases e:x / 13 = c / 13
  ·rw [if_pos (by rw [e])]
   show (Sum.inl ((x / 13:Nat):Int),V.int (c:Int)) = (Sum.inl (((if x / 13 = c / 13 then c else x) / 13:Nat):Int),V.int (((if x / 13 = c / 13 then c else x):Nat):Int))
   rw [if_pos e,e]
  ·rw [if_neg (by intro z; injection z with z; omega)]
   show (Sum.inl ((x / 13:Nat):Int),V.int (x:Int)) = (Sum.inl (((if x / 13 = c / 13 then c else x) / 13:Nat):Int),V.int (((if x / 13 = c / 13 then c else x):Nat):Int))
   rw [if_neg e]
 ·unfold kvsOf
  rw [List.map_append]
  rfl
theorem take_lt {l:List Nat} (h:l.Pairwise (· < ·)) {i c:Nat} (hc:l[i]? = some c):∀ x ∈ l.take i,x < c:=fun x hx=>by
 obtain ⟨j,hj,e⟩:=List.getElem_of_mem hx
 have hji:j < i:=by rw [List.length_take] at hj; omega
 have hil:=(List.getElem?_eq_some_iff.mp hc).1
 have ec:=(List.getElem?_eq_some_iff.mp hc).2
 have:=List.pairwise_iff_getElem.mp h j i (by omega) hil hji
 rw [List.getElem_take] at e
 rw [← e,← ec]
 exact this
def sp_pare (way:Nat):Sp:=fun vs H Q _=>∃ (l:Addr) (cs:List Nat),vs = [.ref l] ∧ H l = some (.lst (nints cs)) ∧ cs.Pairwise (· < ·) ∧ cs.length ≤ 100 ∧ ∀ (r:Addr) (H':Hp),Same H H' → H' r = some (.lst (nints (Vbbrag.pare way cs))) → Q (.ref r) H'
theorem pare_len (way:Nat) (l:List Nat):(Vbbrag.pare way l).length ≤ l.length:=by
 unfold Vbbrag.pare
 split
 ·exact List.length_filter_le _ _
 ·split
  ·exact List.length_filter_le _ _
  ·exact Nat.le_refl _
theorem ok_highest_of_suits (T:Txt K mg A):FnOk P w K mg base CX0 1 A.f_highest_of_suits A.d_highest_of_suits ["cards"] (sp_pare 1):=by
 refine T.F_highest_of_suits.ok sc_highest_of_suits (fun vs H Q E h=>?_) (fun cdv A' outer s H vs Q E hr h=>?_)
 ·obtain ⟨l,cs,rfl,_⟩:=h
  rfl
 ·obtain ⟨l,cs,rfl,hl,inc,len,k⟩:=h
  refine ⟨_,(pss_cons (ps_set (i:=1) sc_highest_of_suits.nd rfl (by first | exact Or.inl rfl | exact Or.inr rfl) pe_dnewK) (pss_cons (ps_for PassesOwn.never rfl (pi_list (pv 0)) (pg_name (i:=2) sc_highest_of_suits.nd rfl (Or.inl rfl)) (pss_one (ps_dput (hu_of hr) (pv 1) (pe_op op_fdiv (pv 2) (pe_gint rfl T.g_SUIT_SIZE)) (pv 2) rfl))) (pss_one (ps_ret (pe_lvals rfl (by rfl) T.z_list (pv 1)))))),?_⟩
  intro dd hdd
  refine ⟨_,rfl,l,rfl,⟨_,SqL.of (same_new hdd _ _ _ hl)⟩,?_⟩
  refine for_list (K:=K) (a:=l) (xs:=nints cs) (fun i σ H'=>(∃ v,σ = [some (.ref l),some (.ref dd),v]) ∧ Same H H' ∧ H' dd = some (.dK (kvsOf (Vbbrag.pare 1 (cs.take i))))) ⟨⟨none,rfl⟩,same_new hdd _,upd_same⟩ (fun i σ H' _ ⟨_,sm,_⟩=>SqL.of (sm _ _ hl)) ?_ ?_
  ·rintro i x σ H' hi ⟨⟨v,rfl⟩,sm,hd⟩
   obtain ⟨c,hc,rfl⟩:=ints_at hi
   have hlen:(kvsOf (Vbbrag.pare 1 (cs.take i))).length < sizeLine:=by
    have:=pare_len 1 (cs.take i)
    unfold kvsOf
    rw [List.length_map]
    refine small1000 (Nat.le_trans this ?_)
    rw [List.length_take]
    omega
   refine ⟨_,rfl,_,rfl,_,rfl,_,_,rfl,rfl,⟨by decide,by decide⟩,dd,_,rfl,DPut.k (k:=Sum.inl (((c / 13:Nat)):Int)) hd hlen,⟨_,rfl⟩,fun b o e=>?_,?_⟩
   ·rw [upd_ne (ne_of_none e hdd)]
    exact sm _ _ e
   ·rw [upd_same,kvsOf_put,take_snoc hc,pare1_snoc (inc.take) (take_lt inc hc)]
  ·rintro σ H' ⟨⟨v,rfl⟩,sm,hd⟩
   rw [ints_len,List.take_length] at hd
   refine ⟨_,rfl,dd,_,rfl,hd,fun p hp=>?_⟩
   exact k p _ (sm.trans (same_new hp _)) (by rw [upd_same,kvsOf_vals])
theorem ok_lowest_of_suits (T:Txt K mg A):FnOk P w K mg base CX0 1 A.f_lowest_of_suits A.d_lowest_of_suits ["cards"] (sp_pare 2):=by
 refine T.F_lowest_of_suits.ok sc_lowest_of_suits (fun vs H Q E h=>?_) (fun cdv A' outer s H vs Q E hr h=>?_)
 ·obtain ⟨l,cs,rfl,_⟩:=h
  rfl
 ·obtain ⟨l,cs,rfl,hl,inc,len,k⟩:=h
  refine ⟨_,(pss_cons (ps_set (i:=1) sc_lowest_of_suits.nd rfl (by first | exact Or.inl rfl | exact Or.inr rfl) pe_dnewK) (pss_cons (ps_for PassesOwn.never rfl (pi_list (pv 0)) (pg_name (i:=2) sc_lowest_of_suits.nd rfl (Or.inl rfl)) (pss_one (ps_expr (pe_bm PySem.F.plainAttrs_dict PySem.F.slot_dict_setdefault PySem.F.type_dict_setdefault mt_setdef (pv 1) (pa_cons (pe_op op_fdiv (pv 2) (pe_gint rfl T.g_SUIT_SIZE)) (pa_cons (pv 2) pa_nil)))))) (pss_one (ps_ret (pe_lvals rfl (by rfl) T.z_list (pv 1)))))),?_⟩
  intro dd hdd
  refine ⟨_,rfl,l,rfl,⟨_,SqL.of (same_new hdd _ _ _ hl)⟩,?_⟩
  refine for_list (K:=K) (a:=l) (xs:=nints cs) (fun i σ H'=>(∃ v,σ = [some (.ref l),some (.ref dd),v]) ∧ Same H H' ∧ H' dd = some (.dK (kvsOf (Vbbrag.pare 2 (cs.take i))))) ⟨⟨none,rfl⟩,same_new hdd _,upd_same⟩ (fun i σ H' _ ⟨_,sm,_⟩=>SqL.of (sm _ _ hl)) ?_ ?_
  ·rintro i x σ H' hi ⟨⟨v,rfl⟩,sm,hd⟩
   obtain ⟨c,hc,rfl⟩:=ints_at hi
   have hlen:(kvsOf (Vbbrag.pare 2 (cs.take i))).length < sizeLine:=by
    have:=pare_len 2 (cs.take i)
    unfold kvsOf
    rw [List.length_map]
    refine small1000 (Nat.le_trans this ?_)
    rw [List.length_take]
    omega
   have hv:=kvsOf_any (Vbbrag.pare 2 (cs.take i)) (c / 13)
   rw [valV_any] at hv
   have sn:=pare2_snoc (take_lt inc hc)
   refine ⟨_,rfl,.inr (.inr (.inl ⟨rfl,.inl ⟨_,hd⟩⟩)),_,rfl,_,_,rfl,rfl,⟨by decide,by decide⟩,_,rfl,dd,_,Sum.inl (((c / 13:Nat)):Int),_,rfl,rfl,hd,hlen,fun y hy=>?_,fun hn=>?_⟩
   ·rw [hy] at hv
    rw [← hv] at sn
    refine ⟨⟨_,rfl⟩,sm,?_⟩
    rw [take_snoc hc,sn]
    exact hd
   ·rw [hn] at hv
    rw [← hv] at sn
    refine ⟨⟨_,rfl⟩,fun b o e=>?_,?_⟩
    ·rw [upd_ne (ne_of_none e hdd)]
     exact sm _ _ e
    ·rw [upd_same,take_snoc hc,sn]
     unfold kvsOf
     rw [if_neg (by simp),List.map_append]
     rfl
  ·rintro σ H' ⟨⟨v,rfl⟩,sm,hd⟩
   rw [ints_len,List.take_length] at hd
   refine ⟨_,rfl,dd,_,rfl,hd,fun p hp=>?_⟩
   exact k p _ (sm.trans (same_new hp _)) (by rw [upd_same,kvsOf_vals])
def sp_let_by_way:Sp:=fun vs H Q _=>∃ (l:Addr) (cs:List Nat) (way:Nat),vs = [.int (way:Int),.ref l] ∧ H l = some (.lst (nints cs)) ∧ cs.Pairwise (· < ·) ∧ cs.length ≤ 100 ∧ ∀ (r:Addr) (H':Hp),Same H H' → H' r = some (.lst (nints (Vbbrag.pare way cs))) → Q (.ref r) H'
theorem ok_let_by_way (T:Txt K mg A):FnOk P w K mg base CX0 2 A.f_let_by_way A.d_let_by_way ["way","cards"] sp_let_by_way:=by
 have G_highest_of_suits:=ok_highest_of_suits (P:=P) (w:=w) (base:=base) T
 have G_lowest_of_suits:=ok_lowest_of_suits (P:=P) (w:=w) (base:=base) T
 refine T.F_let_by_way.ok sc_let_by_way (fun vs H Q E h=>?_) (fun cdv A' outer s H vs Q E hr h=>?_)
 ·obtain ⟨l,cs,way,rfl,_⟩:=h
  rfl
 ·obtain ⟨l,cs,way,rfl,hl,inc,len,k⟩:=h
  refine ⟨_,(pss_cons (ps_if (pt_cmpR op_eq (pv 0) (pe_gint rfl T.g_HIGHEST_OF_SUIT) (nomark _)) (pss_one (ps_ret (pe_call G_highest_of_suits (hr.mono (by decide)) rfl T.m_highest_of_suits T.F_highest_of_suits.kp T.b_highest_of_suits .nil pass0 (pa_cons (pv 1) pa_nil)))) pss_nil) (pss_cons (ps_if (pt_cmpR op_eq (pv 0) (pe_gint rfl T.g_LOWEST_OF_SUIT) (nomark _)) (pss_one (ps_ret (pe_call G_lowest_of_suits (hr.mono (by decide)) rfl T.m_lowest_of_suits T.F_lowest_of_suits.kp T.b_lowest_of_suits .nil pass0 (pa_cons (pv 1) pa_nil)))) pss_nil) (pss_one (ps_ret (pv 1))))),?_⟩
  refine ⟨_,rfl,rfl,_,rfl,?_⟩
  refine ifI (fun e=>?_) fun e=>?_
  ·have:way = 1:=by omega
   subst this
   exact ⟨_,rfl,l,cs,rfl,hl,inc,len,k⟩
  ·refine ⟨_,rfl,rfl,_,rfl,?_⟩
   refine ifI (fun e2=>?_) fun e2=>?_
   ·have:way = 2:=by omega
    subst this
    exact ⟨_,rfl,l,cs,rfl,hl,inc,len,k⟩
   ·refine ⟨_,rfl,k l H (Same.refl H) ?_⟩
    unfold Vbbrag.pare
    rw [if_neg (by omega),if_neg (by omega)]
    exact hl
def sp_cards_let (A:Adr):Sp:=fun vs H Q _=>∃ (st a:Addr) (wd:Vbbrag.Words) (d:Deal) (m:MP),vs = [.ref st,.ref a] ∧ StAt A H st wd ∧ PosAt A H a d m ∧ DealOk d ∧ m.seat < 4 ∧
 ∀ (r:Addr) (H':Hp),Same H H' → H' r = some (.lst (nints (mlets wd d m))) → Q (.ref r) H'
theorem may_len {d:Deal} (O:DealOk d) {m:MP} (s4:m.seat < 4):(may d m).length ≤ 4:=by
 have:=hand_len m O.len s4 (deal4 O)
 unfold may
 split
 ·exact this
 ·split
  ·exact this
  ·exact Nat.le_trans (List.length_filter_le _ _) this
theorem ok_cards_let (T:Txt K mg A):FnOk P w K mg base CX0 3 A.f_cards_let A.d_cards_let ["statement","position"] (sp_cards_let A):=by
 have G_may_play:=ok_may_play (P:=P) (w:=w) (base:=base) T
 have G_let_by_way:=ok_let_by_way (P:=P) (w:=w) (base:=base) T
 refine T.F_cards_let.ok sc_cards_let (fun vs H Q E h=>?_) (fun cdv A' outer s H vs Q E hr h=>?_)
 ·obtain ⟨st,a,wd,d,m,rfl,_⟩:=h
  rfl
 ·obtain ⟨st,a,wd,d,m,rfl,hst,hpos,O,s4,k⟩:=h
  obtain ⟨dd,dx,fs,hd,hp,l1,l2,l3,l4,l5,l6,l7⟩:=id hpos
  obtain ⟨sdx,cl,sfs,st1,st2,st3,st4,st5⟩:=id hst
  refine ⟨_,(pss_cons (ps_set (i:=2) sc_cards_let.nd rfl (by first | exact Or.inl rfl | exact Or.inr rfl) (pe_call G_may_play (hr.mono (by decide)) rfl T.m_may_play T.F_may_play.kp T.b_may_play .nil pass0 (pa_cons (pv 1) pa_nil))) (pss_cons (ps_if (pt_cmpR op_ne (pe_op op_mod (pe_fld (pv 1) rfl) pe_int) (pe_fld (pv 0) rfl) (nomark _)) (pss_one (ps_ret (pv 2))) pss_nil) (pss_cons (ps_for PassesOwn.never rfl (pi_list (pe_fld (pv 0) rfl)) (pg_name (i:=3) sc_cards_let.nd rfl (Or.inl rfl)) (pss_one (ps_if (pt_cmpR op_in_seq (pv 3) (pv 2) (by with_unfolding_all rfl)) (pss_one (ps_ret (pe_lst (pa_cons (pv 3) pa_nil)))) pss_nil))) (pss_one (ps_ret (pe_call G_let_by_way (hr.mono (by decide)) rfl T.m_let_by_way T.F_let_by_way.kp T.b_let_by_way .nil pass0 (pa_cons (pe_fld (pv 0) rfl) (pa_cons (pv 2) pa_nil)))))))),?_⟩
  refine ⟨_,rfl,a,d,m,rfl,hpos,O.len,s4,deal4 O,fun r H1 s1 hr1=>?_⟩
  refine ⟨_,rfl,a,_,dx,fs,_,rfl,s1 _ _ hp,T.c_Position,T.n_Position_seat,l3,_,_,rfl,rfl,(by show (0:Int) < 2; decide),_,rfl,st,_,sdx,sfs,_,rfl,s1 _ _ st1,T.c_Statement,T.n_Statement_side,st2,rfl,_,rfl,?_⟩
  refine ifIN (fun e=>?_) fun e=>?_
  ·refine ⟨_,rfl,k r H1 s1 ?_⟩
   rw [hr1]
   unfold mlets
   rw [if_neg (by omega)]
  ·have el:mlets wd d m = match wd.cards.find? fun c=>(may d m).contains c with
    | some c=>[c]
    | none=>Vbbrag.pare wd.way (may d m):=by
    unfold mlets
    rw [if_pos (by omega)]
    all_goals rfl
   refine ⟨_,rfl,st,_,sdx,sfs,_,rfl,s1 _ _ st1,T.c_Statement,T.n_Statement_cards,st4,cl,rfl,⟨_,SqL.of (s1 _ _ st5)⟩,?_⟩
   refine for_list (K:=K) (a:=cl) (xs:=nints wd.cards) (fun i σ H'=>H' = H1 ∧ (∃ v,σ = [some (.ref st),some (.ref a),some (.ref r),v]) ∧ (wd.cards.take i).find? (fun c=>(may d m).contains c) = none) ⟨rfl,⟨none,rfl⟩,rfl⟩ (fun i σ H' _ ⟨e,_,_⟩=>by rw [e]; exact SqL.of (s1 _ _ st5)) ?_ ?_
   ·rintro i x σ H' hi ⟨rfl,⟨v,rfl⟩,hn⟩
    obtain ⟨c,hc,rfl⟩:=ints_at hi
    refine ⟨_,rfl,_,rfl,r,_,rfl,.inl (SqL.of hr1),rfl,ints_flat _,_,rfl,?_⟩
    rw [if_neg (by decide:¬ false = true),inV_ints]
    cases hm:(may d m).contains c with
    | true=>
     refine iteT ⟨_,rfl,(by show 1 ≤ sizeLine; decide),fun q hq=>?_⟩
     refine k q _ (s1.trans (same_new hq _)) ?_
     rw [upd_same,el]
     have ef:wd.cards.find? (fun c=>(may d m).contains c) = some c:=by
      have e1:wd.cards = wd.cards.take i ++ c :: wd.cards.drop (i + 1):=by
       have:=List.take_append_drop i wd.cards
       rw [List.drop_eq_getElem_cons (List.getElem?_eq_some_iff.mp hc).1,(List.getElem?_eq_some_iff.mp hc).2] at this
       exact this.symm
      rw [e1,List.find?_append,hn,List.find?_cons,hm]
      rfl
     rw [ef]
     rfl
    | false=>
     refine iteF ⟨rfl,⟨_,rfl⟩,?_⟩
     rw [take_snoc hc,List.find?_append,hn,List.find?_cons,hm]
     rfl
   ·rintro σ H' ⟨rfl,⟨v,rfl⟩,hn⟩
    rw [ints_len,List.take_length] at hn
    refine ⟨_,rfl,st,_,sdx,sfs,_,rfl,s1 _ _ st1,T.c_Statement,T.n_Statement_way,st3,_,rfl,?_⟩
    have ml:=may_len O s4
    refine ⟨r,may d m,wd.way,rfl,hr1,may_inc O s4,by omega,fun q H2 s2 hq=>k q H2 (s1.trans s2) ?_⟩
    rw [hq,el,hn]
def SameX (H H':Hp):Prop:=∀ b o,H b = some o → (∀ kvs,o ≠ HO.dT kvs) → H' b = some o
def But (kn:Addr) (H H':Hp):Prop:=∀ b o,H b = some o → b ≠ kn → H' b = some o
theorem _root_.L2.Same.x {H H':Hp} (s:Same H H'):SameX H H':=fun b o e _=>s b o e
theorem _root_.L2.Same.but {H H':Hp} (s:Same H H') (kn:Addr):But kn H H':=fun b o e _=>s b o e
theorem But.x {kn:Addr} {H H':Hp} {kvs:List (List Key × V)} (s:But kn H H') (h:H kn = some (.dT kvs)):SameX H H':=fun b o e n=>s b o e fun z=>by
 subst z
 rw [h] at e
 cases e
 exact n kvs rfl
theorem But.trans {kn:Addr} {H H1 H2:Hp} (a:But kn H H1) (b:But kn H1 H2):But kn H H2:=fun c o h n=>b c o (a c o h n) n
theorem DealAt.x {A:Adr} {H H':Hp} {a:Addr} {d:Deal} (h:DealAt A H a d) (s:SameX H H'):DealAt A H' a d:=by
 obtain ⟨dx,hx,fs,hs,h1,h2,h3,h4,h5,h6,h7⟩:=h
 exact ⟨dx,hx,fs,hs,s _ _ h1 (fun _ z=>nomatch z),h2,h3,h4,s _ _ h5 (fun _ z=>nomatch z),h6,fun i h e=>let ⟨b,e1,e2⟩:=h7 i h e; ⟨b,e1,s _ _ e2 (fun _ z=>nomatch z)⟩⟩
theorem PosAt.x {A:Adr} {H H':Hp} {a:Addr} {d:Deal} {m:MP} (h:PosAt A H a d m) (s:SameX H H'):PosAt A H' a d m:=by
 obtain ⟨dd,dx,fs,h0,h1,r⟩:=h
 exact ⟨dd,dx,fs,h0.x s,s _ _ h1 (fun _ z=>nomatch z),r⟩
theorem StAt.x {A:Adr} {H H':Hp} {a:Addr} {wd:Vbbrag.Words} (h:StAt A H a wd) (s:SameX H H'):StAt A H' a wd:=by
 obtain ⟨dx,l,fs,h1,h2,h3,h4,h5⟩:=h
 exact ⟨dx,l,fs,s _ _ h1 (fun _ z=>nomatch z),h2,h3,h4,s _ _ h5 (fun _ z=>nomatch z)⟩
def keyL (m:MP):List Key:=[Sum.inl (m.left:Int),Sum.inl (m.seat:Int),Sum.inl (m.count:Int),Sum.inl (m.led:Int),Sum.inl (m.best:Int)]
theorem keyL_inj {m m':MP} (h:keyL m = keyL m'):m.left = m'.left ∧ m.seat = m'.seat ∧ m.count = m'.count ∧ m.led = m'.led ∧ m.best = m'.best:=by
 unfold keyL at h
 simp only [List.cons.injEq,Sum.inl.injEq,and_true] at h
 omega
def Memo (wd:Vbbrag.Words) (d:Deal) (kvs:List (List Key × V)):Prop:=∀ k v,valV kvs k = some v → ∃ (m:MP) (p:Vbbraf.Pos),Rel d m p ∧ k = keyL m ∧ v = .int ((J wd d m:Nat):Int)
theorem Memo.get {wd:Vbbrag.Words} {d:Deal} {kvs:List (List Key × V)} (M:Memo wd d kvs) (O:DealOk d) {m:MP} {p:Vbbraf.Pos} (R:Rel d m p) {v:V} (h:valV kvs (keyL m) = some v):v = .int ((J wd d m:Nat):Int):=by
 obtain ⟨m',p',R',e,rfl⟩:=M _ _ h
 obtain ⟨e1,e2,e3,e4,e5⟩:=keyL_inj e
 rw [key_inj O R R' e1 e2 e3 e4 e5]
theorem Memo.put {wd:Vbbrag.Words} {d:Deal} {kvs:List (List Key × V)} (M:Memo wd d kvs) {m:MP} {p:Vbbraf.Pos} (R:Rel d m p):Memo wd d (putK kvs (keyL m) (.int ((J wd d m:Nat):Int))):=fun k v h=>by
 rw [valV_put] at h
 by_cases e:k = keyL m
 ·rw [if_pos e] at h
  cases h
  exact ⟨m,p,R,e,rfl⟩
 ·rw [if_neg e] at h
  exact M k v h
theorem Memo.nil (wd:Vbbrag.Words) (d:Deal):Memo wd d []:=fun k v h=>by
 rw [valV_nil] at h
 cases h
def JuAt (A:Adr) (H:Hp) (j kn:Addr) (wd:Vbbrag.Words):Prop:=∃ (dx st:Addr) (fs:List (Str × V)),H j = some (.ins A.c_Judging dx fs) ∧ fs.lookup ("statement":Str) = some (.ref st) ∧ fs.lookup ("known":Str) = some (.ref kn) ∧ StAt A H st wd
theorem JuAt.x {A:Adr} {H H':Hp} {j kn:Addr} {wd:Vbbrag.Words} (h:JuAt A H j kn wd) (s:SameX H H'):JuAt A H' j kn wd:=by
 obtain ⟨dx,st,fs,h1,h2,h3,h4⟩:=h
 exact ⟨dx,st,fs,s _ _ h1 (fun _ z=>nomatch z),h2,h3,h4.x s⟩
def cap:Nat → Nat
 | 0=>0
 | n + 1=>1 + ((n + 4) / 4) * cap n
theorem lets_len {d:Deal} (O:DealOk d) {m:MP} {p:Vbbraf.Pos} (R:Rel d m p) (wd:Vbbrag.Words) {n:Nat} (h:mheld d m = n + 1):(mlets wd d m).length ≤ (n + 4) / 4:=by
 obtain ⟨q,_,h1,h2,_,_⟩:=R.lens O
 have c3:=R.c3
 have hl:(may d m).length ≤ q:=by
  unfold may
  split
  ·exact Nat.le_of_eq h1
  ·split
   ·exact Nat.le_of_eq h1
   ·exact Nat.le_trans (List.length_filter_le _ _) (Nat.le_of_eq h1)
 have hm:(mlets wd d m).length ≤ max 1 (may d m).length:=by
  unfold mlets
  split
  ·split
   ·exact Nat.le_max_left _ _
   ·exact Nat.le_trans (pare_len _ _) (Nat.le_max_right _ _)
  ·exact Nat.le_max_right _ _
 omega
def sp_key_of (A:Adr):Sp:=fun vs H Q _=>∃ (a:Addr) (d:Deal) (m:MP),vs = [.ref a] ∧ PosAt A H a d m ∧ ∀ (r:Addr) (H':Hp),Same H H' → H' r = some (.tup ((keyL m).map kV)) → Q (.ref r) H'
theorem ok_key_of (T:Txt K mg A):FnOk P w K mg base CX0 1 A.f_key_of A.d_key_of ["position"] (sp_key_of A):=by
 refine T.F_key_of.ok sc_key_of (fun vs H Q E h=>?_) (fun cdv A' outer s H vs Q E hr h=>?_)
 ·obtain ⟨a,d,m,rfl,_⟩:=h
  rfl
 ·obtain ⟨a,d,m,rfl,hpos,k⟩:=h
  obtain ⟨dd,dx,fs,hd,hp,l1,l2,l3,l4,l5,l6,l7⟩:=id hpos
  refine ⟨_,(pss_one (ps_ret (pe_tup (pa_cons (pe_fld (pv 0) rfl) (pa_cons (pe_fld (pv 0) rfl) (pa_cons (pe_fld (pv 0) rfl) (pa_cons (pe_fld (pv 0) rfl) (pa_cons (pe_fld (pv 0) rfl) pa_nil)))))))),?_⟩
  refine ⟨_,rfl,a,_,dx,fs,_,rfl,hp,T.c_Position,T.n_Position_left,l2,_,rfl,a,_,dx,fs,_,rfl,hp,T.c_Position,T.n_Position_seat,l3,_,rfl,a,_,dx,fs,_,rfl,hp,T.c_Position,T.n_Position_count,l4,
   _,rfl,a,_,dx,fs,_,rfl,hp,T.c_Position,T.n_Position_led,l5,_,rfl,a,_,dx,fs,_,rfl,hp,T.c_Position,T.n_Position_best,l6,(by show 5 ≤ sizeLine; decide),fun r hr'=>?_⟩
  exact k r _ (same_new hr' _) upd_same
def lim:Nat:=16000000
def sp_judged (A:Adr) (n:Nat):Sp:=fun vs H Q _=>∃ (j kn a:Addr) (wd:Vbbrag.Words) (d:Deal) (m:MP) (p:Vbbraf.Pos) (kvs:List (List Key × V)),vs = [.ref j,.ref a] ∧ JuAt A H j kn wd ∧ H kn = some (.dT kvs) ∧ Memo wd d kvs ∧ PosAt A H a d m ∧ DealOk d ∧ Rel d m p ∧ mheld d m ≤ n ∧
 kvs.length + cap (mheld d m) ≤ lim ∧ ∀ (H':Hp) (kvs':List (List Key × V)),But kn H H' → H' kn = some (.dT kvs') → Memo wd d kvs' → kvs'.length ≤ kvs.length + cap (mheld d m) → Q (.int ((J wd d m:Nat):Int)) H'
def sp_judged_with (A:Adr) (n:Nat):Sp:=fun vs H Q _=>∃ (j kn a:Addr) (wd:Vbbrag.Words) (d:Deal) (m:MP) (p:Vbbraf.Pos) (kvs:List (List Key × V)) (c:Nat),vs = [.ref j,.ref a,.int (c:Int)] ∧ JuAt A H j kn wd ∧ H kn = some (.dT kvs) ∧ Memo wd d kvs ∧ PosAt A H a d m ∧ DealOk d ∧ Rel d m p ∧
 c ∈ may d m ∧ mheld d m ≤ n + 1 ∧ kvs.length + cap (mheld d m - 1) ≤ lim ∧ ∀ (H':Hp) (kvs':List (List Key × V)),But kn H H' → H' kn = some (.dT kvs') → Memo wd d kvs' → kvs'.length ≤ kvs.length + cap (mheld d m - 1) → Q (.int ((Jby wd d m c:Nat):Int)) H'
theorem card52 {d:Deal} (O:DealOk d) {m:MP} {s c:Nat} (s4:s < 4) (h:c ∈ hand d m s):c < 52:=by
 have e:=getD_some (l:=d.hands) (s:=s) (by rw [O.len]; exact s4)
 exact O.lt _ (List.mem_of_getElem? e) c (mem_hand.mp h).1
theorem ok_judged_with (T:Txt K mg A) {n:Nat} (G_judged:FnOk P w K mg base CX0 (2 * n + 6) A.f_judged A.d_judged ["judging","position"] (sp_judged A n)):
  FnOk P w K mg base CX0 (2 * n + 7) A.f_judged_with A.d_judged_with ["judging","position","card"] (sp_judged_with A n):=by
 have G_position_behind:=ok_position_behind (P:=P) (w:=w) (base:=base) T
 have G_trick_won:=ok_trick_won (P:=P) (w:=w) (base:=base) T
 refine T.F_judged_with.ok sc_judged_with (fun vs H Q E h=>?_) (fun cdv A' outer s H vs Q E hr h=>?_)
 ·obtain ⟨j,kn,a,wd,d,m,p,kvs,c,rfl,_⟩:=h
  rfl
 ·obtain ⟨j,kn,a,wd,d,m,p,kvs,c,rfl,hj,hk,M,hpos,O,R,hc,hn,hcap,k⟩:=h
  have hh:=may_sub hc
  have hb:=mem_hand.mp hh
  have c52:=card52 O R.seat4 hh
  have hd1:=R.held_behind O hh
  refine ⟨_,(pss_cons (ps_set (i:=3) sc_judged_with.nd rfl (by first | exact Or.inl rfl | exact Or.inr rfl) (pe_call G_position_behind (hr.mono (by omega)) rfl T.m_position_behind T.F_position_behind.kp T.b_position_behind .nil pass0 (pa_cons (pv 1) (pa_cons (pv 2) pa_nil)))) (pss_one (ps_ret (pe_op op_add (pe_call G_trick_won (hr.mono (by omega)) rfl T.m_trick_won T.F_trick_won.kp T.b_trick_won .nil pass0 (pa_cons (pv 3) (pa_cons (pe_fld (pe_fld (pv 0) rfl) rfl) pa_nil))) (pe_call G_judged (hr.mono (by omega)) rfl T.m_judged T.F_judged.kp T.b_judged .nil pass0 (pa_cons (pv 0) (pa_cons (pv 3) pa_nil))))))),?_⟩
  refine ⟨_,rfl,_,rfl,a,d,m,c,rfl,hpos,hb.2,c52,fun r H1 s1 hr1=>?_⟩
  obtain ⟨jdx,st,jfs,j1,j2,j3,⟨sdx,cl,sfs,st1,st2,st3,st4,st5⟩⟩:=id hj
  refine ⟨_,rfl,_,rfl,j,_,jdx,jfs,_,rfl,s1 _ _ j1,T.c_Judging,T.n_Judging_statement,j2,st,_,sdx,sfs,_,rfl,s1 _ _ st1,T.c_Statement,T.n_Statement_side,st2,r,d,behind d m c,wd.side,rfl,hr1,?_⟩
  refine ⟨_,rfl,_,rfl,j,kn,r,wd,d,behind d m c,_,kvs,rfl,hj.x s1.x,s1 _ _ hk,M,hr1,O,R.step O hh,by omega,?_,fun H2 kvs' b2 hk2 M2 l2=>?_⟩
  ·rw [show mheld d (behind d m c) = mheld d m - 1 by omega]
   exact hcap
  ·rw [show mheld d (behind d m c) = mheld d m - 1 by omega] at l2
   refine ⟨_,_,rfl,rfl,?_⟩
   have:=k H2 kvs' ((s1.but kn).trans b2) hk2 M2 l2
   unfold Jby at this
   rw [Int.natCast_add] at this
   exact this
theorem ok_judged (T:Txt K mg A) {n:Nat} (G_judged_with:∀ q,q + 1 = n → FnOk P w K mg base CX0 (2 * q + 7) A.f_judged_with A.d_judged_with ["judging","position","card"] (sp_judged_with A q)):
  FnOk P w K mg base CX0 (2 * n + 6) A.f_judged A.d_judged ["judging","position"] (sp_judged A n):=by
 have G_key_of:=ok_key_of (P:=P) (w:=w) (base:=base) T
 have G_cards_let:=ok_cards_let (P:=P) (w:=w) (base:=base) T
 refine T.F_judged.ok sc_judged (fun vs H Q E h=>?_) (fun cdv A' outer s H vs Q E hr h=>?_)
 ·obtain ⟨j,kn,a,wd,d,m,p,kvs,rfl,_⟩:=h
  rfl
 ·obtain ⟨j,kn,a,wd,d,m,p,kvs,rfl,hj,hk,M,hpos,O,R,hn,hcap,k⟩:=h
  obtain ⟨dd,dx,fs,hd,hp,l1,l2,l3,l4,l5,l6,l7⟩:=id hpos
  obtain ⟨jdx,st,jfs,j1,j2,j3,hst⟩:=id hj
  by_cases h0:mheld d m = 0
  ·have left0:=(left_zero O R).mpr h0
   refine ⟨_,pss_cons (ps_if (pt_cmpR op_eq (pe_fld (pv 1) rfl) pe_int (nomark _)) (pss_one (ps_ret pe_int)) pss_nil) pss_never,?_⟩
   refine ⟨_,rfl,a,_,dx,fs,_,rfl,hp,T.c_Position,T.n_Position_left,l2,rfl,_,rfl,?_⟩
   refine ifI (fun e=>?_) fun e=>absurd (by rw [left0]; rfl) e
   have:=k H kvs (fun b o e _=>e) hk M (Nat.le_add_right _ _)
   rw [J_zero h0] at this
   exact this
  ·obtain ⟨q,eq⟩:∃ q,mheld d m = q + 1:=⟨mheld d m - 1,by omega⟩
   obtain ⟨n',rfl⟩:∃ n',n = n' + 1:=⟨n - 1,by omega⟩
   have G_judged_with:=G_judged_with n' rfl
   have left0:¬ m.left = 0:=fun z=>h0 ((left_zero O R).mp z)
   have hcapq:cap (mheld d m) = 1 + ((q + 4) / 4) * cap q:=by rw [eq]; rfl
   have jst:=R.J_step O wd h0
   have lne:=R.lets_ne O wd h0
   have llen:=lets_len O R wd eq
   refine ⟨_,(pss_cons (ps_if (pt_cmpR op_eq (pe_fld (pv 1) rfl) pe_int (nomark _)) (pss_one (ps_ret pe_int)) pss_nil) (pss_cons (ps_set (i:=2) sc_judged.nd rfl (by first | exact Or.inl rfl | exact Or.inr rfl) (pe_call G_key_of (hr.mono (by omega)) rfl T.m_key_of T.F_key_of.kp T.b_key_of .nil pass0 (pa_cons (pv 1) pa_nil))) (pss_cons (ps_if (pt_cmp (pc_din (hu_of hr) (pv 2) (pe_fld (pv 0) rfl)) (by with_unfolding_all rfl)) (pss_one (ps_ret (pe_dget (hu_of hr) (pe_fld (pv 0) rfl) (pv 2) (fun _ _=>rfl)))) pss_nil) (pss_cons (ps_set (i:=3) sc_judged.nd rfl (by first | exact Or.inl rfl | exact Or.inr rfl) pe_non) (pss_cons (ps_for PassesOwn.never rfl (pi_list (pe_call G_cards_let (hr.mono (by omega)) rfl T.m_cards_let T.F_cards_let.kp T.b_cards_let .nil pass0 (pa_cons (pe_fld (pv 0) rfl) (pa_cons (pv 1) pa_nil)))) (pg_name (i:=4) sc_judged.nd rfl (Or.inl rfl)) (pss_cons (ps_set (i:=5) sc_judged.nd rfl (by first | exact Or.inl rfl | exact Or.inr rfl) (pe_call G_judged_with (hr.mono (by omega)) rfl T.m_judged_with T.F_judged_with.kp T.b_judged_with .nil pass0 (pa_cons (pv 0) (pa_cons (pv 1) (pa_cons (pv 4) pa_nil))))) (pss_cons (ps_if (PW.pt (pw_or (pt_cmp (pc_isN (pv 3))) (pw_or1 (pt_cmpR op_lt (pv 5) (pv 3) (nomark _))))) (pss_one (ps_set (i:=3) sc_judged.nd rfl (by first | exact Or.inl rfl | exact Or.inr rfl) (pv 5))) pss_nil) (pss_one (ps_if (pt_cmpR op_eq (pv 3) pe_int (nomark _)) (pss_one ps_break) pss_nil))))) (pss_cons (ps_dput (hu_of hr) (pe_fld (pv 0) rfl) (pv 2) (pv 3) rfl) (pss_one (ps_ret (pv 3))))))))),?_⟩
   refine ⟨_,rfl,a,_,dx,fs,_,rfl,hp,T.c_Position,T.n_Position_left,l2,rfl,_,rfl,?_⟩
   refine ifI (fun e=>absurd (by omega) left0) fun e=>?_
   refine ⟨_,rfl,a,d,m,rfl,hpos,fun t H1 s1 ht=>?_⟩
   refine ⟨_,rfl,_,rfl,j,_,jdx,jfs,_,rfl,s1 _ _ j1,T.c_Judging,T.n_Judging_known,j3,kn,_,rfl,DGet.t (s1 _ _ hk) ht,_,rfl,?_⟩
   cases hv:valV kvs (keyL m) with
   | some v=>
    have ev:=M.get O R hv
    subst ev
    refine iteT ⟨_,rfl,j,_,jdx,jfs,_,rfl,s1 _ _ j1,T.c_Judging,T.n_Judging_known,j3,_,rfl,kn,_,rfl,(by rw [← hv]; exact DGet.t (s1 _ _ hk) ht),?_⟩
    exact k H1 kvs (s1.but kn) (s1 _ _ hk) M (Nat.le_add_right _ _)
   | none=>
    refine iteF ?_
    refine ⟨_,rfl,j,_,jdx,jfs,_,rfl,s1 _ _ j1,T.c_Judging,T.n_Judging_statement,j2,_,rfl,st,a,wd,d,m,rfl,hst.same s1,hpos.same s1,O,R.seat4,fun r H2 s2 hr2=>?_⟩
    refine ⟨r,rfl,⟨_,SqL.of hr2⟩,?_⟩
    have s12:=s1.trans s2
    have hkr:r ≠ kn:=ne_of hr2 (s12 _ _ hk) (by intro z; cases z)
    have htk:t ≠ kn:=ne_of ht (s1 _ _ hk) (by intro z; cases z)
    have fin:∀ (H3:Hp) (kvs3:List (List Key × V)),But kn H2 H3 → H3 kn = some (.dT kvs3) → Memo wd d kvs3 → kvs3.length ≤ kvs.length + ((q + 4) / 4) * cap q →
      kvs3.length < sizeLine ∧ H3 t = some (.tup ((keyL m).map kV)) ∧ JuAt A H3 j kn wd ∧ Q (.int ((J wd d m:Nat):Int)) (upd H3 kn (.dT (putK kvs3 (keyL m) (.int ((J wd d m:Nat):Int))))):=fun H3 kvs3 b3 hk3 M3 l3'=>by
     refine ⟨?_,b3 _ _ (s2 _ _ ht) htk,hj.x ?_,k _ _ ?_ upd_same (M3.put R) ?_⟩
     ·unfold lim at hcap
      rw [sizeLine_eq]
      omega
     ·exact ((s12.but kn).trans b3).x hk
     ·refine fun b o e nb=>?_
      rw [upd_ne nb]
      exact b3 _ _ (s12 _ _ e) nb
     ·have:=length_putK kvs3 (keyL m) (.int ((J wd d m:Nat):Int))
      omega
    refine for_list (K:=K) (a:=r) (xs:=nints (mlets wd d m)) (fun i σ H'=>∃ (v4 v5:Option V) (kvs3:List (List Key × V)),But kn H2 H' ∧ H' kn = some (.dT kvs3) ∧ Memo wd d kvs3 ∧ kvs3.length ≤ kvs.length + i * cap q ∧
      ((i = 0 ∧ σ = [some (.ref j),some (.ref a),some (.ref t),some .non,v4,v5]) ∨ (0 < i ∧ σ = [some (.ref j),some (.ref a),some (.ref t),some (.int ((Vbbrag.leastOf (Jby wd d m) ((mlets wd d m).take i):Nat):Int)),v4,v5])))
     ⟨none,none,kvs,fun _ _ e _=>e,s12 _ _ hk,M,Nat.le_add_right _ _,.inl ⟨rfl,rfl⟩⟩ (fun i σ H' _ ⟨_,_,_,b,_⟩=>SqL.of (b _ _ hr2 hkr)) ?_ ?_
    ·rintro i x σ H' hi ⟨v4,v5,kvs3,b3,hk3,M3,len3,hσ⟩
     obtain ⟨c,hc,rfl⟩:=ints_at hi
     have hil:i < (mlets wd d m).length:=(List.getElem?_eq_some_iff.mp hc).1
     have hcm:=lets_sub (List.mem_of_getElem? hc)
     have bx:=(s12.but kn).trans b3
     have hmul:(i + 1) * cap q ≤ ((q + 4) / 4) * cap q:=Nat.mul_le_mul_right _ (by omega)
     have hsucc:(i + 1) * cap q = i * cap q + cap q:=Nat.succ_mul _ _
     have tk:=take_snoc hc
     have hq1:mheld d m - 1 = q:=by omega
     rcases hσ with ⟨rfl,rfl⟩ | ⟨hpos0,rfl⟩
     ·refine ⟨_,rfl,_,rfl,_,rfl,j,kn,a,wd,d,m,p,kvs3,c,rfl,hj.x (bx.x hk),hk3,M3,hpos.x (bx.x hk),O,R,hcm,by omega,?_,fun H4 kvs4 b4 hk4 M4 l4'=>?_⟩
      ·rw [hq1]
       omega
      ·rw [hq1] at l4'
       have l4':kvs4.length ≤ kvs.length + (0 + 1) * cap q:=by omega
       have b24:=b3.trans b4
       refine ⟨_,rfl,_,rfl,?_⟩
       refine ifD (fun _=>?_) fun z=>absurd rfl z
       refine iteT ⟨_,rfl,?_⟩
       have lv:Vbbrag.leastOf (Jby wd d m) ((mlets wd d m).take (0 + 1)) = Jby wd d m c:=by
        rw [tk]
        rfl
       refine ⟨_,rfl,rfl,_,rfl,?_⟩
       refine ifI (fun z=>?_) fun z=>?_
       ·have z0:Vbbrag.leastOf (Jby wd d m) ((mlets wd d m).take (0 + 1)) = 0:=by omega
        have zz:Vbbrag.leastOf (Jby wd d m) (mlets wd d m) = 0:=by
         have:=leastOf_app (Jby wd d m) (l:=(mlets wd d m).take (0 + 1)) (by rw [tk]; simp) z0 ((mlets wd d m).drop (0 + 1))
         rw [List.take_append_drop] at this
         exact this
        have ej:(((Jby wd d m c:Nat)):Int) = ((J wd d m:Nat):Int):=by omega
        obtain ⟨f1,f2,⟨jdx4,st4',jfs4,g1,g2,g3,g4⟩,f4⟩:=fin _ _ b24 hk4 M4 (by omega)
        rw [← ej] at f4
        exact ⟨_,rfl,_,rfl,j,_,jdx4,jfs4,_,rfl,g1,T.c_Judging,T.n_Judging_known,g3,_,rfl,kn,_,rfl,DPut.t hk4 f2 f1,_,rfl,f4⟩
       ·exact ⟨some (.int (c:Int)),some (.int ((Jby wd d m c:Nat):Int)),kvs4,b24,hk4,M4,l4',.inr ⟨Nat.succ_pos _,by rw [lv]; rfl⟩⟩
     ·have tne:(mlets wd d m).take i ≠ []:=by
       intro z
       have:=congrArg List.length z
       rw [List.length_take,List.length_nil] at this
       omega
      have sn:Vbbrag.leastOf (Jby wd d m) ((mlets wd d m).take (i + 1)) = min (Vbbrag.leastOf (Jby wd d m) ((mlets wd d m).take i)) (Jby wd d m c):=by
       rw [tk]
       exact leastOf_snoc _ _ tne
      refine ⟨_,rfl,_,rfl,_,rfl,j,kn,a,wd,d,m,p,kvs3,c,rfl,hj.x (bx.x hk),hk3,M3,hpos.x (bx.x hk),O,R,hcm,by omega,?_,fun H4 kvs4 b4 hk4 M4 l4'=>?_⟩
      ·rw [hq1]
       omega
      ·rw [hq1] at l4'
       have l4':kvs4.length ≤ kvs.length + (i + 1) * cap q:=by omega
       have b24:=b3.trans b4
       refine ⟨_,rfl,_,rfl,?_⟩
       refine ifD (fun z=>nomatch z) fun _=>?_
       refine ⟨_,rfl,_,rfl,_,_,rfl,rfl,_,rfl,?_⟩
       refine ifD (fun lt=>?_) fun nlt=>?_
       ·refine ⟨_,rfl,?_⟩
        have lv:Vbbrag.leastOf (Jby wd d m) ((mlets wd d m).take (i + 1)) = Jby wd d m c:=by
         omega
        refine ⟨_,rfl,rfl,_,rfl,?_⟩
        refine ifI (fun z=>?_) fun z=>?_
        ·have z0:Vbbrag.leastOf (Jby wd d m) ((mlets wd d m).take (i + 1)) = 0:=by omega
         have zz:Vbbrag.leastOf (Jby wd d m) (mlets wd d m) = 0:=by
          have:=leastOf_app (Jby wd d m) (l:=(mlets wd d m).take (i + 1)) (by rw [tk]; simp) z0 ((mlets wd d m).drop (i + 1))
          rw [List.take_append_drop] at this
          exact this
         have ej:(((Jby wd d m c:Nat)):Int) = ((J wd d m:Nat):Int):=by omega
         obtain ⟨f1,f2,⟨jdx4,st4',jfs4,g1,g2,g3,g4⟩,f4⟩:=fin _ _ b24 hk4 M4 (by omega)
         rw [← ej] at f4
         exact ⟨_,rfl,_,rfl,j,_,jdx4,jfs4,_,rfl,g1,T.c_Judging,T.n_Judging_known,g3,_,rfl,kn,_,rfl,DPut.t hk4 f2 f1,_,rfl,f4⟩
        ·exact ⟨some (.int (c:Int)),some (.int ((Jby wd d m c:Nat):Int)),kvs4,b24,hk4,M4,l4',.inr ⟨Nat.succ_pos _,by rw [lv]; rfl⟩⟩
       ·skip
        have lv:Vbbrag.leastOf (Jby wd d m) ((mlets wd d m).take (i + 1)) = Vbbrag.leastOf (Jby wd d m) ((mlets wd d m).take i):=by
         omega
        refine ⟨_,rfl,rfl,_,rfl,?_⟩
        refine ifI (fun z=>?_) fun z=>?_
        ·have z0:Vbbrag.leastOf (Jby wd d m) ((mlets wd d m).take (i + 1)) = 0:=by omega
         have zz:Vbbrag.leastOf (Jby wd d m) (mlets wd d m) = 0:=by
          have:=leastOf_app (Jby wd d m) (l:=(mlets wd d m).take (i + 1)) (by rw [tk]; simp) z0 ((mlets wd d m).drop (i + 1))
          rw [List.take_append_drop] at this
          exact this
         have ej:(((Vbbrag.leastOf (Jby wd d m) ((mlets wd d m).take i):Nat)):Int) = ((J wd d m:Nat):Int):=by omega
         obtain ⟨f1,f2,⟨jdx4,st4',jfs4,g1,g2,g3,g4⟩,f4⟩:=fin _ _ b24 hk4 M4 (by omega)
         rw [← ej] at f4
         exact ⟨_,rfl,_,rfl,j,_,jdx4,jfs4,_,rfl,g1,T.c_Judging,T.n_Judging_known,g3,_,rfl,kn,_,rfl,DPut.t hk4 f2 f1,_,rfl,f4⟩
        ·exact ⟨some (.int (c:Int)),some (.int ((Jby wd d m c:Nat):Int)),kvs4,b24,hk4,M4,l4',.inr ⟨Nat.succ_pos _,by rw [lv]; rfl⟩⟩
    ·rintro σ H4 ⟨v4,v5,kvs4,b24,hk4,M4,l4',hσ⟩
     rw [ints_len,List.take_length] at hσ
     rw [ints_len] at l4'
     have hmul:(mlets wd d m).length * cap q ≤ ((q + 4) / 4) * cap q:=Nat.mul_le_mul_right _ llen
     rcases hσ with ⟨z,_⟩ | ⟨_,rfl⟩
     ·exact absurd (List.eq_nil_of_length_eq_zero z) lne
     ·skip
      have ej:((Vbbrag.leastOf (Jby wd d m) (mlets wd d m):Nat):Int) = ((J wd d m:Nat):Int):=by rw [jst]
      obtain ⟨f1,f2,⟨jdx4,st4',jfs4,g1,g2,g3,g4⟩,f4⟩:=fin _ _ b24 hk4 M4 (by omega)
      rw [← ej] at f4
      exact ⟨_,rfl,_,rfl,j,_,jdx4,jfs4,_,rfl,g1,T.c_Judging,T.n_Judging_known,g3,_,rfl,kn,_,rfl,DPut.t hk4 f2 f1,_,rfl,f4⟩
theorem ok_jj (T:Txt K mg A):∀ n:Nat,FnOk P w K mg base CX0 (2 * n + 6) A.f_judged A.d_judged ["judging","position"] (sp_judged A n)
 | 0=>ok_judged T fun q h=>absurd h (by omega)
 | n + 1=>ok_judged T fun q h=>by
  have e:q = n:=by omega
  subst e
  exact ok_judged_with T (ok_jj T q)
def sp_Judging_init (A:Adr):Sp:=fun vs H Q _=>∃ (p dx:Addr) (x1:V),vs = [.ref p,x1] ∧ H p = some (.ins A.c_Judging dx []) ∧ ∀ (H':Hp) (fs:List (Str × V)) (kn:Addr),H' p = some (.ins A.c_Judging dx fs) → fs.lookup ("statement":Str) = some x1 → fs.lookup ("known":Str) = some (.ref kn) → kn ≠ p → H kn = none → H' kn = some (.dT []) → (∀ b,b ≠ p → b ≠ kn → H' b = H b) → Q .non H'
theorem ok_Judging_init (T:Txt K mg A):FnOk P w K mg base CX0 1 A.f_Judging_init A.d_Judging_init ["self","statement"] (sp_Judging_init A):=by
 refine T.F_Judging_init.ok sc_Judging_init (fun vs H Q E h=>?_) (fun cdv A' outer s H vs Q E hr h=>?_)
 ·obtain ⟨p,dx,x1,rfl,_⟩:=h
  rfl
 ·obtain ⟨p,dx,x1,rfl,hp,k⟩:=h
  refine ⟨_,(pss_cons (ps_fld (pv 0) (pv 1) rfl) (pss_one (ps_fld (pv 0) pe_dnewT rfl))),?_⟩
  refine ⟨_,rfl,_,rfl,p,_,dx,_,rfl,hp,T.c_Judging,T.n_Judging_statement,Nat.lt_of_le_of_lt (Nat.zero_le 0) (by decide:0 < 1000),?_⟩
  intro kn hkn
  have npk:p ≠ kn:=ne_of_none upd_same hkn
  refine ⟨_,rfl,p,_,dx,_,rfl,(upd_ne npk).trans upd_same,T.c_Judging,T.n_Judging_known,Nat.lt_of_le_of_lt (len_put (Nat.zero_le 0)) (by decide:1 < 1000),?_⟩
  have hk0:H kn = none:=by
   have z:=hkn
   rw [upd_ne (Ne.symm npk)] at z
   exact z
  exact k _ _ kn upd_same ((lk_miss (by decide +kernel)).trans lk_hit) lk_hit (Ne.symm npk) hk0 ((upd_ne (Ne.symm npk)).trans upd_same) (fun b hb hb2=>(upd_ne hb).trans ((upd_ne hb2).trans ((upd_ne hb).trans (rfl))))
def sp_Valuing_init (A:Adr):Sp:=fun vs H Q _=>∃ (p dx:Addr),vs = [.ref p] ∧ H p = some (.ins A.c_Valuing dx []) ∧ ∀ (H':Hp) (fs:List (Str × V)) (kn:Addr),H' p = some (.ins A.c_Valuing dx fs) → fs.lookup ("known":Str) = some (.ref kn) → kn ≠ p → H kn = none → H' kn = some (.dT []) → (∀ b,b ≠ p → b ≠ kn → H' b = H b) → Q .non H'
theorem ok_Valuing_init (T:Txt K mg A):FnOk P w K mg base CX0 1 A.f_Valuing_init A.d_Valuing_init ["self"] (sp_Valuing_init A):=by
 refine T.F_Valuing_init.ok sc_Valuing_init (fun vs H Q E h=>?_) (fun cdv A' outer s H vs Q E hr h=>?_)
 ·obtain ⟨p,dx,rfl,_⟩:=h
  rfl
 ·obtain ⟨p,dx,rfl,hp,k⟩:=h
  refine ⟨_,(pss_one (ps_fld (pv 0) pe_dnewT rfl)),?_⟩
  intro kn hkn
  have npk:p ≠ kn:=ne_of_none hp hkn
  refine ⟨_,rfl,p,_,dx,_,rfl,(upd_ne npk).trans hp,T.c_Valuing,T.n_Valuing_known,Nat.lt_of_le_of_lt (Nat.zero_le 0) (by decide:0 < 1000),?_⟩
  have hk0:H kn = none:=by
   have z:=hkn
   exact z
  exact k _ _ kn upd_same lk_hit (Ne.symm npk) hk0 ((upd_ne (Ne.symm npk)).trans upd_same) (fun b hb hb2=>(upd_ne hb).trans ((upd_ne hb2).trans (rfl)))
def sp_Wording_init (A:Adr):Sp:=fun vs H Q _=>∃ (p dx:Addr) (x1 x2 x3:V),vs = [.ref p,x1,x2,x3] ∧ H p = some (.ins A.c_Wording dx []) ∧ ∀ (H':Hp) (fs:List (Str × V)) (kn:Addr),H' p = some (.ins A.c_Wording dx fs) → fs.lookup ("position":Str) = some x1 → fs.lookup ("side":Str) = some x2 → fs.lookup ("way":Str) = some x3 → fs.lookup ("known":Str) = some (.ref kn) → kn ≠ p → H kn = none → H' kn = some (.dT []) → (∀ b,b ≠ p → b ≠ kn → H' b = H b) → Q .non H'
theorem ok_Wording_init (T:Txt K mg A):FnOk P w K mg base CX0 1 A.f_Wording_init A.d_Wording_init ["self","position","side","way"] (sp_Wording_init A):=by
 refine T.F_Wording_init.ok sc_Wording_init (fun vs H Q E h=>?_) (fun cdv A' outer s H vs Q E hr h=>?_)
 ·obtain ⟨p,dx,x1,x2,x3,rfl,_⟩:=h
  rfl
 ·obtain ⟨p,dx,x1,x2,x3,rfl,hp,k⟩:=h
  refine ⟨_,(pss_cons (ps_fld (pv 0) (pv 1) rfl) (pss_cons (ps_fld (pv 0) (pv 2) rfl) (pss_cons (ps_fld (pv 0) (pv 3) rfl) (pss_one (ps_fld (pv 0) pe_dnewT rfl))))),?_⟩
  refine ⟨_,rfl,_,rfl,p,_,dx,_,rfl,hp,T.c_Wording,T.n_Wording_position,Nat.lt_of_le_of_lt (Nat.zero_le 0) (by decide:0 < 1000),?_⟩
  refine ⟨_,rfl,_,rfl,p,_,dx,_,rfl,upd_same,T.c_Wording,T.n_Wording_side,Nat.lt_of_le_of_lt (len_put (Nat.zero_le 0)) (by decide:1 < 1000),?_⟩
  refine ⟨_,rfl,_,rfl,p,_,dx,_,rfl,upd_same,T.c_Wording,T.n_Wording_way,Nat.lt_of_le_of_lt (len_put (len_put (Nat.zero_le 0))) (by decide:2 < 1000),?_⟩
  intro kn hkn
  have npk:p ≠ kn:=ne_of_none upd_same hkn
  refine ⟨_,rfl,p,_,dx,_,rfl,(upd_ne npk).trans upd_same,T.c_Wording,T.n_Wording_known,Nat.lt_of_le_of_lt (len_put (len_put (len_put (Nat.zero_le 0)))) (by decide:3 < 1000),?_⟩
  have hk0:H kn = none:=by
   have z:=hkn
   rw [upd_ne (Ne.symm npk)] at z
   rw [upd_ne (Ne.symm npk)] at z
   rw [upd_ne (Ne.symm npk)] at z
   exact z
  exact k _ _ kn upd_same ((lk_miss (by decide +kernel)).trans ((lk_miss (by decide +kernel)).trans ((lk_miss (by decide +kernel)).trans lk_hit))) ((lk_miss (by decide +kernel)).trans ((lk_miss (by decide +kernel)).trans lk_hit)) ((lk_miss (by decide +kernel)).trans lk_hit) lk_hit (Ne.symm npk) hk0 ((upd_ne (Ne.symm npk)).trans upd_same) (fun b hb hb2=>(upd_ne hb).trans ((upd_ne hb2).trans ((upd_ne hb).trans ((upd_ne hb).trans ((upd_ne hb).trans (rfl))))))
theorem cap_mono1 (n:Nat):cap n ≤ cap (n + 1):=by
 show cap n ≤ 1 + ((n + 4) / 4) * cap n
 have h:1 ≤ (n + 4) / 4:=by omega
 have:=Nat.mul_le_mul_right (cap n) h
 omega
theorem cap_mono {n m:Nat} (h:n ≤ m):cap n ≤ cap m:=by
 induction h with
 | refl=>exact Nat.le_refl _
 | step _ ih=>exact Nat.le_trans ih (cap_mono1 _)
theorem cap16:cap 16 = 1648469:=by decide
theorem cap_le {n:Nat} (h:n ≤ 16):cap n ≤ 1648469:=by
 have:=cap_mono h
 rw [cap16] at this
 exact this
theorem Rel.held16 {d:Deal} {m:MP} {p:Vbbraf.Pos} (O:DealOk d) (R:Rel d m p):mheld d m ≤ 16:=by
 obtain ⟨n,h4,_,h2,_,_⟩:=R.lens O
 omega
theorem made_ju {A:Adr} {H H1 H2:Hp} {s sx j jx kn cl:Addr} {fs gs:List (Str × V)} {wd:Vbbrag.Words} (ns:H s = none) (nsx:H sx = none) (hcl:H cl = some (.lst (nints wd.cards)))
  (h1:H1 s = some (.ins A.c_Statement sx fs)) (a1:fs.lookup ("side":Str) = some (.int (wd.side:Int))) (a2:fs.lookup ("way":Str) = some (.int (wd.way:Int))) (a3:fs.lookup ("cards":Str) = some (.ref cl))
  (k1:∀ b,b ≠ s → H1 b = upd (upd H sx (.own s)) s (.ins A.c_Statement sx []) b)
  (nj:H1 j = none) (njx:H1 jx = none) (h2:H2 j = some (.ins A.c_Judging jx gs)) (b1:gs.lookup ("statement":Str) = some (.ref s)) (b2:gs.lookup ("known":Str) = some (.ref kn)) (nk:upd (upd H1 jx (.own j)) j (.ins A.c_Judging jx []) kn = none) (hk:H2 kn = some (.dT []))
  (k2:∀ b,b ≠ j → b ≠ kn → H2 b = upd (upd H1 jx (.own j)) j (.ins A.c_Judging jx []) b):Same H H2 ∧ H kn = none ∧ JuAt A H2 j kn wd:=by
 have sm1:Same H H1:=made_same ns nsx k1
 have nk1:H1 kn = none:=by
  have z:=nk
  by_cases e:kn = j
  ·rw [e,upd_same] at z
   cases z
  ·rw [upd_ne e] at z
   by_cases e2:kn = jx
   ·rw [e2,upd_same] at z
    cases z
   ·rw [upd_ne e2] at z
    exact z
 have sm2:Same H1 H2:=fun b o e=>by
  rw [k2 b (ne_of_none e nj) (ne_of_none e nk1),upd_ne (ne_of_none e nj),upd_ne (ne_of_none e njx)]
  exact e
 exact ⟨sm1.trans sm2,sm1.free nk1,jx,s,gs,h2,b1,b2,sx,cl,fs,sm2 _ _ h1,a1,a2,a3,sm2 _ _ (sm1 _ _ hcl)⟩
theorem But.new {kn:Addr} {H H1 H2:Hp} (s:Same H H1) (n:H kn = none) (b:But kn H1 H2):Same H H2:=fun c o e=>b c o (s c o e) (ne_of_none e n)
def sp_sure_for (A:Adr):Sp:=fun vs H Q _=>∃ (a:Addr) (d:Deal) (m:MP) (p:Vbbraf.Pos) (side:Nat),vs = [.ref a,.int (side:Int)] ∧ PosAt A H a d m ∧ DealOk d ∧ Rel d m p ∧ ∀ H':Hp,Same H H' → Q (.int ((J ⟨side,0,[]⟩ d m:Nat):Int)) H'
theorem ok_sure_for (T:Txt K mg A):FnOk P w K mg base CX0 39 A.f_sure_for A.d_sure_for ["position","side"] (sp_sure_for A):=by
 have G_judged:=ok_jj (P:=P) (w:=w) (base:=base) T 16
 have G_Judging_init:=ok_Judging_init (P:=P) (w:=w) (base:=base) T
 have G_Statement_init:=ok_Statement_init (P:=P) (w:=w) (base:=base) T
 refine T.F_sure_for.ok sc_sure_for (fun vs H Q E h=>?_) (fun cdv A' outer s H vs Q E hr h=>?_)
 ·obtain ⟨a,d,m,p,side,rfl,_⟩:=h
  rfl
 ·obtain ⟨a,d,m,p,side,rfl,hpos,O,R,k⟩:=h
  refine ⟨_,(pss_one (ps_ret (pe_call G_judged (hr.mono (by decide)) rfl T.m_judged T.F_judged.kp T.b_judged .nil pass0 (pa_cons (pe_make T.M_Judging G_Judging_init (hr.mono (by decide)) rfl T.m_Judging T.b_Judging_init .nil pass0 (pa_cons (pe_make T.M_Statement G_Statement_init (hr.mono (by decide)) rfl T.m_Statement T.b_Statement_init .nil pass0 (pa_cons (pv 1) (pa_cons (pe_gint rfl T.g_ANY_CARD) (pa_cons (pe_lst pa_nil) pa_nil)))) pa_nil)) (pa_cons (pv 0) pa_nil))))),?_⟩
  refine ⟨_,rfl,Nat.zero_le _,fun cl hcl=>?_⟩
  intro sx sdx nsx nsdx nes
  refine ⟨sx,sdx,_,_,_,rfl,upd_same,fun H1 fs h1 a1 a2 a3 k1=>⟨rfl,?_⟩⟩
  intro j jdx nj njdx nej
  refine ⟨j,jdx,_,rfl,upd_same,fun H2 gs kn h2 b1 b2 nkj nk hk k2=>⟨rfl,?_⟩⟩
  obtain ⟨sm,n0,hj⟩:=made_ju (A:=A) (wd:=⟨side,0,[]⟩) nsx nsdx upd_same h1 a1 a2 a3 k1 nj njdx h2 b1 b2 nk hk k2
  have sm0:Same H H2:=(same_new hcl _).trans sm
  have n00:H kn = none:=(same_new hcl _).free n0
  refine ⟨_,rfl,j,kn,a,⟨side,0,[]⟩,d,m,p,[],rfl,hj,hk,Memo.nil _ _,hpos.same sm0,O,R,R.held16 O,?_,fun H3 kvs3 b3 _ _ _=>k H3 (But.new sm0 n00 b3)⟩
  have:=cap_le (R.held16 O)
  unfold lim
  simp
  omega
def lamIn (st:Stmt):Option (Scope × PySem.Pos):=match defBody st with
 | [.Return (some (.Call _ _ [⟨_,.Lambda _ _ sc p,_⟩] _)) _]=>some (sc,p)
 | _=>none
def lamSc (st:Stmt):Scope:=match lamIn st with
 | some x=>x.1
 | none=>defScope st
def lamPos (st:Stmt):PySem.Pos:=match lamIn st with
 | some x=>x.2
 | none=>⟨0,0,0,0⟩
theorem lam_worst_card:LamScope ["judging","position"] (defScope s_worst_card) (lamSc s_worst_card) "card":=⟨rfl,rfl,rfl,by decide +kernel,by decide +kernel,by decide +kernel,by decide +kernel,by decide +kernel⟩
def WorstT (A:Adr) (H:Hp):Prop:=LamT H A.p_worst_card (lamPos s_worst_card) ((("worst_card":Str) ++ ".<locals>.") ++ "<lambda>")
theorem LamT.to {H H':Hp} {P:Addr} {pos:PySem.Pos} {q:Str} (h:LamT H P pos q) (k1:∀ ps,H P = some (.tbl ps) → H' P = some (.tbl ps)) (k2:∀ b o u,H b = some (.frz o u) → H' b = some (.frz o u)):LamT H' P pos q:=by
 obtain ⟨ps,h1,h2,h3⟩:=h
 refine ⟨ps,k1 ps h1,h2,?_⟩
 rcases h3 with h3 | ⟨c,h4,h5⟩
 ·exact .inl h3
 ·exact .inr ⟨c,h4,h5.frz k2⟩
theorem LamT.same {H H':Hp} {P:Addr} {pos:PySem.Pos} {q:Str} (h:LamT H P pos q) (s:Same H H'):LamT H' P pos q:=h.to (fun _ e=>s _ _ e) fun _ _ _ e=>s _ _ e
theorem LamT.but {H H':Hp} {P kn:Addr} {pos:PySem.Pos} {q:Str} {kvs:List (List Key × V)} (h:LamT H P pos q) (hk:H kn = some (.dT kvs)) (s:But kn H H'):LamT H' P pos q:=
 h.to (fun _ e=>s _ _ e (ne_of e hk (by intro z; cases z))) fun _ _ _ e=>s _ _ e (ne_of e hk (by intro z; cases z))
def ButP (kn P:Addr) (H H':Hp):Prop:=∀ b o,H b = some o → b ≠ kn → b ≠ P → H' b = some o
theorem ButP.trans {kn P:Addr} {H H1 H2:Hp} (a:ButP kn P H H1) (b:ButP kn P H1 H2):ButP kn P H H2:=fun c o e n m=>b c o (a c o e n m) n m
def SameY (H H':Hp):Prop:=∀ b o,H b = some o → (∀ kvs,o ≠ HO.dT kvs) → (∀ ps,o ≠ HO.tbl ps) → H' b = some o
theorem ButP.y {kn P:Addr} {H H':Hp} {kvs:List (List Key × V)} {ps:Array Value} (s:ButP kn P H H') (h:H kn = some (.dT kvs)) (hP:H P = some (.tbl ps)):SameY H H':=fun b o e n1 n2=>s b o e (fun z=>by rw [z,h] at e; cases e; exact n1 _ rfl) fun z=>by rw [z,hP] at e; cases e; exact n2 _ rfl
theorem DealAt.y {A:Adr} {H H':Hp} {a:Addr} {d:Deal} (h:DealAt A H a d) (s:SameY H H'):DealAt A H' a d:=by
 obtain ⟨dx,hx,fs,hs,h1,h2,h3,h4,h5,h6,h7⟩:=h
 exact ⟨dx,hx,fs,hs,s _ _ h1 (fun _ z=>nomatch z) (fun _ z=>nomatch z),h2,h3,h4,s _ _ h5 (fun _ z=>nomatch z) (fun _ z=>nomatch z),h6,fun i h e=>let ⟨b,e1,e2⟩:=h7 i h e; ⟨b,e1,s _ _ e2 (fun _ z=>nomatch z) (fun _ z=>nomatch z)⟩⟩
theorem PosAt.y {A:Adr} {H H':Hp} {a:Addr} {d:Deal} {m:MP} (h:PosAt A H a d m) (s:SameY H H'):PosAt A H' a d m:=by
 obtain ⟨dd,dx,fs,h0,h1,r⟩:=h
 exact ⟨dd,dx,fs,h0.y s,s _ _ h1 (fun _ z=>nomatch z) (fun _ z=>nomatch z),r⟩
theorem StAt.y {A:Adr} {H H':Hp} {a:Addr} {wd:Vbbrag.Words} (h:StAt A H a wd) (s:SameY H H'):StAt A H' a wd:=by
 obtain ⟨dx,l,fs,h1,h2,h3,h4,h5⟩:=h
 exact ⟨dx,l,fs,s _ _ h1 (fun _ z=>nomatch z) (fun _ z=>nomatch z),h2,h3,h4,s _ _ h5 (fun _ z=>nomatch z) (fun _ z=>nomatch z)⟩
theorem JuAt.y {A:Adr} {H H':Hp} {j kn:Addr} {wd:Vbbrag.Words} (h:JuAt A H j kn wd) (s:SameY H H'):JuAt A H' j kn wd:=by
 obtain ⟨dx,st,fs,h1,h2,h3,h4⟩:=h
 exact ⟨dx,st,fs,s _ _ h1 (fun _ z=>nomatch z) (fun _ z=>nomatch z),h2,h3,h4.y s⟩
def sp_worst_card (A:Adr):Sp:=fun vs H Q _=>∃ (j kn a:Addr) (wd:Vbbrag.Words) (d:Deal) (m:MP) (p:Vbbraf.Pos) (kvs:List (List Key × V)) (q:Nat),vs = [.ref j,.ref a] ∧ JuAt A H j kn wd ∧ H kn = some (.dT kvs) ∧ Memo wd d kvs ∧ PosAt A H a d m ∧ DealOk d ∧ Rel d m p ∧ mheld d m = q + 1 ∧ WorstT A H ∧
 kvs.length + ((q + 4) / 4) * cap q ≤ lim ∧ ∀ (H':Hp) (kvs':List (List Key × V)) (c:Nat),first (Jby wd d m) (mlets wd d m) = some c → ButP kn A.p_worst_card H H' → WorstT A H' → H' kn = some (.dT kvs') → Memo wd d kvs' → kvs'.length ≤ kvs.length + ((q + 4) / 4) * cap q → Q (.int (c:Int)) H'
theorem ok_worst_card (T:Txt K mg A) (hB:base.BuiltinsAt mg A.p_worst_card):FnOk P w K mg base CX0 42 A.f_worst_card A.d_worst_card ["judging","position"] (sp_worst_card A):=by
 have G_cards_let:=ok_cards_let (P:=P) (w:=w) (base:=base) T
 have G_judged_with:=ok_judged_with (P:=P) (w:=w) (base:=base) T (ok_jj (P:=P) (w:=w) (base:=base) T 16)
 obtain ⟨cc,hcc,CK⟩:=T.k_worst_card
 refine fun_okC T.F_worst_card sc_worst_card (fun vs H Q E h=>?_) (fun cdv A' outer s H vs Q E hcd hr h=>?_)
 ·obtain ⟨j,kn,a,wd,d,m,p,kvs,q,rfl,_⟩:=h
  rfl
 ·obtain ⟨j,kn,a,wd,d,m,p,kvs,q,rfl,hj,hk,M,hpos,O,R,hq,hT,hcap,k⟩:=h
  have hcode:cdv = .ref cc:=by rw [← hcd,hcc]
  obtain ⟨jdx,st,jfs,j1,j2,j3,hst⟩:=id hj
  have h0:mheld d m ≠ 0:=by omega
  have lne:=R.lets_ne O wd h0
  have llen:=lets_len O R wd hq
  have h16:=R.held16 O
  refine ⟨_,(pss_one (ps_ret (pe_minkey rfl hr.depth rfl T.z_min (pe_call G_cards_let (hr.mono (by decide)) rfl T.m_cards_let T.F_cards_let.kp T.b_cards_let .nil pass0 (pa_cons (pe_fld (pv 0) rfl) (pa_cons (pv 1) pa_nil))) hcode CK hB lam_worst_card (fun _ _ _ _=>(pe_call G_judged_with ((hr.mono (by decide)).in1.deeper _) rfl T.m_judged_with T.F_judged_with.kp T.b_judged_with .nil pass0 (pa_cons (pv 1) (pa_cons (pv 2) (pa_cons (pv 0) pa_nil)))))))),?_⟩
  refine ⟨_,rfl,j,_,jdx,jfs,_,rfl,j1,T.c_Judging,T.n_Judging_statement,j2,_,rfl,st,a,wd,d,m,rfl,hst,hpos,O,R.seat4,fun r H1 s1 hr1=>?_⟩
  refine ⟨r,nints (mlets wd d m),rfl,SqL.of hr1,?_,hT.same s1,fun H2 hT2 keep=>?_⟩
  ·rw [ints_len]
   exact List.length_pos_iff.mpr lne
  ·obtain ⟨ps1,hP1,_⟩:=hT.same s1
   have kp1:ButP kn A.p_worst_card H H2:=fun b o e _ n=>keep b o (s1 b o e) n
   have hk1:H2 kn = some (.dT kvs):=keep _ _ (s1 _ _ hk) (ne_of (s1 _ _ hk) hP1 (by intro z; cases z))
   obtain ⟨ps0,hP0,_⟩:=hT
   have y1:=kp1.y hk hP0
   have hr2:H2 r = some (.lst (nints (mlets wd d m))):=keep _ _ hr1 (ne_of hr1 hP1 (by intro z; cases z))
   have hrk:r ≠ kn:=ne_of hr2 hk1 (by intro z; cases z)
   refine ⟨fun i=>((Jby wd d m ((mlets wd d m).getD i 0):Nat):Int),fun i H'=>∃ kvs3:List (List Key × V),But kn H2 H' ∧ H' kn = some (.dT kvs3) ∧ Memo wd d kvs3 ∧ kvs3.length ≤ kvs.length + i * cap q,⟨kvs,fun _ _ e _=>e,hk1,M,Nat.le_add_right _ _⟩,fun i H' ⟨kvs3,b3,_⟩=>⟨SqL.of (b3 _ _ hr2 hrk),fun b o u e=>b3 _ _ e (ne_of e hk1 (by intro z; cases z))⟩,fun i y H' hy ⟨kvs3,b3,hk3,M3,l3⟩=>?_,fun H' i y ⟨kvs3,b3,hk3,M3,l3⟩ hy best=>?_⟩
   ·obtain ⟨c,hc,rfl⟩:=ints_at hy
    have hil:i < (mlets wd d m).length:=(List.getElem?_eq_some_iff.mp hc).1
    have hcm:=lets_sub (List.mem_of_getElem? hc)
    have hmul:(i + 1) * cap q ≤ ((q + 4) / 4) * cap q:=Nat.mul_le_mul_right _ (by omega)
    have hsucc:(i + 1) * cap q = i * cap q + cap q:=Nat.succ_mul _ _
    have hq1:mheld d m - 1 = q:=by omega
    have hx3:=b3.x hk1
    refine ⟨_,rfl,_,rfl,_,rfl,j,kn,a,wd,d,m,p,kvs3,c,rfl,(hj.y y1).x hx3,hk3,M3,(hpos.y y1).x hx3,O,R,hcm,by omega,?_,fun H4 kvs4 b4 hk4 M4 l4=>⟨?_,kvs4,b3.trans b4,hk4,M4,?_⟩⟩
    ·rw [hq1]
     omega
    ·have:(mlets wd d m).getD i 0 = c:=by simp [List.getD,hc]
     show V.int ((Jby wd d m c:Nat):Int) = V.int ((Jby wd d m ((mlets wd d m).getD i 0):Nat):Int)
     rw [this]
    ·rw [hq1] at l4
     omega
   ·obtain ⟨c,hc,rfl⟩:=ints_at hy
    rw [ints_len] at l3 best
    have hmul:(mlets wd d m).length * cap q ≤ ((q + 4) / 4) * cap q:=Nat.mul_le_mul_right _ llen
    have g1:(mlets wd d m).getD i 0 = c:=by simp [List.getD,hc]
    refine k H' kvs3 c (first_at hc fun jj x hx=>?_) (fun b o e n1 n2=>b3 _ _ (kp1 b o e n1 n2) n1) (hT2.but hk1 b3) hk3 M3 (by omega)
    have:=best jj (List.getElem?_eq_some_iff.mp hx).1
    have g2:(mlets wd d m).getD jj 0 = x:=by simp [List.getD,hx]
    simp only [g1,g2] at this
    omega
def sc:Nat → Nat
 | 0=>0
 | n + 1=>cap (n + 1) + sc n
theorem W_zero {wd:Vbbrag.Words} {d:Deal} {m:MP} (h:mheld d m = 0):W wd d m = []:=by
 unfold W
 rw [h]
 rfl
theorem W_step {wd:Vbbrag.Words} {d:Deal} {m:MP} {p:Vbbraf.Pos} (O:DealOk d) (R:Rel d m p) {q c:Nat} (h:mheld d m = q + 1) (hc:first (Jby wd d m) (mlets wd d m) = some c):W wd d m = c :: W wd d (behind d m c):=by
 have hm:c ∈ mlets wd d m:=List.mem_of_find?_eq_some hc
 have:=R.held_behind O (may_sub (lets_sub hm))
 unfold W
 rw [h,show mheld d (behind d m c) = q by omega]
 show (match first (Jby wd d m) (mlets wd d m) with | none=>[] | some c=>c :: wIn wd d q (behind d m c)) = _
 rw [hc]
def lenAt (D:Addr) (H:Hp):Nat:=match H D with
 | some (.lst xs)=>xs.length
 | _=>0
def sp_worst_play (A:Adr):Sp:=fun vs H Q _=>∃ (j kn a:Addr) (wd:Vbbrag.Words) (d:Deal) (m:MP) (p:Vbbraf.Pos) (kvs:List (List Key × V)),vs = [.ref j,.ref a] ∧ JuAt A H j kn wd ∧ H kn = some (.dT kvs) ∧ Memo wd d kvs ∧ PosAt A H a d m ∧ DealOk d ∧ Rel d m p ∧ WorstT A H ∧
 kvs.length + sc (mheld d m) ≤ lim ∧ ∀ (H':Hp) (r:Addr),ButP kn A.p_worst_card H H' → WorstT A H' → H' r = some (.lst (nints (W wd d m))) → Q (.ref r) H'
theorem ok_worst_play (T:Txt K mg A) (hB:base.BuiltinsAt mg A.p_worst_card):FnOk P w K mg base CX0 43 A.f_worst_play A.d_worst_play ["judging","position"] (sp_worst_play A):=by
 have G_worst_card:=ok_worst_card (P:=P) (w:=w) (base:=base) T hB
 have G_position_behind:=ok_position_behind (P:=P) (w:=w) (base:=base) T
 refine T.F_worst_play.ok sc_worst_play (fun vs H Q E h=>?_) (fun cdv A' outer s H vs Q E hr h=>?_)
 ·obtain ⟨j,kn,a,wd,d,m,p,kvs,rfl,_⟩:=h
  rfl
 ·obtain ⟨j,kn,a,wd,d,m,p,kvs,rfl,hj,hk,M,hpos,O,R,hT,hcap,k⟩:=h
  obtain ⟨ps0,hP0,_⟩:=id hT
  have h16:=R.held16 O
  refine ⟨_,(pss_cons (ps_set (i:=2) sc_worst_play.nd rfl (by first | exact Or.inl rfl | exact Or.inr rfl) (pe_lst pa_nil)) (pss_cons (ps_while PassesOwn.never (pt_cmpR op_ne (pe_fld (pv 1) rfl) pe_int (nomark _)) (pss_cons (ps_set (i:=3) sc_worst_play.nd rfl (by first | exact Or.inl rfl | exact Or.inr rfl) (pe_call G_worst_card (hr.mono (by decide)) rfl T.m_worst_card T.F_worst_card.kp T.b_worst_card .nil pass0 (pa_cons (pv 0) (pa_cons (pv 1) pa_nil)))) (pss_cons (ps_expr (pe_bm PySem.F.plainAttrs_list PySem.F.slot_list_append PySem.F.type_list_append mt_append (pv 2) (pa_cons (pv 3) pa_nil))) (pss_one (ps_set (i:=1) sc_worst_play.nd rfl (by first | exact Or.inl rfl | exact Or.inr rfl) (pe_call G_position_behind (hr.mono (by decide)) rfl T.m_position_behind T.F_position_behind.kp T.b_position_behind .nil pass0 (pa_cons (pv 1) (pa_cons (pv 3) pa_nil)))))))) (pss_one (ps_ret (pv 2))))),?_⟩
  refine ⟨Nat.zero_le _,fun D hD=>?_⟩
  have hDk:D ≠ kn:=fun z=>by rw [z,hk] at hD; cases hD
  have hDP:D ≠ A.p_worst_card:=fun z=>by rw [z,hP0] at hD; cases hD
  refine while_by (fun σ H'=>∃ (a':Addr) (m':MP) (p':Vbbraf.Pos) (kvs':List (List Key × V)) (l:List Nat) (v3:Option V),σ = [some (.ref j),some (.ref a'),some (.ref D),v3] ∧ ButP kn A.p_worst_card H H' ∧ WorstT A H' ∧ H' kn = some (.dT kvs') ∧ Memo wd d kvs' ∧ PosAt A H' a' d m' ∧ Rel d m' p' ∧
   H' D = some (.lst (nints l)) ∧ l ++ W wd d m' = W wd d m ∧ kvs'.length + sc (mheld d m') ≤ lim ∧ l.length + mheld d m' = mheld d m) (fun _ H'=>17 - lenAt D H') ⟨a,m,p,kvs,[],none,rfl,fun b o e _ _=>same_new hD _ b o e,hT.same (same_new hD _),same_new hD _ _ _ hk,M,hpos.same (same_new hD _),R,upd_same,rfl,hcap,by simp⟩ ?_ ?_
  ·rintro σ H1 ⟨a',m',p',kvs',l,v3,rfl,b1,T1,k1,M1,P1,R1,D1,e1,c1,n1⟩
   obtain ⟨dd,dx,fs,hd,hp,l1,l2,l3,l4,l5,l6,l7⟩:=id P1
   obtain ⟨ps1,hP1,_⟩:=id T1
   refine ⟨_,rfl,a',_,dx,fs,_,rfl,hp,T.c_Position,T.n_Position_left,l2,rfl,_,rfl,?_⟩
   refine ifIN (fun e=>?_) fun e=>?_
   ·have hne:mheld d m' ≠ 0:=fun z=>e (by rw [(left_zero O R1).mpr z]; rfl)
    obtain ⟨q,hq⟩:∃ q,mheld d m' = q + 1:=⟨mheld d m' - 1,by omega⟩
    have hsc:sc (mheld d m') = cap (q + 1) + sc q:=by rw [hq]; rfl
    have hcq:cap (q + 1) = 1 + ((q + 4) / 4) * cap q:=rfl
    refine ⟨_,rfl,_,rfl,j,kn,a',wd,d,m',p',kvs',q,rfl,hj.y (b1.y hk hP0),k1,M1,P1,O,R1,hq,T1,by omega,fun H2 kvs2 c hc b2 T2 k2 M2 l2'=>?_⟩
    have y2:=b2.y k1 hP1
    have D2:=y2 _ _ D1 (by intro _ z; cases z) (by intro _ z; cases z)
    have P2:=P1.y y2
    have hcm:c ∈ mlets wd d m':=List.mem_of_find?_eq_some hc
    have hh:=may_sub (lets_sub hcm)
    have hbd:=R1.held_behind O hh
    have ws:=W_step O R1 hq hc
    refine ⟨_,rfl,.inl ⟨rfl,_,SqL.of D2⟩,_,rfl,D,_,_,rfl,rfl,D2,?_,?_⟩
    ·rw [ints_len]
     exact small1000 (by omega)
    ·have sD:∀ b o,H2 b = some o → b ≠ D → upd H2 D (.lst (nints l ++ [.int (c:Int)])) b = some o:=fun b o e n=>by rw [upd_ne n]; exact e
     have P3:PosAt A (upd H2 D (.lst (nints l ++ [.int (c:Int)]))) a' d m':=by
      obtain ⟨dd,dx,fs,⟨ddx,hx,dfs,hs,q1,q2,q3,q4,q5,q6,q7⟩,r1,r2⟩:=P2
      exact ⟨dd,dx,fs,⟨ddx,hx,dfs,hs,sD _ _ q1 (ne_of q1 D2 (by intro z; cases z)),q2,q3,q4,sD _ _ q5 (ne_of q5 D2 (by intro z; cases z)),q6,fun i h e=>let ⟨b,e1,e2⟩:=q7 i h e; ⟨b,e1,sD _ _ e2 (ne_of e2 D2 (by intro z; cases z))⟩⟩,sD _ _ r1 (ne_of r1 D2 (by intro z; cases z)),r2⟩
     refine ⟨_,rfl,_,rfl,a',d,m',c,rfl,P3,(mem_hand.mp hh).2,card52 O R1.seat4 hh,fun r H3 s3 P4=>?_⟩
     obtain ⟨ps2,hP2,_⟩:=id T2
     have T3:WorstT A (upd H2 D (.lst (nints l ++ [.int (c:Int)]))):=T2.to (fun _ e=>sD _ _ e (Ne.symm hDP)) fun b o u e=>sD _ _ e (ne_of e D2 (by intro z; cases z))
     refine ⟨⟨r,behind d m' c,_,kvs2,l ++ [c],some (.int (c:Int)),rfl,fun b o e n1 n2=>s3 _ _ (sD _ _ (b2 _ _ (b1 _ _ e n1 n2) n1 n2) (ne_of_none e hD)),T3.same s3,s3 _ _ (sD _ _ k2 (Ne.symm hDk)),M2,P4,R1.step O hh,?_,?_,?_,?_⟩,?_⟩
     ·have:=s3 D _ upd_same
      rw [this,ints_snoc]
     ·rw [← e1,ws,List.append_assoc]
      rfl
     ·rw [show mheld d (behind d m' c) = q by omega]
      omega
     ·rw [List.length_append]
      show l.length + 1 + _ = _
      omega
     ·show 17 - lenAt D H3 < 17 - lenAt D H1
      have a1:lenAt D H1 = l.length:=by unfold lenAt; rw [D1]; exact ints_len l
      have a3:lenAt D H3 = l.length + 1:=by
       unfold lenAt
       rw [s3 D _ upd_same]
       show (nints l ++ [_]).length = _
       rw [List.length_append,ints_len]
       rfl
      omega
   ·have hz:mheld d m' = 0:=(left_zero O R1).mp (by omega)
    refine ⟨_,rfl,k H1 D b1 T1 ?_⟩
    rw [D1,← e1,W_zero hz,List.append_nil]
  ·intro σ H1 Q1 Q2 hq h
   obtain ⟨v,e,x,C,dx,fs,y,r1,r2,r3,r4,r5,r6,r7,r8,r9⟩:=h
   exact ⟨v,e,x,C,dx,fs,y,r1,r2,r3,r4,r5,r6,r7,r8,hq _ _ r9⟩
def VMemo (d:Deal) (kvs:List (List Key × V)):Prop:=∀ k v,valV kvs k = some v → ∃ (m:MP) (p:Vbbraf.Pos),Rel d m p ∧ k = keyL m ∧ v = .int ((V0 d m:Nat):Int)
theorem VMemo.get {d:Deal} {kvs:List (List Key × V)} (M:VMemo d kvs) (O:DealOk d) {m:MP} {p:Vbbraf.Pos} (R:Rel d m p) {v:V} (h:valV kvs (keyL m) = some v):v = .int ((V0 d m:Nat):Int):=by
 obtain ⟨m',p',R',e,rfl⟩:=M _ _ h
 obtain ⟨e1,e2,e3,e4,e5⟩:=keyL_inj e
 rw [key_inj O R R' e1 e2 e3 e4 e5]
theorem VMemo.put {d:Deal} {kvs:List (List Key × V)} (M:VMemo d kvs) {m:MP} {p:Vbbraf.Pos} (R:Rel d m p):VMemo d (putK kvs (keyL m) (.int ((V0 d m:Nat):Int))):=fun k v h=>by
 rw [valV_put] at h
 by_cases e:k = keyL m
 ·rw [if_pos e] at h
  cases h
  exact ⟨m,p,R,e,rfl⟩
 ·rw [if_neg e] at h
  exact M k v h
theorem VMemo.nil (d:Deal):VMemo d []:=fun k v h=>by
 rw [valV_nil] at h
 cases h
def VaAt (A:Adr) (H:Hp) (j kn:Addr):Prop:=∃ (dx:Addr) (fs:List (Str × V)),H j = some (.ins A.c_Valuing dx fs) ∧ fs.lookup ("known":Str) = some (.ref kn)
theorem VaAt.x {A:Adr} {H H':Hp} {j kn:Addr} (h:VaAt A H j kn) (s:SameX H H'):VaAt A H' j kn:=by
 obtain ⟨dx,fs,h1,h2⟩:=h
 exact ⟨dx,fs,s _ _ h1 (fun _ z=>nomatch z),h2⟩
theorem mayq_len {d:Deal} (O:DealOk d) {m:MP} {p:Vbbraf.Pos} (R:Rel d m p) {n:Nat} (h:mheld d m = n + 1):(may d m).length ≤ (n + 4) / 4:=by
 obtain ⟨q,_,h1,h2,_,_⟩:=R.lens O
 have c3:=R.c3
 have hl:(may d m).length ≤ q:=by
  unfold may
  split
  ·exact Nat.le_of_eq h1
  ·split
   ·exact Nat.le_of_eq h1
   ·exact Nat.le_trans (List.length_filter_le _ _) (Nat.le_of_eq h1)
 omega
theorem max_is {f:Nat → Nat} {l:List Nat} {mx:Int} (hm:mx ∈ l.map fun c=>((f c:Nat):Int)) (hy:∀ y,y ∈ (l.map fun c=>((f c:Nat):Int)) → y ≤ mx):mx = ((mostOf f l:Nat):Int):=by
 obtain ⟨c,hc,e⟩:=List.mem_map.mp hm
 have h1:=le_mostOf (f:=f) hc
 obtain ⟨b,hb,eb⟩:=mostOf_mem (f:=f) (l:=l) (by intro z; rw [z] at hc; simp at hc)
 have h2:=hy _ (List.mem_map.mpr ⟨b,hb,rfl⟩)
 omega
theorem min_is {f:Nat → Nat} {l:List Nat} {mx:Int} (hm:mx ∈ l.map fun c=>((f c:Nat):Int)) (hy:∀ y,y ∈ (l.map fun c=>((f c:Nat):Int)) → mx ≤ y):mx = ((Vbbrag.leastOf f l:Nat):Int):=by
 obtain ⟨c,hc,e⟩:=List.mem_map.mp hm
 have h1:=leastOf_le f hc
 obtain ⟨b,hb,eb⟩:=leastOf_mem f (l:=l) (by intro z; rw [z] at hc; simp at hc)
 have h2:=hy _ (List.mem_map.mpr ⟨b,hb,rfl⟩)
 omega
def sp_v0 (A:Adr) (n:Nat):Sp:=fun vs H Q _=>∃ (j kn a:Addr) (d:Deal) (m:MP) (p:Vbbraf.Pos) (kvs:List (List Key × V)),vs = [.ref j,.ref a] ∧ VaAt A H j kn ∧ H kn = some (.dT kvs) ∧ VMemo d kvs ∧ PosAt A H a d m ∧ DealOk d ∧ Rel d m p ∧ mheld d m ≤ n ∧
 kvs.length + cap (mheld d m) ≤ lim ∧ ∀ (H':Hp) (kvs':List (List Key × V)),But kn H H' → H' kn = some (.dT kvs') → VMemo d kvs' → kvs'.length ≤ kvs.length + cap (mheld d m) → Q (.int ((V0 d m:Nat):Int)) H'
def sp_vw (A:Adr) (n:Nat):Sp:=fun vs H Q _=>∃ (j kn a:Addr) (d:Deal) (m:MP) (p:Vbbraf.Pos) (kvs:List (List Key × V)) (c:Nat),vs = [.ref j,.ref a,.int (c:Int)] ∧ VaAt A H j kn ∧ H kn = some (.dT kvs) ∧ VMemo d kvs ∧ PosAt A H a d m ∧ DealOk d ∧ Rel d m p ∧
 c ∈ may d m ∧ mheld d m ≤ n + 1 ∧ kvs.length + cap (mheld d m - 1) ≤ lim ∧ ∀ (H':Hp) (kvs':List (List Key × V)),But kn H H' → H' kn = some (.dT kvs') → VMemo d kvs' → kvs'.length ≤ kvs.length + cap (mheld d m - 1) → Q (.int ((V0by d m c:Nat):Int)) H'
theorem ok_value_with (T:Txt K mg A) {n:Nat} (G_value_for_side_0:FnOk P w K mg base CX0 (2 * n + 6) A.f_value_for_side_0 A.d_value_for_side_0 ["valuing","position"] (sp_v0 A n)):
  FnOk P w K mg base CX0 (2 * n + 7) A.f_value_with A.d_value_with ["valuing","position","card"] (sp_vw A n):=by
 have G_position_behind:=ok_position_behind (P:=P) (w:=w) (base:=base) T
 have G_trick_won:=ok_trick_won (P:=P) (w:=w) (base:=base) T
 refine T.F_value_with.ok sc_value_with (fun vs H Q E h=>?_) (fun cdv A' outer s H vs Q E hr h=>?_)
 ·obtain ⟨j,kn,a,d,m,p,kvs,c,rfl,_⟩:=h
  rfl
 ·obtain ⟨j,kn,a,d,m,p,kvs,c,rfl,hj,hk,M,hpos,O,R,hc,hn,hcap,k⟩:=h
  have hh:=may_sub hc
  have hb:=mem_hand.mp hh
  have c52:=card52 O R.seat4 hh
  have hd1:=R.held_behind O hh
  refine ⟨_,(pss_cons (ps_set (i:=3) sc_value_with.nd rfl (by first | exact Or.inl rfl | exact Or.inr rfl) (pe_call G_position_behind (hr.mono (by omega)) rfl T.m_position_behind T.F_position_behind.kp T.b_position_behind .nil pass0 (pa_cons (pv 1) (pa_cons (pv 2) pa_nil)))) (pss_one (ps_ret (pe_op op_add (pe_call G_trick_won (hr.mono (by omega)) rfl T.m_trick_won T.F_trick_won.kp T.b_trick_won .nil pass0 (pa_cons (pv 3) (pa_cons pe_int pa_nil))) (pe_call G_value_for_side_0 (hr.mono (by omega)) rfl T.m_value_for_side_0 T.F_value_for_side_0.kp T.b_value_for_side_0 .nil pass0 (pa_cons (pv 0) (pa_cons (pv 3) pa_nil))))))),?_⟩
  refine ⟨_,rfl,_,rfl,a,d,m,c,rfl,hpos,hb.2,c52,fun r H1 s1 hr1=>?_⟩
  refine ⟨_,rfl,r,d,behind d m c,0,rfl,hr1,?_⟩
  refine ⟨_,rfl,_,rfl,j,kn,r,d,behind d m c,_,kvs,rfl,hj.x s1.x,s1 _ _ hk,M,hr1,O,R.step O hh,by omega,?_,fun H2 kvs' b2 hk2 M2 l2=>?_⟩
  ·rw [show mheld d (behind d m c) = mheld d m - 1 by omega]
   exact hcap
  ·rw [show mheld d (behind d m c) = mheld d m - 1 by omega] at l2
   refine ⟨_,_,rfl,rfl,?_⟩
   have:=k H2 kvs' ((s1.but kn).trans b2) hk2 M2 l2
   unfold V0by at this
   rw [Int.natCast_add] at this
   exact this
theorem ok_value_for (T:Txt K mg A) {n:Nat} (G_value_with:∀ q,q + 1 = n → FnOk P w K mg base CX0 (2 * q + 7) A.f_value_with A.d_value_with ["valuing","position","card"] (sp_vw A q)):
  FnOk P w K mg base CX0 (2 * n + 6) A.f_value_for_side_0 A.d_value_for_side_0 ["valuing","position"] (sp_v0 A n):=by
 have G_key_of:=ok_key_of (P:=P) (w:=w) (base:=base) T
 have G_may_play:=ok_may_play (P:=P) (w:=w) (base:=base) T
 refine T.F_value_for_side_0.ok sc_value_for_side_0 (fun vs H Q E h=>?_) (fun cdv A' outer s H vs Q E hr h=>?_)
 ·obtain ⟨j,kn,a,d,m,p,kvs,rfl,_⟩:=h
  rfl
 ·obtain ⟨j,kn,a,d,m,p,kvs,rfl,hj,hk,M,hpos,O,R,hn,hcap,k⟩:=h
  obtain ⟨dd,dx,fs,hd,hp,l1,l2,l3,l4,l5,l6,l7⟩:=id hpos
  obtain ⟨jdx,jfs,j1,j3⟩:=id hj
  by_cases h0:mheld d m = 0
  ·have left0:=(left_zero O R).mpr h0
   refine ⟨_,pss_cons (ps_if (pt_cmpR op_eq (pe_fld (pv 1) rfl) pe_int (nomark _)) (pss_one (ps_ret pe_int)) pss_nil) pss_never,?_⟩
   refine ⟨_,rfl,a,_,dx,fs,_,rfl,hp,T.c_Position,T.n_Position_left,l2,rfl,_,rfl,?_⟩
   refine ifI (fun e=>?_) fun e=>absurd (by rw [left0]; rfl) e
   have:=k H kvs (fun b o e _=>e) hk M (Nat.le_add_right _ _)
   rw [V0_zero h0] at this
   exact this
  ·obtain ⟨q,eq⟩:∃ q,mheld d m = q + 1:=⟨mheld d m - 1,by omega⟩
   obtain ⟨n',rfl⟩:∃ n',n = n' + 1:=⟨n - 1,by omega⟩
   have G_value_with:=G_value_with n' rfl
   have left0:¬ m.left = 0:=fun z=>h0 ((left_zero O R).mp z)
   have hcapq:cap (mheld d m) = 1 + ((q + 4) / 4) * cap q:=by rw [eq]; rfl
   have vst:=R.V0_step O h0
   have lne:=R.may_ne O h0
   have llen:=mayq_len O R eq
   refine ⟨_,(pss_cons (ps_if (pt_cmpR op_eq (pe_fld (pv 1) rfl) pe_int (nomark _)) (pss_one (ps_ret pe_int)) pss_nil) (pss_cons (ps_set (i:=2) sc_value_for_side_0.nd rfl (by first | exact Or.inl rfl | exact Or.inr rfl) (pe_call G_key_of (hr.mono (by omega)) rfl T.m_key_of T.F_key_of.kp T.b_key_of .nil pass0 (pa_cons (pv 1) pa_nil))) (pss_cons (ps_if (pt_cmp (pc_dnotin (hu_of hr) (pv 2) (pe_fld (pv 0) rfl)) (by with_unfolding_all rfl)) (pss_cons (ps_setLc (i:=3) rfl sc_value_for_side_0.nd rfl rfl (sw_true rfl rfl rfl (by decide +kernel)) (pi_list (pe_call G_may_play (hr.mono (by omega)) rfl T.m_may_play T.F_may_play.kp T.b_may_play .nil pass0 (pa_cons (pv 1) pa_nil))) (blkOk_by (own:=[("card",4)]) (by show blkC ["valuing","position","key","tricks","card"] (defScope s_value_for_side_0) _ _ = true; decide +kernel)) (fun _ _ _ _ _=>(pg_name (i:=4) sc_value_for_side_0.nd rfl (Or.inl rfl))) (fun _ _ _ _ _=>pts_nil) (fun _ _ _ _ _=>(pe_call G_value_with (hr.mono (by omega)) rfl T.m_value_with T.F_value_with.kp T.b_value_with .nil pass0 (pa_cons (pv 0) (pa_cons (pv 1) (pa_cons (pv 4) pa_nil)))))) (pss_one (ps_dput (hu_of hr) (pe_fld (pv 0) rfl) (pv 2) (pe_ifExp (pt_cmpR op_eq (pe_op op_mod (pe_fld (pv 1) rfl) pe_int) pe_int (nomark _)) (pe_callB (cr_max rfl) (by rfl) T.z_max bt_max (pa_cons (pv 3) pa_nil)) (pe_callB (cr_min rfl) (by rfl) T.z_min bt_min (pa_cons (pv 3) pa_nil))) rfl))) pss_nil) (pss_one (ps_ret (pe_dget (hu_of hr) (pe_fld (pv 0) rfl) (pv 2) (fun _ _=>rfl))))))),?_⟩
   refine ⟨_,rfl,a,_,dx,fs,_,rfl,hp,T.c_Position,T.n_Position_left,l2,rfl,_,rfl,?_⟩
   refine ifI (fun e=>absurd (by omega) left0) fun e=>?_
   refine ⟨_,rfl,a,d,m,rfl,hpos,fun t H1 s1 ht=>?_⟩
   refine ⟨_,rfl,_,rfl,j,_,jdx,jfs,_,rfl,s1 _ _ j1,T.c_Valuing,T.n_Valuing_known,j3,kn,_,rfl,DGet.t (s1 _ _ hk) ht,_,rfl,?_⟩
   cases hv:valV kvs (keyL m) with
   | some v=>
    have ev:=M.get O R hv
    subst ev
    refine iteF ⟨_,rfl,j,_,jdx,jfs,_,rfl,s1 _ _ j1,T.c_Valuing,T.n_Valuing_known,j3,_,rfl,kn,_,rfl,(by rw [← hv]; exact DGet.t (s1 _ _ hk) ht),?_⟩
    exact k H1 kvs (s1.but kn) (s1 _ _ hk) M (Nat.le_add_right _ _)
   | none=>
    refine iteT ?_
    refine ⟨_,rfl,a,d,m,rfl,hpos.same s1,O.len,R.seat4,deal4 O,fun r H2 s2 hr2=>?_⟩
    refine ⟨r,rfl,⟨_,SqL.of hr2⟩,fun D hD=>?_⟩
    have s12:=s1.trans s2
    have hkr:r ≠ kn:=ne_of hr2 (s12 _ _ hk) (by intro z; cases z)
    have htk:t ≠ kn:=ne_of ht (s1 _ _ hk) (by intro z; cases z)
    have hDk:D ≠ kn:=fun z=>by rw [z,s12 _ _ hk] at hD; cases hD
    refine lc_list (K:=K) (a:=r) (xs:=nints (may d m)) (fun i H'=>∃ kvs3:List (List Key × V),But kn H2 H' ∧ H' kn = some (.dT kvs3) ∧ VMemo d kvs3 ∧ kvs3.length ≤ kvs.length + i * cap q ∧ H' D = some (.lst ((((may d m).take i).map fun c=>((V0by d m c:Nat):Int)).map V.int)))
     ⟨kvs,fun b o e _=>by rw [upd_ne (ne_of_none e hD)]; exact e,by rw [upd_ne (Ne.symm hDk)]; exact s12 _ _ hk,M,Nat.le_add_right _ _,upd_same⟩ (fun i H' _ ⟨_,b,_⟩=>SqL.of (b _ _ hr2 hkr)) (fun i x H' hi ⟨kvs3,b3,hk3,M3,len3,hD3⟩=>?_) (fun H3 ⟨kvs3,b3,hk3,M3,len3,hD3⟩=>?_)
    ·obtain ⟨c,hc,rfl⟩:=ints_at hi
     have hcm:=List.mem_of_getElem? hc
     have hil:i < (may d m).length:=(List.getElem?_eq_some_iff.mp hc).1
     have bx:=(s12.but kn).trans b3
     have hmul:(i + 1) * cap q ≤ ((q + 4) / 4) * cap q:=Nat.mul_le_mul_right _ (by omega)
     have hsucc:(i + 1) * cap q = i * cap q + cap q:=Nat.succ_mul _ _
     have hq1:mheld d m - 1 = q:=by omega
     refine ⟨rfl,_,rfl,_,rfl,_,rfl,j,kn,a,d,m,p,kvs3,c,rfl,hj.x (bx.x hk),hk3,M3,hpos.x (bx.x hk),O,R,hcm,by omega,?_,fun H4 kvs4 b4 hk4 M4 l4'=>?_⟩
     ·rw [hq1]
      omega
     ·rw [hq1] at l4'
      have hD4:=b4 _ _ hD3 hDk
      refine ⟨_,hD4,?_,kvs4,fun b o e nb=>?_,?_,M4,by omega,?_⟩
      ·rw [List.length_map,List.length_map,List.length_take]
       have:=may_len O R.seat4
       exact small1000 (by omega)
      ·rw [upd_ne (ne_of_none e hD)]
       exact b4 _ _ (b3 _ _ e nb) nb
      ·rw [upd_ne (Ne.symm hDk)]
       exact hk4
      ·rw [upd_same,take_snoc hc,List.map_append,List.map_append]
       rfl
    ·rw [ints_len] at len3
     rw [ints_len,List.take_length] at hD3
     have hmul:(may d m).length * cap q ≤ ((q + 4) / 4) * cap q:=Nat.mul_le_mul_right _ llen
     have hp3:=((s12.but kn).trans b3) _ _ hp (ne_of hp hk (by intro z; cases z))
     have j13:=((s12.but kn).trans b3) _ _ j1 (ne_of j1 hk (by intro z; cases z))
     have ht3:=b3 _ _ (s2 _ _ ht) htk
     have fin:∀ mx:Int,mx = ((V0 d m:Nat):Int) → Q (.int mx) (upd H3 kn (.dT (putK kvs3 (keyL m) (.int mx)))):=fun mx e=>by
      rw [e]
      refine k _ _ (fun b o e nb=>?_) upd_same (M3.put R) ?_
      ·rw [upd_ne nb]
       exact b3 _ _ (s12 _ _ e) nb
      ·have:=length_putK kvs3 (keyL m) (.int ((V0 d m:Nat):Int))
       omega
     have hsz:kvs3.length < sizeLine:=by
      unfold lim at hcap
      rw [sizeLine_eq]
      omega
     refine ⟨_,rfl,a,_,dx,fs,_,rfl,hp3,T.c_Position,T.n_Position_seat,l3,_,_,rfl,rfl,(by show (0:Int) < 2; decide),rfl,_,rfl,?_⟩
     have ne0:0 < ((may d m).map fun c=>((V0by d m c:Nat):Int)).length:=by
      rw [List.length_map]
      exact List.length_pos_iff.mpr lne
     have hD3k:kn ≠ D:=Ne.symm hDk
     have j14:∀ o,upd H3 kn o j = some (.ins A.c_Valuing jdx jfs):=fun o=>by rw [upd_ne (ne_of j13 hk3 (by intro z; cases z))]; exact j13
     have t14:∀ o,upd H3 kn o t = some (.tup ((keyL m).map kV)):=fun o=>by rw [upd_ne (ne_of ht3 hk3 (by intro z; cases z))]; exact ht3
     have got:∀ v:V,valV (putK kvs3 (keyL m) v) (keyL m) = some v:=fun v=>by rw [valV_put,if_pos rfl]
     refine ifI (fun e=>?_) fun e=>?_
     ·refine ⟨_,rfl,D,_,rfl,SqL.of hD3,ne0,fun mx hm hy=>?_⟩
      have em:mx = ((V0 d m:Nat):Int):=by
       rw [vst,if_pos (by omega)]
       exact max_is hm hy
      refine ⟨_,rfl,j,_,jdx,jfs,_,rfl,j13,T.c_Valuing,T.n_Valuing_known,j3,_,rfl,kn,_,rfl,DPut.t hk3 ht3 hsz,?_⟩
      refine ⟨_,rfl,j,_,jdx,jfs,_,rfl,j14 _,T.c_Valuing,T.n_Valuing_known,j3,_,rfl,kn,_,rfl,(by rw [← got (.int mx)]; exact DGet.t upd_same (t14 _)),fin mx em⟩
     ·refine ⟨_,rfl,D,_,rfl,SqL.of hD3,ne0,fun mx hm hy=>?_⟩
      have em:mx = ((V0 d m:Nat):Int):=by
       rw [vst,if_neg (by omega)]
       exact min_is hm hy
      refine ⟨_,rfl,j,_,jdx,jfs,_,rfl,j13,T.c_Valuing,T.n_Valuing_known,j3,_,rfl,kn,_,rfl,DPut.t hk3 ht3 hsz,?_⟩
      refine ⟨_,rfl,j,_,jdx,jfs,_,rfl,j14 _,T.c_Valuing,T.n_Valuing_known,j3,_,rfl,kn,_,rfl,(by rw [← got (.int mx)]; exact DGet.t upd_same (t14 _)),fin mx em⟩
theorem ok_vv (T:Txt K mg A):∀ n:Nat,FnOk P w K mg base CX0 (2 * n + 6) A.f_value_for_side_0 A.d_value_for_side_0 ["valuing","position"] (sp_v0 A n)
 | 0=>ok_value_for T fun q h=>absurd h (by omega)
 | n + 1=>ok_value_for T fun q h=>by
  have e:q = n:=by omega
  subst e
  exact ok_value_with T (ok_vv T q)
def sp_value (A:Adr):Sp:=fun vs H Q _=>∃ (j kn a:Addr) (d:Deal) (m:MP) (p:Vbbraf.Pos) (kvs:List (List Key × V)) (side:Nat),vs = [.ref j,.ref a,.int (side:Int)] ∧ side < 2 ∧ VaAt A H j kn ∧ H kn = some (.dT kvs) ∧ VMemo d kvs ∧ PosAt A H a d m ∧ DealOk d ∧ Rel d m p ∧
 kvs.length + cap (mheld d m) ≤ lim ∧ ∀ (H':Hp) (kvs':List (List Key × V)),But kn H H' → H' kn = some (.dT kvs') → VMemo d kvs' → kvs'.length ≤ kvs.length + cap (mheld d m) → Q (.int ((VS side d m:Nat):Int)) H'
theorem ok_value (T:Txt K mg A):FnOk P w K mg base CX0 39 A.f_value A.d_value ["valuing","position","side"] (sp_value A):=by
 have G_value_for_side_0:=ok_vv (P:=P) (w:=w) (base:=base) T 16
 have G_tricks_of_rest:=ok_tricks_of_rest (P:=P) (w:=w) (base:=base) T
 refine T.F_value.ok sc_value (fun vs H Q E h=>?_) (fun cdv A' outer s H vs Q E hr h=>?_)
 ·obtain ⟨j,kn,a,d,m,p,kvs,side,rfl,_⟩:=h
  rfl
 ·obtain ⟨j,kn,a,d,m,p,kvs,side,rfl,hs2,hj,hk,M,hpos,O,R,hcap,k⟩:=h
  refine ⟨_,(pss_cons (ps_set (i:=3) sc_value.nd rfl (by first | exact Or.inl rfl | exact Or.inr rfl) (pe_call G_value_for_side_0 (hr.mono (by decide)) rfl T.m_value_for_side_0 T.F_value_for_side_0.kp T.b_value_for_side_0 .nil pass0 (pa_cons (pv 0) (pa_cons (pv 1) pa_nil)))) (pss_one (ps_ret (pe_ifExp (pt_cmpR op_eq (pv 2) pe_int (nomark _)) (pv 3) (pe_op op_sub (pe_call G_tricks_of_rest (hr.mono (by decide)) rfl T.m_tricks_of_rest T.F_tricks_of_rest.kp T.b_tricks_of_rest .nil pass0 (pa_cons (pv 1) pa_nil)) (pv 3)))))),?_⟩
  refine ⟨_,rfl,_,rfl,j,kn,a,d,m,p,kvs,rfl,hj,hk,M,hpos,O,R,R.held16 O,hcap,fun H1 kvs1 b1 hk1 M1 l1=>?_⟩
  refine ⟨_,rfl,rfl,_,rfl,?_⟩
  refine ifI (fun e=>?_) fun e=>?_
  ·refine ⟨_,rfl,?_⟩
   have:=k H1 kvs1 b1 hk1 M1 l1
   unfold VS at this
   rw [if_pos (by omega)] at this
   exact this
  ·refine ⟨_,rfl,a,d,m,p,rfl,hpos.x (b1.x hk),O,R,fun H2 s2=>?_⟩
   refine ⟨_,rfl,_,_,rfl,rfl,?_⟩
   have:=k H2 kvs1 (fun b o e n=>s2 _ _ (b1 _ _ e n)) (s2 _ _ hk1) M1 l1
   unfold VS at this
   rw [if_neg (by omega),Int.natCast_sub (R.V0_le O)] at this
   exact this
theorem cut_take (l:List Nat) {n:Nat}:cutV (nints l) none (some ((n:Nat):Int)) = nints (l.take n):=by
 unfold cutV nints
 rw [List.length_map]
 show ((l.map _).drop 0).take (HT.sIx l.length l.length (some (n:Int)) - 0) = _
 rw [List.drop_zero,← List.map_take,Nat.sub_zero]
 have:HT.sIx l.length l.length (some (n:Int)) = min n l.length:=by
  show (if (n:Int) < 0 then ((n:Int) + (l.length:Int)).toNat else min (n:Int).toNat l.length) = _
  rw [if_neg (by omega),Int.toNat_natCast]
 rw [this]
 congr 1
 by_cases h:n ≤ l.length
 ·rw [Nat.min_eq_left h]
 ·rw [Nat.min_eq_right (by omega),List.take_length,List.take_of_length_le (by omega)]
def sp_own_cards (A:Adr):Sp:=fun vs H Q _=>∃ (a cl:Addr) (d:Deal) (m:MP) (s:Nat) (cs:List Nat),vs = [.ref a,.int (s:Int),.ref cl] ∧ PosAt A H a d m ∧ DealOk d ∧ s < 4 ∧ H cl = some (.lst (nints cs)) ∧ cs.length ≤ 100 ∧
 ∀ (r:Addr) (H':Hp),Same H H' → H' r = some (.tup (nints (ownC (hand d m s) cs))) → Q (.ref r) H'
theorem ok_own_cards (T:Txt K mg A):FnOk P w K mg base CX0 2 A.f_own_cards A.d_own_cards ["position","seat","cards"] (sp_own_cards A):=by
 have G_hand_of:=ok_hand_of (P:=P) (w:=w) (base:=base) T
 refine T.F_own_cards.ok sc_own_cards (fun vs H Q E h=>?_) (fun cdv A' outer s H vs Q E hr h=>?_)
 ·obtain ⟨a,cl,d,m,s,cs,rfl,_⟩:=h
  rfl
 ·obtain ⟨a,cl,d,m,s,cs,rfl,hpos,O,s4,hcl,hlen,k⟩:=h
  refine ⟨_,(pss_cons (ps_set (i:=3) sc_own_cards.nd rfl (by first | exact Or.inl rfl | exact Or.inr rfl) (pe_call G_hand_of (hr.mono (by decide)) rfl T.m_hand_of T.F_hand_of.kp T.b_hand_of .nil pass0 (pa_cons (pv 0) (pa_cons (pv 1) pa_nil)))) (pss_cons (ps_set (i:=4) sc_own_cards.nd rfl (by first | exact Or.inl rfl | exact Or.inr rfl) (pe_lst pa_nil)) (pss_cons (ps_for PassesOwn.never rfl (pi_list (pv 2)) (pg_name (i:=5) sc_own_cards.nd rfl (Or.inl rfl)) (pss_one (ps_if (PW.pt (pw_and (pt_cmpR op_in_seq (pv 5) (pv 3) (by with_unfolding_all rfl)) (pw_and1 (pt_cmpR op_notIn_seq (pv 5) (pv 4) (by with_unfolding_all rfl))))) (pss_one (ps_expr (pe_bm PySem.F.plainAttrs_list PySem.F.slot_list_append PySem.F.type_list_append mt_append (pv 4) (pa_cons (pv 5) pa_nil)))) pss_nil))) (pss_one (ps_ret (pe_callTy call_tuple_of (by rfl) T.z_tuple bt_tuple (pa_cons (pv 4) pa_nil))))))),?_⟩
  refine ⟨_,rfl,_,rfl,a,d,m,s,rfl,hpos,O.len,s4,deal4 O,fun r H1 s1 hr1=>?_⟩
  refine ⟨Nat.zero_le _,fun D hD=>?_⟩
  have hrD:r ≠ D:=ne_of_none hr1 hD
  have hcD:cl ≠ D:=ne_of_none (s1 _ _ hcl) hD
  refine ⟨_,rfl,cl,rfl,⟨_,SqL.of (same_new hD _ _ _ (s1 _ _ hcl))⟩,?_⟩
  refine for_list (K:=K) (a:=cl) (xs:=nints cs) (fun i σ H'=>(∃ v,σ = [some (.ref a),some (.int (s:Int)),some (.ref cl),some (.ref r),some (.ref D),v]) ∧ Same H1 H' ∧ H' D = some (.lst (nints (ownC (hand d m s) (cs.take i))))) ⟨⟨none,rfl⟩,same_new hD _,upd_same⟩ (fun i σ H' _ ⟨_,sm,_⟩=>SqL.of (sm _ _ (s1 _ _ hcl))) ?_ ?_
  ·rintro i x σ H' hi ⟨⟨v,rfl⟩,sm,hd⟩
   obtain ⟨c,hc,rfl⟩:=ints_at hi
   have sn:=ownC_snoc (hand d m s) (cs.take i) c
   refine ⟨_,rfl,_,rfl,r,_,rfl,.inl (SqL.of (sm _ _ hr1)),rfl,ints_flat _,_,rfl,?_⟩
   rw [if_neg (by decide:¬ false = true),inV_ints]
   cases h1:(hand d m s).contains c with
   | false=>
    refine iteF (iteF ⟨⟨_,rfl⟩,sm,?_⟩)
    rw [take_snoc hc,sn,if_neg (by rw [h1]; simp)]
    exact hd
   | true=>
    refine iteT ⟨_,rfl,_,rfl,D,_,rfl,.inl (SqL.of hd),rfl,ints_flat _,_,rfl,?_⟩
    rw [if_pos rfl,inV_ints]
    cases h2:(ownC (hand d m s) (cs.take i)).contains c with
    | true=>
     refine iteF ⟨⟨_,rfl⟩,sm,?_⟩
     rw [take_snoc hc,sn,if_neg (by rw [h2]; simp)]
     exact hd
    | false=>
     refine iteT ⟨_,rfl,.inl ⟨rfl,_,SqL.of hd⟩,_,rfl,D,_,_,rfl,rfl,hd,?_,⟨_,rfl⟩,fun b o e=>?_,?_⟩
     ·rw [ints_len]
      have:=ownC_len (hand d m s) (cs.take i)
      have:=hand_len m O.len s4 (deal4 O)
      exact small1000 (by omega)
     ·rw [upd_ne (ne_of_none e hD)]
      exact sm _ _ e
     ·rw [upd_same,take_snoc hc,sn,if_pos ⟨h1,h2⟩,ints_snoc]
  ·rintro σ H' ⟨⟨v,rfl⟩,sm,hd⟩
   rw [ints_len,List.take_length] at hd
   refine ⟨_,rfl,D,_,rfl,.inl ⟨SqL.of hd,fun t ht=>?_⟩⟩
   exact k t _ ((s1.trans sm).trans (same_new ht _)) upd_same
def rowK (r:List Nat):List Key:=r.map fun (c:Nat)=>Sum.inl (c:Int)
theorem rowK_kV (r:List Nat):(rowK r).map kV = nints r:=by
 unfold rowK nints
 rw [List.map_map]
 rfl
theorem rowK_inj:∀ {r r':List Nat},rowK r = rowK r' → r = r'
 | [],[],_=>rfl
 | [],_ :: _,h=>by cases h
 | _ :: _,[],h=>by cases h
 | a :: r,b :: r',h=>by
  have h:(Sum.inl (a:Int):Key) :: rowK r = Sum.inl (b:Int) :: rowK r':=h
  injection h with h1 h2
  injection h1 with h1
  rw [rowK_inj h2,show a = b by omega]
def WoAt (A:Adr) (H:Hp) (wo kn a:Addr) (side way:Nat):Prop:=∃ (dx:Addr) (fs:List (Str × V)),H wo = some (.ins A.c_Wording dx fs) ∧ fs.lookup ("position":Str) = some (.ref a) ∧ fs.lookup ("side":Str) = some (.int (side:Int)) ∧ fs.lookup ("way":Str) = some (.int (way:Int)) ∧ fs.lookup ("known":Str) = some (.ref kn)
theorem WoAt.x {A:Adr} {H H':Hp} {wo kn a:Addr} {side way:Nat} (h:WoAt A H wo kn a side way) (s:SameX H H'):WoAt A H' wo kn a side way:=by
 obtain ⟨dx,fs,h1,r⟩:=h
 exact ⟨dx,fs,s _ _ h1 (fun _ z=>nomatch z),r⟩
theorem WoAt.y {A:Adr} {H H':Hp} {wo kn a:Addr} {side way:Nat} (h:WoAt A H wo kn a side way) (s:SameY H H'):WoAt A H' wo kn a side way:=by
 obtain ⟨dx,fs,h1,r⟩:=h
 exact ⟨dx,fs,s _ _ h1 (fun _ z=>nomatch z) (fun _ z=>nomatch z),r⟩
def RMemo (side way:Nat) (d:Deal) (m:MP) (kvs:List (List Key × V)):Prop:=∀ k v,valV kvs k = some v → ∃ r:List Nat,k = rowK r ∧ v = .int ((J ⟨side,way,r⟩ d m:Nat):Int)
theorem RMemo.nil (side way:Nat) (d:Deal) (m:MP):RMemo side way d m []:=fun k v h=>by
 rw [valV_nil] at h
 cases h
theorem RMemo.put {side way:Nat} {d:Deal} {m:MP} {kvs:List (List Key × V)} (M:RMemo side way d m kvs) (r:List Nat):RMemo side way d m (putK kvs (rowK r) (.int ((J ⟨side,way,r⟩ d m:Nat):Int))):=fun k v h=>by
 rw [valV_put] at h
 by_cases e:k = rowK r
 ·rw [if_pos e] at h
  cases h
  exact ⟨r,e,rfl⟩
 ·rw [if_neg e] at h
  exact M k v h
def sp_jr (A:Adr):Sp:=fun vs H Q _=>∃ (wo kn a cl:Addr) (side way:Nat) (d:Deal) (m:MP) (p:Vbbraf.Pos) (kvs:List (List Key × V)) (cs:List Nat),vs = [.ref wo,.ref cl] ∧ WoAt A H wo kn a side way ∧ H kn = some (.dT kvs) ∧ RMemo side way d m kvs ∧ PosAt A H a d m ∧ DealOk d ∧ Rel d m p ∧ side < 2 ∧
 H cl = some (.lst (nints cs)) ∧ cs.length ≤ 100 ∧ kvs.length ≤ 1000 ∧ ∀ (H':Hp) (kvs':List (List Key × V)),But kn H H' → H' kn = some (.dT kvs') → RMemo side way d m kvs' → kvs'.length ≤ kvs.length + 1 → Q (.int ((J ⟨side,way,cs⟩ d m:Nat):Int)) H'
theorem ok_judged_with_row (T:Txt K mg A):FnOk P w K mg base CX0 39 A.f_judged_with_row A.d_judged_with_row ["wording","cards"] (sp_jr A):=by
 have G_own_cards:=ok_own_cards (P:=P) (w:=w) (base:=base) T
 have G_judged:=ok_jj (P:=P) (w:=w) (base:=base) T 16
 have G_Judging_init:=ok_Judging_init (P:=P) (w:=w) (base:=base) T
 have G_Statement_init:=ok_Statement_init (P:=P) (w:=w) (base:=base) T
 refine T.F_judged_with_row.ok sc_judged_with_row (fun vs H Q E h=>?_) (fun cdv A' outer s H vs Q E hr h=>?_)
 ·obtain ⟨wo,kn,a,cl,side,way,d,m,p,kvs,cs,rfl,_⟩:=h
  rfl
 ·obtain ⟨wo,kn,a,cl,side,way,d,m,p,kvs,cs,rfl,hw,hk,M,hpos,O,R,hs2,hcl,hlen,hkl,k⟩:=h
  obtain ⟨wdx,wfs,w1,w2,w3,w4,w5⟩:=id hw
  refine ⟨_,(pss_cons (ps_set (i:=2) sc_judged_with_row.nd rfl (by first | exact Or.inl rfl | exact Or.inr rfl) (pe_fld (pv 0) rfl)) (pss_cons (ps_set (i:=3) sc_judged_with_row.nd rfl (by first | exact Or.inl rfl | exact Or.inr rfl) (pe_fld (pv 0) rfl)) (pss_cons (ps_set (i:=4) sc_judged_with_row.nd rfl (by first | exact Or.inl rfl | exact Or.inr rfl) (pe_op op_catU (pe_call G_own_cards (hr.mono (by decide)) rfl T.m_own_cards T.F_own_cards.kp T.b_own_cards .nil pass0 (pa_cons (pv 2) (pa_cons (pv 3) (pa_cons (pv 1) pa_nil)))) (pe_call G_own_cards (hr.mono (by decide)) rfl T.m_own_cards T.F_own_cards.kp T.b_own_cards .nil pass0 (pa_cons (pv 2) (pa_cons (pe_op op_add (pv 3) pe_int) (pa_cons (pv 1) pa_nil)))))) (pss_cons (ps_if (pt_cmp (pc_dnotin (hu_of hr) (pv 4) (pe_fld (pv 0) rfl)) (by with_unfolding_all rfl)) (pss_one (ps_dput (hu_of hr) (pe_fld (pv 0) rfl) (pv 4) (pe_call G_judged (hr.mono (by decide)) rfl T.m_judged T.F_judged.kp T.b_judged .nil pass0 (pa_cons (pe_make T.M_Judging G_Judging_init (hr.mono (by decide)) rfl T.m_Judging T.b_Judging_init .nil pass0 (pa_cons (pe_make T.M_Statement G_Statement_init (hr.mono (by decide)) rfl T.m_Statement T.b_Statement_init .nil pass0 (pa_cons (pv 3) (pa_cons (pe_fld (pv 0) rfl) (pa_cons (pe_callTy call_list_of (by rfl) T.z_list bt_list (pa_cons (pv 4) pa_nil)) pa_nil)))) pa_nil)) (pa_cons (pv 2) pa_nil))) rfl)) pss_nil) (pss_one (ps_ret (pe_dget (hu_of hr) (pe_fld (pv 0) rfl) (pv 4) (fun _ _=>rfl)))))))),?_⟩
  refine ⟨_,rfl,wo,_,wdx,wfs,_,rfl,w1,T.c_Wording,T.n_Wording_position,w2,?_⟩
  refine ⟨_,rfl,wo,_,wdx,wfs,_,rfl,w1,T.c_Wording,T.n_Wording_side,w3,?_⟩
  refine ⟨_,rfl,_,rfl,_,rfl,a,cl,d,m,side,cs,rfl,hpos,O,by omega,hcl,hlen,fun r1 H1 s1 h1=>?_⟩
  refine ⟨_,rfl,_,rfl,_,_,rfl,rfl,_,rfl,a,cl,d,m,side + 2,cs,rfl,hpos.same s1,O,by omega,s1 _ _ hcl,hlen,fun r2 H2 s2 h2=>?_⟩
  have hl1:=ownC_len (hand d m side) cs
  have hl2:=ownC_len (hand d m (side + 2)) cs
  have hh1:=hand_len m O.len (show side < 4 by omega) (deal4 O)
  have hh2:=hand_len m O.len (show side + 2 < 4 by omega) (deal4 O)
  refine ⟨r1,r2,_,_,rfl,rfl,s2 _ _ h1,h2,by rw [ints_len,ints_len]; omega,fun t H3 s3 h3=>?_⟩
  have ht:H3 t = some (.tup ((rowK (rowC d m side cs)).map kV)):=by
   rw [h3,rowK_kV]
   unfold rowC nints
   rw [List.map_append]
  have s03:=(s1.trans s2).trans s3
  have jr:=R.J_row O hs2 way cs
  refine ⟨_,rfl,_,rfl,wo,_,wdx,wfs,_,rfl,s03 _ _ w1,T.c_Wording,T.n_Wording_known,w5,kn,_,rfl,DGet.t (s03 _ _ hk) ht,_,rfl,?_⟩
  cases hv:valV kvs (rowK (rowC d m side cs)) with
  | some v=>
   obtain ⟨r',er,rfl⟩:=M _ _ hv
   have er:=rowK_inj er
   subst er
   refine iteF ⟨_,rfl,wo,_,wdx,wfs,_,rfl,s03 _ _ w1,T.c_Wording,T.n_Wording_known,w5,_,rfl,kn,_,rfl,(by rw [← hv]; exact DGet.t (s03 _ _ hk) ht),?_⟩
   rw [jr]
   exact k H3 kvs (s03.but kn) (s03 _ _ hk) M (Nat.le_succ _)
  | none=>
   refine iteT ?_
   refine ⟨_,rfl,_,rfl,wo,_,wdx,wfs,_,rfl,s03 _ _ w1,T.c_Wording,T.n_Wording_way,w4,_,rfl,t,_,rfl,.inr (SqT.of ht),fun l hl=>?_⟩
   have hll:upd H3 l (.lst ((rowK (rowC d m side cs)).map kV)) l = some (.lst (nints (rowC d m side cs))):=by rw [upd_same,rowK_kV]
   intro sx sdx nsx nsdx nes
   refine ⟨sx,sdx,_,_,_,rfl,upd_same,fun H4 fs g1 a1 a2 a3 k1=>⟨rfl,?_⟩⟩
   intro j jdx nj njdx nej
   refine ⟨j,jdx,_,rfl,upd_same,fun H5 gs jn g2 b1 b2 nkj nk hjn k2=>⟨rfl,?_⟩⟩
   obtain ⟨sm,n0,hj⟩:=made_ju (A:=A) (wd:=⟨side,way,rowC d m side cs⟩) nsx nsdx hll g1 a1 a2 a3 k1 nj njdx g2 b1 b2 nk hjn k2
   have s05:Same H3 H5:=(same_new hl _).trans sm
   have n05:H3 jn = none:=(same_new hl _).free n0
   refine ⟨_,rfl,j,jn,a,⟨side,way,rowC d m side cs⟩,d,m,p,[],rfl,hj,hjn,Memo.nil _ _,hpos.same (s03.trans s05),O,R,R.held16 O,?_,fun H6 kvs6 b6 _ _ _=>?_⟩
   ·have:=cap_le (R.held16 O)
    unfold lim
    simp
    omega
   ·have s36:Same H3 H6:=But.new s05 n05 b6
    have s06:=s03.trans s36
    have w16:=s06 _ _ w1
    have hk6:=s06 _ _ hk
    have ht6:=s36 _ _ ht
    have nwk:wo ≠ kn:=ne_of w16 hk6 (by intro z; cases z)
    have ntk:t ≠ kn:=ne_of ht6 hk6 (by intro z; cases z)
    refine ⟨_,rfl,wo,_,wdx,wfs,_,rfl,w16,T.c_Wording,T.n_Wording_known,w5,_,rfl,kn,_,rfl,DPut.t hk6 ht6 (small1000 hkl),?_⟩
    have got:valV (putK kvs (rowK (rowC d m side cs)) (.int ((J ⟨side,way,rowC d m side cs⟩ d m:Nat):Int))) (rowK (rowC d m side cs)) = some (.int ((J ⟨side,way,rowC d m side cs⟩ d m:Nat):Int)):=by rw [valV_put,if_pos rfl]
    refine ⟨_,rfl,wo,_,wdx,wfs,_,rfl,(upd_ne nwk).trans w16,T.c_Wording,T.n_Wording_known,w5,_,rfl,kn,_,rfl,(by rw [← got]; exact DGet.t upd_same ((upd_ne ntk).trans ht6)),?_⟩
    have fin:=k (upd H6 kn (.dT (putK kvs (rowK (rowC d m side cs)) (.int ((J ⟨side,way,rowC d m side cs⟩ d m:Nat):Int))))) _ (fun b o e n=>by rw [upd_ne n]; exact s06 _ _ e) upd_same (M.put _) (length_putK _ _ _)
    rw [← jr] at fin
    exact fin
def needed (side way:Nat) (d:Deal) (m:MP) (cs:List Nat) (k:Nat):Option Nat:=(List.range (cs.length + 1)).find? fun n=>decide (k ≤ J ⟨side,way,cs.take n⟩ d m)
theorem range_snoc_find {f:Nat → Bool} {n:Nat} (h:(List.range n).find? f = none):(List.range (n + 1)).find? f = if f n = true then some n else none:=by
 rw [List.range_succ,List.find?_append,h,List.find?_cons]
 cases f n <;> rfl
theorem range_find_more {f:Nat → Bool} {n i:Nat} (h:(List.range i).find? f = none) (hf:f i = true):∀ k,(List.range (i + 1 + k)).find? f = some i
 | 0=>by
  rw [Nat.add_zero,range_snoc_find h,if_pos hf]
 | k + 1=>by
  rw [← Nat.add_assoc,List.range_succ,List.find?_append,range_find_more (n:=n) h hf k]
  rfl
def sp_needed (A:Adr):Sp:=fun vs H Q _=>∃ (wo kn a cl:Addr) (side way:Nat) (d:Deal) (m:MP) (p:Vbbraf.Pos) (kvs:List (List Key × V)) (cs:List Nat) (k:Nat),vs = [.ref wo,.ref cl,.int (k:Int)] ∧ WoAt A H wo kn a side way ∧ H kn = some (.dT kvs) ∧ RMemo side way d m kvs ∧ PosAt A H a d m ∧ DealOk d ∧ Rel d m p ∧ side < 2 ∧
 H cl = some (.lst (nints cs)) ∧ cs.length ≤ 100 ∧ kvs.length ≤ 100 ∧ ∀ H':Hp,But kn H H' → (∀ n,needed side way d m cs k = some n → Q (.int ((n:Nat):Int)) H') ∧ (needed side way d m cs k = none → Q .non H')
theorem ok_cards_needed (T:Txt K mg A):FnOk P w K mg base CX0 40 A.f_cards_needed A.d_cards_needed ["wording","cards","tricks"] (sp_needed A):=by
 have G_judged_with_row:=ok_judged_with_row (P:=P) (w:=w) (base:=base) T
 refine T.F_cards_needed.ok sc_cards_needed (fun vs H Q E h=>?_) (fun cdv A' outer s H vs Q E hr h=>?_)
 ·obtain ⟨wo,kn,a,cl,side,way,d,m,p,kvs,cs,k,rfl,_⟩:=h
  rfl
 ·obtain ⟨wo,kn,a,cl,side,way,d,m,p,kvs,cs,kk,rfl,hw,hk,M,hpos,O,R,hs2,hcl,hlen,hkl,k⟩:=h
  have hck:cl ≠ kn:=ne_of hcl hk (by intro z; cases z)
  refine ⟨_,(pss_cons (ps_for PassesOwn.never rfl (pi_range1 rfl T.z_range (pa_cons (pe_op op_add (pe_callB call_len_seq (by rfl) T.z_len bt_len (pa_cons (pv 1) pa_nil)) pe_int) pa_nil)) (pg_name (i:=3) sc_cards_needed.nd rfl (Or.inl rfl)) (pss_one (ps_if (pt_cmpR op_ge (pe_call G_judged_with_row (hr.mono (by decide)) rfl T.m_judged_with_row T.F_judged_with_row.kp T.b_judged_with_row .nil pass0 (pa_cons (pv 0) (pa_cons (pe_slice sl_list (pv 1) po_none (po_some (pv 3))) pa_nil))) (pv 2) (nomark _)) (pss_one (ps_ret (pv 3))) pss_nil))) (pss_one (ps_ret pe_non))),?_⟩
  refine ⟨_,rfl,cl,_,rfl,.inl (SqL.of hcl),_,_,rfl,rfl,_,rfl,by rw [ints_len]; omega,by rw [ints_len]; omega,?_⟩
  have en:(((nints cs).length:Nat):Int) + 1 = ((cs.length + 1:Nat):Int):=by rw [ints_len]; omega
  refine for_range (lo:=0) (n:=((((nints cs).length:Nat):Int) + 1).toNat) (fun i σ H'=>i ≤ cs.length + 1 ∧ (∃ v,σ = [some (.ref wo),some (.ref cl),some (.int (kk:Int)),v]) ∧ ∃ kvs':List (List Key × V),But kn H H' ∧ H' kn = some (.dT kvs') ∧ RMemo side way d m kvs' ∧ kvs'.length ≤ kvs.length + i ∧ (List.range i).find? (fun n=>decide (kk ≤ J ⟨side,way,cs.take n⟩ d m)) = none) ⟨Nat.zero_le _,⟨none,rfl⟩,kvs,fun _ _ e _=>e,hk,M,Nat.le_refl _,rfl⟩ ?_ ?_
  ·rintro i σ H' hi ⟨hi2,⟨v,rfl⟩,kvs',b',hk',M',l',fn⟩
   have hi3:i < cs.length + 1:=by rw [en] at hi; exact hi
   have hx:=b'.x hk
   refine ⟨_,rfl,_,rfl,_,rfl,_,rfl,cl,_,rfl,SqL.of (b' _ _ hcl hck),fun q hq=>?_⟩
   have sq:=same_new hq (.lst (cutV (nints cs) none (some (0 + (i:Int)))))
   have ecut:cutV (nints cs) none (some (0 + (i:Int))) = nints (cs.take i):=by rw [Int.zero_add]; exact cut_take cs
   have hqq:upd H' q (.lst (cutV (nints cs) none (some (0 + (i:Int))))) q = some (.lst (nints (cs.take i))):=by rw [upd_same,ecut]
   refine ⟨wo,kn,a,q,side,way,d,m,p,kvs',cs.take i,rfl,(hw.x hx).x sq.x,sq _ _ hk',M',(hpos.x hx).same sq,O,R,hs2,hqq,by rw [List.length_take]; omega,by omega,fun H2 kvs2 b2 hk2 M2 l2=>?_⟩
   refine ⟨_,rfl,_,_,rfl,rfl,_,rfl,?_⟩
   have b02:But kn H H2:=fun b o e n=>b2 _ _ (sq _ _ (b' _ _ e n)) n
   refine ifD (fun ge=>?_) fun nge=>?_
   ·refine ⟨_,rfl,?_⟩
    have hf:(fun n=>decide (kk ≤ J ⟨side,way,cs.take n⟩ d m)) i = true:=by
     show decide (kk ≤ J ⟨side,way,cs.take i⟩ d m) = true
     exact decide_eq_true (by omega)
    have e:=range_find_more (n:=0) fn hf (cs.length + 1 - (i + 1))
    rw [show i + 1 + (cs.length + 1 - (i + 1)) = cs.length + 1 by omega] at e
    have:=(k H2 b02).1 i e
    rw [Int.zero_add]
    exact this
   ·refine ⟨by omega,⟨_,rfl⟩,kvs2,b02,hk2,M2,by omega,?_⟩
    rw [range_snoc_find fn,if_neg (by rw [decide_eq_true_iff]; omega)]
  ·rintro σ H' ⟨hi2,⟨v,rfl⟩,kvs',b',hk',M',l',fn⟩
   rw [en] at fn
   exact (k H' b').2 fn
def ListsAt (H:Hp) (as:List Addr) (L:List (List Nat)):Prop:=as.length = L.length ∧ ∀ (i:Nat) (l:List Nat),L[i]? = some l → ∃ b,as[i]? = some b ∧ H b = some (.lst (nints l))
theorem ListsAt.same {H H':Hp} {as:List Addr} {L:List (List Nat)} (h:ListsAt H as L) (s:Same H H'):ListsAt H' as L:=⟨h.1,fun i l e=>let ⟨b,e1,e2⟩:=h.2 i l e; ⟨b,e1,s _ _ e2⟩⟩
theorem ListsAt.append {H:Hp} {as bs:List Addr} {L M:List (List Nat)} (h:ListsAt H as L) (h':ListsAt H bs M):ListsAt H (as ++ bs) (L ++ M):=by
 refine ⟨by rw [List.length_append,List.length_append,h.1,h'.1],fun i l e=>?_⟩
 by_cases q:i < L.length
 ·rw [List.getElem?_append_left q] at e
  obtain ⟨b,e1,e2⟩:=h.2 i l e
  exact ⟨b,by rw [List.getElem?_append_left (by rw [h.1]; exact q)]; exact e1,e2⟩
 ·rw [List.getElem?_append_right (by omega)] at e
  obtain ⟨b,e1,e2⟩:=h'.2 _ l e
  exact ⟨b,by rw [List.getElem?_append_right (by rw [h.1]; omega),h.1]; exact e1,e2⟩
theorem ListsAt.one {H:Hp} {b:Addr} {l:List Nat} (h:H b = some (.lst (nints l))):ListsAt H [b] [l]:=⟨rfl,fun i x e=>by
 cases i with
 | zero=>
  have:l = x:=by simpa using e
  subst this
  exact ⟨b,rfl,h⟩
 | succ i=>simp at e⟩
theorem ListsAt.nil {H:Hp}:ListsAt H [] []:=⟨rfl,fun i l e=>by simp at e⟩
def sp_orders_of:Sp:=fun vs H Q _=>∃ (cl:Addr) (cs:List Nat),vs = [.ref cl] ∧ H cl = some (.lst (nints cs)) ∧ cs.Nodup ∧ cs.length ≤ 4 ∧ ∀ (r:Addr) (as:List Addr) (H':Hp),Same H H' → H' r = some (.lst (as.map V.ref)) → ListsAt H' as (Vbbrag.orders cs.length (Vbbraf.sorted cs)) → Q (.ref r) H'
theorem nints_ints (l:List Nat):nints l = (l.map fun (c:Nat)=>(c:Int)).map V.int:=by
 unfold nints
 rw [List.map_map]
 rfl
theorem sorted_ints_is {l:List Nat} {ns:List Int} (hp:ns.Perm (l.map fun (c:Nat)=>(c:Int))) (hs:ns.Pairwise (· ≤ ·)):ns = (Vbbraf.sorted l).map fun (c:Nat)=>(c:Int):=by
 have e:ns = (ns.map Int.toNat).map fun (c:Nat)=>(c:Int):=by
  rw [List.map_map]
  conv=>lhs; rw [← List.map_id ns]
  refine List.map_congr_left fun x hx=>?_
  obtain ⟨c,_,rfl⟩:=List.mem_map.mp (hp.mem_iff.mp hx)
  show _ = (((c:Int).toNat:Nat):Int)
  rw [Int.toNat_natCast]
  rfl
 rw [e]
 congr 1
 refine sorted_is ?_ ?_
 ·have:=hp.map Int.toNat
  rw [List.map_map] at this
  have e2:l.map (Int.toNat ∘ fun (c:Nat)=>(c:Int)) = l:=by
   conv=>rhs; rw [← List.map_id l]
   exact List.map_congr_left fun x _=>Int.toNat_natCast x
  rw [e2] at this
  exact this
 ·rw [List.pairwise_map]
  exact hs.imp fun {a b} h=>by
   have h:a ≤ b:=h
   show a.toNat ≤ b.toNat
   omega
theorem orders_ne:∀ (k:Nat) {l:List Nat},k ≤ l.length → Vbbrag.orders k l ≠ []
 | 0,l,_=>by
  show ([[]]:List (List Nat)) ≠ []
  simp
 | k + 1,l,h=>by
  match l,h with
  | c :: t,h=>
   have ih:=orders_ne k (l:=t) (by simpa using h)
   show ((c,t) :: (Vbbrag.picks t).map fun x=>(x.1,c :: x.2)).flatMap (fun x=>(Vbbrag.orders k x.2).map fun r=>x.1 :: r) ≠ []
   rw [List.flatMap_cons]
   intro z
   have:=(List.append_eq_nil_iff.mp z).1
   exact ih (by simpa using this)
theorem ext_snoc (S:List Nat) (M:List (List Nat)) (l:List Nat):ext S (M ++ [l]) = ext S M ++ (S.filter fun c=>!l.contains c).map fun c=>l ++ [c]:=by
 unfold ext
 rw [List.flatMap_append,List.flatMap_cons,List.flatMap_nil,List.append_nil]
theorem ext_len {S:List Nat} (h:S.length ≤ 4) (M:List (List Nat)):(ext S M).length ≤ M.length * 4:=flat_len fun x _=>by
 rw [List.length_map]
 exact Nat.le_trans (List.length_filter_le _ _) h
def firstLen (σ:L2.St) (H:Hp):Nat:=match σ with
 | _ :: _ :: some (.ref bg) :: _=>(match H bg with
  | some (.lst (.ref b :: _))=>lenAt b H
  | _=>0)
 | _=>0
theorem firstLen_eq {H:Hp} {bg:Addr} {as:List Addr} {l0:List Nat} {rest:List (List Nat)} {x y:Option V} {r:L2.St} (h:H bg = some (.lst (as.map V.ref))) (hL:ListsAt H as (l0 :: rest)):firstLen (x :: y :: some (.ref bg) :: r) H = l0.length:=by
 obtain ⟨b,e1,e2⟩:=hL.2 0 l0 rfl
 match as,e1 with
 | c :: t,e1=>
  have:c = b:=by simpa using e1
  subst this
  show (match H bg with | some (.lst (.ref b :: _))=>lenAt b H | _=>0) = _
  rw [h]
  show lenAt c H = _
  unfold lenAt
  rw [e2]
  exact ints_len l0
theorem refs_ints {bs:List Addr} {ll:List Nat} (h:bs.map V.ref = nints ll):bs = [] ∧ ll = []:=by
 cases bs with
 | nil=>
  cases ll with
  | nil=>exact ⟨rfl,rfl⟩
  | cons a r=>cases h
 | cons b t=>
  cases ll with
  | nil=>cases h
  | cons a r=>
   have h:V.ref b :: t.map V.ref = V.int (a:Int) :: nints r:=h
   injection h with h1 _
   cases h1
theorem lst_inj {H:Hp} {a:Addr} {bs:List Addr} {ll:List Nat} (h1:H a = some (.lst (bs.map V.ref))) (h2:H a = some (.lst (nints ll))):bs = [] ∧ ll = []:=by
 rw [h1] at h2
 injection h2 with h2
 injection h2 with h2
 exact refs_ints h2
theorem ext_ne {S:List Nat} {M:List (List Nat)} {ll:List Nat} (h:ll ∈ ext S M):ll ≠ []:=by
 unfold ext at h
 obtain ⟨row,_,h2⟩:=List.mem_flatMap.mp h
 obtain ⟨c,_,rfl⟩:=List.mem_map.mp h2
 simp
theorem ok_orders_of (T:Txt K mg A):FnOk P w K mg base CX0 1 A.f_orders_of A.d_orders_of ["cards"] sp_orders_of:=by
 refine T.F_orders_of.ok sc_orders_of (fun vs H Q E h=>?_) (fun cdv A' outer s H vs Q E hr h=>?_)
 ·obtain ⟨cl,cs,rfl,_⟩:=h
  rfl
 ·obtain ⟨cl,cs,rfl,hcl,nd,h4,k⟩:=h
  have slen:(Vbbraf.sorted cs).length = cs.length:=(sorted_perm cs).length_eq
  have snd:(Vbbraf.sorted cs).Nodup:=(sorted_perm cs).nodup_iff.mpr nd
  refine ⟨_,(pss_cons (ps_set (i:=1) sc_orders_of.nd rfl (by first | exact Or.inl rfl | exact Or.inr rfl) (pe_callB cr_sorted (by rfl) T.z_sorted bt_sorted (pa_cons (pv 0) pa_nil))) (pss_cons (ps_set (i:=2) sc_orders_of.nd rfl (by first | exact Or.inl rfl | exact Or.inr rfl) (pe_lst (pa_cons (pe_lst pa_nil) pa_nil))) (pss_cons (ps_while PassesOwn.never (pt_cmpR op_lt (pe_callB call_len_seq (by rfl) T.z_len bt_len (pa_cons (pe_ix ix_list (pv 2) pe_int (fun _ _=>rfl)) pa_nil)) (pe_callB call_len_seq (by rfl) T.z_len bt_len (pa_cons (pv 1) pa_nil)) (nomark _)) (pss_cons (ps_set (i:=3) sc_orders_of.nd rfl (by first | exact Or.inl rfl | exact Or.inr rfl) (pe_lst pa_nil)) (pss_cons (ps_for PassesOwn.never rfl (pi_list (pv 2)) (pg_name (i:=4) sc_orders_of.nd rfl (by first | exact Or.inl rfl | exact Or.inr rfl)) (pss_one (ps_expr (pe_bm PySem.F.plainAttrs_list PySem.F.slot_list_extend PySem.F.type_list_extend mt_extend (pv 3) (pa_cons (pe_lc rfl sc_orders_of.nd (pi_list (pv 1)) (blkOk_by (own:=[("card",5)]) (by show blkC ["cards","rising","begun","longer","row","card"] (defScope s_orders_of) _ _ = true; decide +kernel)) (fun _ _ _ _ _=>(pg_name (i:=5) sc_orders_of.nd rfl (by first | exact Or.inl rfl | exact Or.inr rfl))) (fun _ _ _ _ _=>(pts_one (pt_cmpR (op_notIn_seqK (K:=K) rfl) (pv 5) (pv 4) (by with_unfolding_all rfl)))) (fun _ _ _ _ _=>(pe_op op_cat (pv 4) (pe_lst (pa_cons (pv 5) pa_nil))))) pa_nil))))) (pss_one (ps_set (i:=2) sc_orders_of.nd rfl (by first | exact Or.inl rfl | exact Or.inr rfl) (pv 3)))))) (pss_one (ps_ret (pv 2)))))),?_⟩
  refine ⟨_,rfl,cl,cs.map fun (c:Nat)=>(c:Int),rfl,SqL.of (by rw [hcl,nints_ints]),by rw [List.length_map]; omega,fun ns' rs hp hsd hrs=>?_⟩
  have es:=sorted_ints_is hp hsd
  subst es
  have hri:∀ {H':Hp},Same (upd H rs (.lst (((Vbbraf.sorted cs).map fun (c:Nat)=>(c:Int)).map V.int))) H' → H' rs = some (.lst (nints (Vbbraf.sorted cs))):=fun sm=>by
   rw [sm rs _ upd_same,nints_ints]
  have sH:Same H (upd H rs (.lst (((Vbbraf.sorted cs).map fun (c:Nat)=>(c:Int)).map V.int))):=same_new hrs _
  generalize upd H rs (.lst (((Vbbraf.sorted cs).map fun (c:Nat)=>(c:Int)).map V.int)) = H1 at hri sH
  generalize hSS:Vbbraf.sorted cs = S at slen snd hri k
  refine ⟨Nat.zero_le _,fun b0 hb0=>⟨(by show 1 ≤ sizeLine; decide),fun bg hbg=>?_⟩⟩
  have s1:Same H1 (upd (upd H1 b0 (.lst [])) bg (.lst [.ref b0])):=(same_new hb0 _).trans (same_new hbg _)
  refine while_by (fun σ H'=>∃ (bg:Addr) (as:List Addr) (n:Nat) (v3 v4 v5:Option V),σ = [some (.ref cl),some (.ref rs),some (.ref bg),v3,v4,v5] ∧ n ≤ cs.length ∧ Same H1 H' ∧ H' bg = some (.lst (as.map V.ref)) ∧ ListsAt H' as (Vbbrag.orders n S))
   (fun σ H'=>5 - firstLen σ H') ⟨bg,[b0],0,none,none,none,rfl,Nat.zero_le _,s1,upd_same,ListsAt.one (l:=[]) (by rw [upd_ne (ne_of_none upd_same hbg)]; exact upd_same)⟩ ?_ ?_
  ·rintro σ H2 ⟨bg,as,n,v3,v4,v5,rfl,hn,s2,hbg,hL⟩
   obtain ⟨l0,rest,ho⟩:∃ l0 rest,Vbbrag.orders n S = l0 :: rest:=by
    have hne:Vbbrag.orders n S ≠ []:=orders_ne n (by rw [slen]; exact hn)
    cases e:Vbbrag.orders n S with
    | nil=>exact absurd e hne
    | cons a r=>exact ⟨a,r,rfl⟩
   have hl0:l0.length = n:=orders_len n l0 (by rw [ho]; simp)
   obtain ⟨b,hb1,hb2⟩:=hL.2 0 l0 (by rw [ho]; rfl)
   have hat:atI (as.map V.ref) ((0:Nat):Int) = some (V.ref b):=atI_nat (by rw [List.getElem?_map,hb1]; rfl)
   have hnum:as.length ≤ 4 ^ n:=by rw [hL.1]; exact orders_num n (by omega)
   refine ⟨_,rfl,bg,_,_,_,rfl,rfl,SqL.of hbg,hat,b,_,rfl,.inl (SqL.of hb2),_,rfl,rs,_,rfl,.inl (SqL.of (hri s2)),_,_,rfl,rfl,_,rfl,?_⟩
   rw [ints_len,ints_len]
   refine ifD (fun lt=>?_) fun nlt=>?_
   ·have hn3:n < cs.length:=by omega
    have h64:as.length ≤ 64:=Nat.le_trans hnum (by
     have:n = 0 ∨ n = 1 ∨ n = 2 ∨ n = 3:=by omega
     rcases this with rfl | rfl | rfl | rfl <;> decide)
    refine ⟨Nat.zero_le _,fun lg hlg=>?_⟩
    refine ⟨_,rfl,bg,rfl,⟨_,SqL.of (same_new hlg _ _ _ hbg)⟩,?_⟩
    refine for_list (K:=K) (a:=bg) (xs:=as.map V.ref) (fun i σ H'=>∃ (v4 v5:Option V) (bs:List Addr),σ = [some (.ref cl),some (.ref rs),some (.ref bg),some (.ref lg),v4,v5] ∧ Same H2 H' ∧ H' lg = some (.lst (bs.map V.ref)) ∧ ListsAt H' bs (ext S ((Vbbrag.orders n S).take i)))
     ⟨v4,v5,[],rfl,same_new hlg _,upd_same,ListsAt.nil⟩ (fun i σ H' _ ⟨_,_,_,_,sm,_⟩=>SqL.of (sm _ _ hbg)) ?_ ?_
    ·rintro i x σ H3 hi ⟨v4,v5,bs,rfl,s3,hlg3,hB⟩
     obtain ⟨c,hc,rfl⟩:∃ c,as[i]? = some c ∧ x = V.ref c:=by
      rw [List.getElem?_map] at hi
      cases e:as[i]? with
      | none=>rw [e] at hi; cases hi
      | some b=>rw [e] at hi; exact ⟨b,rfl,(Option.some.inj hi).symm⟩
     have hilt:=(List.getElem?_eq_some_iff.mp hc).1
     obtain ⟨l,hl⟩:∃ l,(Vbbrag.orders n S)[i]? = some l:=⟨_,List.getElem?_eq_getElem (by rw [← hL.1]; exact hilt)⟩
     obtain ⟨c',hc',hcl'⟩:=hL.2 i l hl
     rw [hc] at hc'
     cases hc'
     have hc3:=s3 _ _ hcl'
     have hrs3:H3 rs = some (.lst (nints S)):=hri (s2.trans s3)
     have hll:l.length = n:=orders_len n l (List.mem_of_getElem? hl)
     refine ⟨_,rfl,.inl ⟨rfl,_,SqL.of hlg3⟩,_,rfl,rs,rfl,⟨_,SqL.of hrs3⟩,fun D hD=>?_⟩
     refine lc_list (K:=K) (a:=rs) (xs:=nints S) (fun j H'=>Same H3 H' ∧ ∃ ds:List Addr,H' D = some (.lst (ds.map V.ref)) ∧ ListsAt H' ds (((S.take j).filter fun c=>!l.contains c).map fun c=>l ++ [c])) ⟨same_new hD _,[],upd_same,ListsAt.nil⟩ (fun j H' _ ⟨sm,_⟩=>SqL.of (sm _ _ hrs3)) (fun j x H4 hj ⟨s4,ds,hD4,hds⟩=>?_) (fun H4 ⟨s4,ds,hD4,hds⟩=>?_)
     ·obtain ⟨cd,hcd,rfl⟩:=ints_at hj
      refine ⟨rfl,_,rfl,_,rfl,c,_,rfl,.inl (SqL.of (s4 _ _ hc3)),rfl,ints_flat _,_,rfl,?_⟩
      rw [if_pos rfl,inV_ints]
      cases hin:l.contains cd with
      | true=>
       refine iteF ⟨s4,ds,hD4,?_⟩
       rw [take_snoc hcd,List.filter_append,List.filter_cons,if_neg (by rw [hin]; decide),List.filter_nil,List.append_nil]
       exact hds
      | false=>
       refine iteT ⟨_,rfl,_,rfl,(by show 1 ≤ sizeLine; decide),fun q hq=>?_⟩
       have sq:=same_new hq (.lst [V.int (cd:Int)])
       refine ⟨c,q,_,_,rfl,rfl,sq _ _ (s4 _ _ hc3),upd_same,?_,fun r hr'=>?_⟩
       ·rw [ints_len]
        show l.length + 1 ≤ sizeLine
        exact Nat.le_of_lt (small1000 (by omega))
       ·have sr:=same_new hr' (.lst (nints l ++ [V.int (cd:Int)]))
        have hD6:=sr _ _ (sq _ _ hD4)
        have s46:=(s4.trans sq).trans sr
        have hrD:r ≠ D:=fun z=>by rw [z,sq _ _ hD4] at hr'; cases hr'
        have hdl:ds.length ≤ 4:=by
         rw [hds.1,List.length_map]
         refine Nat.le_trans (List.length_filter_le _ _) ?_
         rw [List.length_take]
         omega
        refine ⟨_,hD6,?_,fun b o e=>?_,ds ++ [r],?_,?_⟩
        ·rw [List.length_map]
         exact small1000 (by omega)
        ·rw [upd_ne (ne_of_none e hD)]
         exact s46 _ _ e
        ·rw [upd_same,List.map_append]
         rfl
        ·rw [take_snoc hcd,List.filter_append,List.filter_cons,if_pos (by rw [hin]; rfl),List.filter_nil,List.map_append]
         have sD:∀ {bb:Addr} {ll:List Nat},upd (upd H4 q (.lst [V.int (cd:Int)])) r (.lst (nints l ++ [V.int (cd:Int)])) bb = some (.lst (nints ll)) → bb ≠ D → upd (upd (upd H4 q (.lst [V.int (cd:Int)])) r (.lst (nints l ++ [V.int (cd:Int)]))) D (.lst (ds.map V.ref ++ [V.ref r])) bb = some (.lst (nints ll)):=fun e ne=>by rw [upd_ne ne]; exact e
         refine ListsAt.append ⟨hds.1,fun jj ll e=>?_⟩ (ListsAt.one ?_)
         ·obtain ⟨bb,e1,e2⟩:=hds.2 jj ll e
          refine ⟨bb,e1,sD (sr _ _ (sq _ _ e2)) fun z=>?_⟩
          subst z
          have q:=(lst_inj hD4 e2).1
          rw [q] at e1
          cases e1
         ·exact sD (by rw [upd_same,ints_snoc]) hrD
     ·rw [ints_len,List.take_length] at hds
      have hlg4:=s4 _ _ hlg3
      refine ⟨lg,D,_,_,rfl,rfl,hlg4,hD4,?_,?_⟩
      ·rw [List.length_map,List.length_map]
       have e1:=ext_len (S:=S) (by omega) ((Vbbrag.orders n S).take i)
       rw [List.length_take] at e1
       rw [hB.1,hds.1,List.length_map]
       have e2:((S.filter fun c=>!l.contains c)).length ≤ 4:=Nat.le_trans (List.length_filter_le _ _) (by omega)
       have:=hL.1
       exact Nat.le_of_lt (small1000 (by omega))
      ·refine ⟨_,_,bs ++ ds,rfl,fun b o e=>?_,?_,?_⟩
       ·rw [upd_ne (ne_of_none e hlg)]
        exact s4 _ _ (s3 _ _ e)
       ·rw [upd_same,List.map_append]
       ·rw [take_snoc hl,ext_snoc]
        refine ListsAt.append ⟨hB.1,fun jj ll e=>?_⟩ ⟨hds.1,fun jj ll e=>?_⟩
        ·obtain ⟨bb,e1,e2⟩:=hB.2 jj ll e
         refine ⟨bb,e1,?_⟩
         rw [upd_ne]
         ·exact s4 _ _ e2
         ·intro z
          subst z
          exact ext_ne (List.mem_of_getElem? e) (lst_inj hlg4 (s4 _ _ e2)).2
        ·obtain ⟨bb,e1,e2⟩:=hds.2 jj ll e
         refine ⟨bb,e1,?_⟩
         rw [upd_ne]
         ·exact e2
         ·intro z
          subst z
          have q:=(lst_inj hlg4 e2).2
          obtain ⟨c2,_,e3⟩:=List.mem_map.mp (List.mem_of_getElem? e)
          rw [q] at e3
          simp at e3
    ·rintro σ H3 ⟨v4,v5,bs,rfl,s3,hlg3,hB⟩
     rw [List.length_map,hL.1,List.take_length,ext_orders n snd] at hB
     obtain ⟨l1,rest1,ho1⟩:∃ l1 rest1,Vbbrag.orders (n + 1) S = l1 :: rest1:=by
      have hne:Vbbrag.orders (n + 1) S ≠ []:=orders_ne (n + 1) (by rw [slen]; exact hn3)
      cases e:Vbbrag.orders (n + 1) S with
      | nil=>exact absurd e hne
      | cons a r=>exact ⟨a,r,rfl⟩
     have hl1:l1.length = n + 1:=orders_len (n + 1) l1 (by rw [ho1]; simp)
     refine ⟨_,rfl,⟨lg,bs,n + 1,_,_,_,rfl,hn3,s2.trans s3,hlg3,hB⟩,?_⟩
     rw [ho1] at hB
     rw [ho] at hL
     show 5 - firstLen (some (V.ref cl) :: some (V.ref rs) :: some (V.ref lg) :: _) H3 < 5 - firstLen (some (V.ref cl) :: some (V.ref rs) :: some (V.ref bg) :: _) H2
     rw [firstLen_eq hlg3 hB,firstLen_eq hbg hL,hl1,hl0]
     omega
   ·have e:n = cs.length:=by omega
    rw [e] at hL
    exact ⟨_,rfl,k bg as H2 (sH.trans s2) hbg hL⟩
  ·rintro σ H1' Q1 Q2 hq ⟨v,e,p,xs,i,y,r1,r2,r3,r4,b,ys,r5,r6,v2,e2,rs',zs,r7,r8,i1,i2,r9,r10,kb,r11,r12⟩
   exact ⟨v,e,p,xs,i,y,r1,r2,r3,r4,b,ys,r5,r6,v2,e2,rs',zs,r7,r8,i1,i2,r9,r10,kb,r11,hq _ _ r12⟩
theorem lam_best_order:LamScope ["wording","cards"] (defScope s_best_order) (lamSc s_best_order) "row":=⟨rfl,rfl,rfl,by decide +kernel,by decide +kernel,by decide +kernel,by decide +kernel,by decide +kernel⟩
def BestT (A:Adr) (H:Hp):Prop:=LamT H A.p_best_order (lamPos s_best_order) ((("best_order":Str) ++ ".<locals>.") ++ "<lambda>")
def sp_best (A:Adr):Sp:=fun vs H Q _=>∃ (wo kn a cl:Addr) (side way:Nat) (d:Deal) (m:MP) (p:Vbbraf.Pos) (kvs:List (List Key × V)) (cs:List Nat),vs = [.ref wo,.ref cl] ∧ WoAt A H wo kn a side way ∧ H kn = some (.dT kvs) ∧ RMemo side way d m kvs ∧ kvs.length ≤ 100 ∧ PosAt A H a d m ∧ DealOk d ∧ Rel d m p ∧ side < 2 ∧
 H cl = some (.lst (nints cs)) ∧ cs.Nodup ∧ cs.length ≤ 4 ∧ BestT A H ∧ ∀ (H':Hp) (kvs':List (List Key × V)) (r:Addr) (b:List Nat),Vbbrag.bestOrder side way p (Vbbrag.orders cs.length (Vbbraf.sorted cs)) (Vbbraf.sorted cs,0) = (b,J ⟨side,way,b⟩ d m) → b.length = cs.length → ButP kn A.p_best_order H H' → BestT A H' → H' kn = some (.dT kvs') → RMemo side way d m kvs' → kvs'.length ≤ kvs.length + 256 → H' r = some (.lst (nints b)) → Q (.ref r) H'
theorem ok_best_order (T:Txt K mg A) (hB:base.BuiltinsAt mg A.p_best_order):FnOk P w K mg base CX0 42 A.f_best_order A.d_best_order ["wording","cards"] (sp_best A):=by
 have G_orders_of:=ok_orders_of (P:=P) (w:=w) (base:=base) T
 have G_judged_with_row:=ok_judged_with_row (P:=P) (w:=w) (base:=base) T
 obtain ⟨cc,hcc,CK⟩:=T.k_best_order
 refine fun_okC T.F_best_order sc_best_order (fun vs H Q E h=>?_) (fun cdv A' outer s H vs Q E hcd hr h=>?_)
 ·obtain ⟨wo,kn,a,cl,side,way,d,m,p,kvs,cs,rfl,_⟩:=h
  rfl
 ·obtain ⟨wo,kn,a,cl,side,way,d,m,p,kvs,cs,rfl,hw,hk,M,hkl,hpos,O,R,hs2,hcl,nd,h4,hT,k⟩:=h
  have hcode:cdv = .ref cc:=by rw [← hcd,hcc]
  have slen:(Vbbraf.sorted cs).length = cs.length:=(sorted_perm cs).length_eq
  obtain ⟨rest,hhd⟩:=orders_head cs.length slen
  have hnum:(Vbbrag.orders cs.length (Vbbraf.sorted cs)).length ≤ 256:=Nat.le_trans (orders_num cs.length (by omega)) (by
   have:cs.length = 0 ∨ cs.length = 1 ∨ cs.length = 2 ∨ cs.length = 3 ∨ cs.length = 4:=by omega
   rcases this with e | e | e | e | e <;> rw [e] <;> decide)
  refine ⟨_,(pss_one (ps_ret (pe_maxkey rfl hr.depth rfl T.z_max (pe_call G_orders_of (hr.mono (by decide)) rfl T.m_orders_of T.F_orders_of.kp T.b_orders_of .nil pass0 (pa_cons (pv 1) pa_nil)) hcode CK hB lam_best_order (fun _ _ _ _=>(pe_call G_judged_with_row ((hr.mono (by decide)).in1.deeper _) rfl T.m_judged_with_row T.F_judged_with_row.kp T.b_judged_with_row .nil pass0 (pa_cons (pv 1) (pa_cons (pv 0) pa_nil))))))),?_⟩
  refine ⟨_,rfl,cl,cs,rfl,hcl,nd,h4,fun r as H1 s1 hr1 hL=>?_⟩
  refine ⟨r,as.map V.ref,rfl,SqL.of hr1,?_,hT.same s1,fun H2 hT2 keep=>?_⟩
  ·rw [List.length_map,hL.1,hhd]
   exact Nat.succ_pos _
  ·obtain ⟨ps1,hP1,_⟩:=hT.same s1
   have kp1:ButP kn A.p_best_order H H2:=fun b o e _ n=>keep b o (s1 b o e) n
   have hk1:H2 kn = some (.dT kvs):=keep _ _ (s1 _ _ hk) (ne_of (s1 _ _ hk) hP1 (by intro z; cases z))
   obtain ⟨ps0,hP0,_⟩:=hT
   have y1:=kp1.y hk hP0
   have hr2:H2 r = some (.lst (as.map V.ref)):=keep _ _ hr1 (ne_of hr1 hP1 (by intro z; cases z))
   have hrk:r ≠ kn:=ne_of hr2 hk1 (by intro z; cases z)
   have at2:∀ {i:Nat} {y:V},(as.map V.ref)[i]? = some y → ∃ b l,y = V.ref b ∧ (Vbbrag.orders cs.length (Vbbraf.sorted cs))[i]? = some l ∧ H2 b = some (.lst (nints l)) ∧ b ≠ kn:=fun {i y} e=>by
    rw [List.getElem?_map] at e
    cases e1:as[i]? with
    | none=>rw [e1] at e; cases e
    | some b=>
     rw [e1] at e
     have hi:=(List.getElem?_eq_some_iff.mp e1).1
     obtain ⟨l,hl⟩:∃ l,(Vbbrag.orders cs.length (Vbbraf.sorted cs))[i]? = some l:=⟨_,List.getElem?_eq_getElem (by rw [← hL.1]; exact hi)⟩
     obtain ⟨b',e2,e3⟩:=hL.2 i l hl
     rw [e1] at e2
     cases e2
     have e4:=keep _ _ e3 (ne_of e3 hP1 (by intro z; cases z))
     exact ⟨b,l,(Option.some.inj e).symm,hl,e4,ne_of e4 hk1 (by intro z; cases z)⟩
   refine ⟨fun i=>((J ⟨side,way,(Vbbrag.orders cs.length (Vbbraf.sorted cs)).getD i []⟩ d m:Nat):Int),fun i H'=>∃ kvs3:List (List Key × V),But kn H2 H' ∧ H' kn = some (.dT kvs3) ∧ RMemo side way d m kvs3 ∧ kvs3.length ≤ kvs.length + i,⟨kvs,fun _ _ e _=>e,hk1,M,Nat.le_refl _⟩,fun i H' ⟨kvs3,b3,_⟩=>⟨SqL.of (b3 _ _ hr2 hrk),fun b o u e=>b3 _ _ e (ne_of e hk1 (by intro z; cases z))⟩,fun i y H' hy ⟨kvs3,b3,hk3,M3,l3⟩=>?_,fun H' i y ⟨kvs3,b3,hk3,M3,l3⟩ hy best=>?_⟩
   ·obtain ⟨b,l,rfl,hl,hb2,hbk⟩:=at2 hy
    have hilt:=(List.getElem?_eq_some_iff.mp hl).1
    have hll:=orders_len cs.length l (List.mem_of_getElem? hl)
    have hx3:=b3.x hk1
    refine ⟨_,rfl,_,rfl,wo,kn,a,b,side,way,d,m,p,kvs3,l,rfl,(hw.y y1).x hx3,hk3,M3,(hpos.y y1).x hx3,O,R,hs2,b3 _ _ hb2 hbk,by omega,by omega,fun H4 kvs4 b4 hk4 M4 l4=>⟨?_,kvs4,b3.trans b4,hk4,M4,by omega⟩⟩
    have:(Vbbrag.orders cs.length (Vbbraf.sorted cs)).getD i [] = l:=by simp [List.getD,hl]
    show V.int ((J ⟨side,way,l⟩ d m:Nat):Int) = V.int ((J ⟨side,way,(Vbbrag.orders cs.length (Vbbraf.sorted cs)).getD i []⟩ d m:Nat):Int)
    rw [this]
   ·obtain ⟨b,l,rfl,hl,hb2,hbk⟩:=at2 hy
    have hilt:=(List.getElem?_eq_some_iff.mp hl).1
    have g1:(Vbbrag.orders cs.length (Vbbraf.sorted cs)).getD i [] = l:=by simp [List.getD,hl]
    rw [List.length_map,hL.1] at l3 best
    have hbest:Vbbrag.bestOrder side way p (Vbbrag.orders cs.length (Vbbraf.sorted cs)) (Vbbraf.sorted cs,0) = (l,Vbbrag.judged ⟨side,way,l⟩ p):=best_at hl (fun jj x hx=>by
     have:=best jj (List.getElem?_eq_some_iff.mp hx).1
     have g2:(Vbbrag.orders cs.length (Vbbraf.sorted cs)).getD jj [] = x:=by simp [List.getD,hx]
     simp only [g1,g2] at this
     rw [R.judged O,R.judged O]
     omega) hhd
    rw [R.judged O] at hbest
    exact k H' kvs3 b l hbest (orders_len cs.length l (List.mem_of_getElem? hl)) (fun b o e n1 n2=>b3 _ _ (kp1 b o e n1 n2) n1) (hT2.but hk1 b3) hk3 M3 (by omega) (b3 _ _ hb2 hbk)
def endK:List Str:=["dealt","played","position","won","claim"]
theorem keys_old {f:Str} {v:V}:∀ {fs:List (Str × V)},f ∈ fs.map (·.1) → (putF f v fs).map (·.1) = fs.map (·.1)
 | [],h=>by simp at h
 | (g,x) :: r,h=>by
  show (if g = f then (g,v) :: r else (g,x) :: putF f v r).map (·.1) = g :: r.map (·.1)
  by_cases e:g = f
  ·rw [if_pos e]
   rfl
  ·rw [if_neg e]
   have hr:f ∈ r.map (·.1):=by
    rcases List.mem_cons.mp h with q | q
    ·exact absurd q.symm e
    ·exact q
   show g :: (putF f v r).map (·.1) = _
   rw [keys_old hr]
theorem keys_new {f:Str} {v:V}:∀ {fs:List (Str × V)},f ∉ fs.map (·.1) → (putF f v fs).map (·.1) = fs.map (·.1) ++ [f]
 | [],_=>rfl
 | (g,x) :: r,h=>by
  have e:¬ g = f:=fun q=>h (by rw [← q]; exact List.mem_cons_self ..)
  have hr:f ∉ r.map (·.1):=fun q=>h (List.mem_cons_of_mem _ q)
  show (if g = f then (g,v) :: r else (g,x) :: putF f v r).map (·.1) = g :: r.map (·.1) ++ [f]
  rw [if_neg e]
  show g :: (putF f v r).map (·.1) = _
  rw [keys_new hr]
  rfl
def EK (k:Nat) (fs:List (Str × V)):Prop:=fs.map (·.1) = endK.take k ∨ fs.map (·.1) = endK
theorem EK.put {k:Nat} {f:Str} {v:V} {fs:List (Str × V)} (h:EK k fs) (hk:endK[k]? = some f) (hn:f ∉ endK.take k):EK (k + 1) (putF f v fs):=by
 rcases h with h | h
 ·refine .inl ?_
  rw [keys_new (by rw [h]; exact hn),h,List.take_add_one,hk]
  rfl
 ·refine .inr ?_
  rw [keys_old (by rw [h]; exact List.mem_of_getElem? hk),h]
theorem EK.len {k:Nat} {fs:List (Str × V)} (h:EK k fs):fs.length < 1000:=by
 have e:fs.length = (fs.map (·.1)).length:=(List.length_map _).symm
 rw [e]
 rcases h with h | h
 ·rw [h,List.length_take]
  show min k 5 < 1000
  omega
 ·rw [h]
  decide
theorem lookup_mem {f:Str} {v:V}:∀ {fs:List (Str × V)},fs.lookup f = some v → f ∈ fs.map (·.1)
 | [],h=>by cases h
 | (g,x) :: r,h=>by
  rw [List.lookup_cons] at h
  cases e:f == g with
  | true=>rw [eq_of_beq e]; exact List.mem_cons_self ..
  | false=>
   rw [e] at h
   exact List.mem_cons_of_mem _ (lookup_mem h)
theorem EK.no {k:Nat} {fs:List (Str × V)} (h:EK k fs) {f:Str} (hf:f ∉ endK) {v:V}:fs.lookup f ≠ some v:=fun z=>by
 have m:=lookup_mem z
 rcases h with h | h
 ·rw [h] at m
  exact hf (List.mem_of_mem_take m)
 ·rw [h] at m
  exact hf m
theorem ne_end {H:Hp} {a e C C' dx dx':Addr} {fs fs':List (Str × V)} {k:Nat} {f:Str} {v:V} (h:H a = some (.ins C dx fs)) (hv:fs.lookup f = some v) (he:H e = some (.ins C' dx' fs')) (ek:EK k fs') (hf:f ∉ endK):a ≠ e:=fun z=>by
 subst z
 rw [h] at he
 cases he
 exact ek.no hf hv
def ButE (e:Addr) (H H':Hp):Prop:=∀ b o,H b = some o → b ≠ e → H' b = some o
def But2 (e pl:Addr) (H H':Hp):Prop:=∀ b o,H b = some o → b ≠ e → b ≠ pl → H' b = some o
theorem DealAt.e {A:Adr} {H H':Hp} {a e C dx pl:Addr} {d:Deal} {fs:List (Str × V)} {k:Nat} {xs:List V} (h:DealAt A H a d) (he:H e = some (.ins C dx fs)) (ek:EK k fs) (hl:H pl = some (.lst xs)) (s:But2 e pl H H'):DealAt A H' a d:=by
 obtain ⟨ddx,hx,fs',hs,h1,h2,h3,h4,h5,h6,h7⟩:=h
 refine ⟨ddx,hx,fs',hs,s _ _ h1 (ne_end h1 h2 he ek (by decide +kernel)) (ne_of h1 hl (fun z=>nomatch z)),h2,h3,h4,s _ _ h5 (ne_of h5 he (fun z=>nomatch z)) (ne_of h5 hl (fun z=>nomatch z)),h6,fun i h q=>?_⟩
 obtain ⟨b,e1,e2⟩:=h7 i h q
 exact ⟨b,e1,s _ _ e2 (ne_of e2 he (fun z=>nomatch z)) (ne_of e2 hl (fun z=>nomatch z))⟩
theorem PosAt.e {A:Adr} {H H':Hp} {a e C dx pl:Addr} {d:Deal} {m:MP} {fs:List (Str × V)} {k:Nat} {xs:List V} (h:PosAt A H a d m) (he:H e = some (.ins C dx fs)) (ek:EK k fs) (hl:H pl = some (.lst xs)) (s:But2 e pl H H'):PosAt A H' a d m:=by
 obtain ⟨dd,ddx,fs',h0,h1,h2,h3,r⟩:=h
 exact ⟨dd,ddx,fs',h0.e he ek hl s,s _ _ h1 (ne_end h1 h3 he ek (by decide +kernel)) (ne_of h1 hl (fun z=>nomatch z)),h2,h3,r⟩
def ClAt (A:Adr) (H:Hp) (v:V):Option Vbbrag.Claim → Prop
 | none=>v = .non
 | some c=>∃ (a dx:Addr) (fs:List (Str × V)),v = .ref a ∧ H a = some (.ins A.c_Claim dx fs) ∧ fs.lookup ("side":Str) = some (.int (c.side:Int)) ∧ fs.lookup ("tricks":Str) = some (.int (c.k:Int)) ∧ fs.lookup ("judged":Str) = some (.int (c.judged:Int)) ∧ fs.lookup ("sure":Str) = some (.int (c.sure:Int)) ∧ fs.lookup ("awarded":Str) = some (.int (c.award:Int))
theorem ClAt.e {A:Adr} {H H':Hp} {v:V} {e C dx pl:Addr} {fs:List (Str × V)} {k:Nat} {xs:List V} {cl:Option Vbbrag.Claim} (h:ClAt A H v cl) (he:H e = some (.ins C dx fs)) (ek:EK k fs) (hl:H pl = some (.lst xs)) (s:But2 e pl H H'):ClAt A H' v cl:=by
 cases cl with
 | none=>exact h
 | some c=>
  obtain ⟨a,cx,gs,h1,h2,h3,r⟩:=h
  exact ⟨a,cx,gs,h1,s _ _ h2 (ne_end h2 h3 he ek (by decide +kernel)) (ne_of h2 hl (fun z=>nomatch z)),h3,r⟩
def EndAt (A:Adr) (H:Hp) (e pl:Addr) (d:Deal) (l:List Nat) (m:MP) (s:Vbbraf.State) (cl:Option Vbbrag.Claim):Prop:=∃ (dx dd po wo:Addr) (cv:V) (fs:List (Str × V)),H e = some (.ins A.c_Ending dx fs) ∧ fs.map (·.1) = endK ∧ fs.lookup ("dealt":Str) = some (.ref dd) ∧ fs.lookup ("played":Str) = some (.ref pl) ∧ fs.lookup ("position":Str) = some (.ref po) ∧
 fs.lookup ("won":Str) = some (.ref wo) ∧ fs.lookup ("claim":Str) = some cv ∧ DealAt A H dd d ∧ H pl = some (.lst (nints l)) ∧ PosAt A H po d m ∧ H wo = some (.tup [.int (s.won:Int),.int (s.lost:Int)]) ∧ ClAt A H cv cl
theorem EndAt.same {A:Adr} {H H':Hp} {e pl:Addr} {d:Deal} {l:List Nat} {m:MP} {s:Vbbraf.State} {cl:Option Vbbrag.Claim} (h:EndAt A H e pl d l m s cl) (sm:Same H H'):EndAt A H' e pl d l m s cl:=by
 obtain ⟨dx,dd,po,wo,cv,fs,h1,h2,h3,h4,h5,h6,h7,h8,h9,h10,h11,h12⟩:=h
 refine ⟨dx,dd,po,wo,cv,fs,sm _ _ h1,h2,h3,h4,h5,h6,h7,h8.same sm,sm _ _ h9,h10.same sm,sm _ _ h11,?_⟩
 cases cl with
 | none=>exact h12
 | some c=>
  obtain ⟨a,cx,gs,q1,q2,r⟩:=h12
  exact ⟨a,cx,gs,q1,sm _ _ q2,r⟩
def sp_begin (A:Adr):Sp:=fun vs H Q _=>∃ (e dx dd:Addr) (d:Deal) (fs:List (Str × V)),vs = [.ref e,.ref dd] ∧ H e = some (.ins A.c_Ending dx fs) ∧ EK 0 fs ∧ DealAt A H dd d ∧ (∀ h ∈ d.hands,∀ c ∈ h,c < 52) ∧
 ∀ (H':Hp) (pl:Addr),ButE e H H' → H pl = none → EndAt A H' e pl d [] (startM d) (Vbbraf.dealt (firstP d)) none → Q .non H'
theorem ok_begin (T:Txt K mg A):FnOk P w K mg base CX0 5 A.f_begin A.d_begin ["ending","deal"] (sp_begin A):=by
 have G_start:=ok_start (P:=P) (w:=w) (base:=base) T
 refine T.F_begin.ok sc_begin (fun vs H Q E h=>?_) (fun cdv A' outer s H vs Q E hr h=>?_)
 ·obtain ⟨e,dx,dd,d,fs,rfl,_⟩:=h
  rfl
 ·obtain ⟨e,dx,dd,d,fs,rfl,he,ek,hd,h52,k⟩:=h
  have ek1:EK 1 (putF "dealt" (.ref dd) fs):=ek.put rfl (by decide +kernel)
  refine ⟨_,(pss_cons (ps_fld (pv 0) (pv 1) rfl) (pss_cons (ps_fld (pv 0) (pe_lst pa_nil) rfl) (pss_cons (ps_fld (pv 0) (pe_call G_start (hr.mono (by decide)) rfl T.m_start T.F_start.kp T.b_start .nil pass0 (pa_cons (pv 1) pa_nil)) rfl) (pss_cons (ps_fld (pv 0) (pe_tup (pa_cons pe_int (pa_cons pe_int pa_nil))) rfl) (pss_one (ps_fld (pv 0) pe_non rfl)))))),?_⟩
  refine ⟨_,rfl,_,rfl,e,_,dx,_,rfl,he,T.c_Ending,T.n_Ending_dealt,ek.len,?_⟩
  refine ⟨Nat.zero_le _,fun pl hpl=>?_⟩
  have nep:e ≠ pl:=fun z=>by rw [← z,upd_same] at hpl; cases hpl
  have hpl0:H pl = none:=by rw [upd_ne (Ne.symm nep)] at hpl; exact hpl
  have ek2:EK 2 (putF "played" (.ref pl) (putF "dealt" (.ref dd) fs)):=ek1.put rfl (by decide +kernel)
  refine ⟨_,rfl,e,_,dx,_,rfl,(upd_ne nep).trans upd_same,T.c_Ending,T.n_Ending_played,ek1.len,?_⟩
  have b2:ButE e H (upd (upd (upd H e (.ins A.c_Ending dx (putF "dealt" (.ref dd) fs))) pl (.lst [])) e (.ins A.c_Ending dx (putF "played" (.ref pl) (putF "dealt" (.ref dd) fs)))):=fun b o q n=>by
   rw [upd_ne n,upd_ne (ne_of_none q hpl0),upd_ne n]
   exact q
  have b22:But2 e pl H _:=fun b o q n _=>b2 b o q n
  have hd2:DealAt A (upd (upd (upd H e (.ins A.c_Ending dx (putF "dealt" (.ref dd) fs))) pl (.lst [])) e (.ins A.c_Ending dx (putF "played" (.ref pl) (putF "dealt" (.ref dd) fs)))) dd d:=by
   obtain ⟨ddx,hx,fs',hs,h1,h2,h3,h4,h5,h6,h7⟩:=id hd
   refine ⟨ddx,hx,fs',hs,b2 _ _ h1 (ne_end h1 h2 he ek (by decide +kernel)),h2,h3,h4,b2 _ _ h5 (ne_of h5 he (fun z=>nomatch z)),h6,fun i h q=>?_⟩
   obtain ⟨b,e1,e2⟩:=h7 i h q
   exact ⟨b,e1,b2 _ _ e2 (ne_of e2 he (fun z=>nomatch z))⟩
  refine ⟨_,rfl,dd,d,rfl,hd2,h52,fun po H3 s3 hp3=>?_⟩
  have he3:=s3 e _ upd_same
  have hpl3:H3 pl = some (.lst []):=s3 pl _ ((upd_ne (Ne.symm nep)).trans upd_same)
  have ek3:EK 3 (putF "position" (.ref po) (putF "played" (.ref pl) (putF "dealt" (.ref dd) fs))):=ek2.put rfl (by decide +kernel)
  refine ⟨_,rfl,e,_,dx,_,rfl,he3,T.c_Ending,T.n_Ending_position,ek2.len,?_⟩
  refine ⟨(by show 2 ≤ sizeLine; decide),fun wo hwo=>?_⟩
  have new:e ≠ wo:=fun z=>by rw [← z,upd_same] at hwo; cases hwo
  have hwo3:H3 wo = none:=by rw [upd_ne (Ne.symm new)] at hwo; exact hwo
  have ek4:EK 4 (putF "won" (.ref wo) (putF "position" (.ref po) (putF "played" (.ref pl) (putF "dealt" (.ref dd) fs)))):=ek3.put rfl (by decide +kernel)
  refine ⟨_,rfl,e,_,dx,_,rfl,(upd_ne new).trans upd_same,T.c_Ending,T.n_Ending_won,ek3.len,?_⟩
  have ek5:EK 5 (putF "claim" .non (putF "won" (.ref wo) (putF "position" (.ref po) (putF "played" (.ref pl) (putF "dealt" (.ref dd) fs))))):=ek4.put rfl (by decide +kernel)
  refine ⟨_,rfl,e,_,dx,_,rfl,upd_same,T.c_Ending,T.n_Ending_claim,ek4.len,?_⟩
  have b36:∀ b o,H3 b = some o → b ≠ e → upd (upd (upd (upd H3 e (.ins A.c_Ending dx (putF "position" (.ref po) (putF "played" (.ref pl) (putF "dealt" (.ref dd) fs))))) wo (.tup [.int 0,.int 0])) e (.ins A.c_Ending dx (putF "won" (.ref wo) (putF "position" (.ref po) (putF "played" (.ref pl) (putF "dealt" (.ref dd) fs)))))) e (.ins A.c_Ending dx (putF "claim" .non (putF "won" (.ref wo) (putF "position" (.ref po) (putF "played" (.ref pl) (putF "dealt" (.ref dd) fs)))))) b = some o:=fun b o q n=>by
   rw [upd_ne n,upd_ne n,upd_ne (ne_of_none q hwo3),upd_ne n]
   exact q
  have b36':But2 e pl H3 _:=fun b o q n _=>b36 b o q n
  refine k _ pl (fun b o q n=>b36 _ _ (s3 _ _ (b2 b o q n)) n) hpl0 ⟨dx,dd,po,wo,.non,_,upd_same,?_,?_,?_,?_,?_,lk_hit,(hd2.same s3).e he3 ek2 hpl3 b36',b36 _ _ hpl3 (Ne.symm nep),hp3.e he3 ek2 hpl3 b36',?_,rfl⟩
  ·rcases ek5 with q | q
   ·exact q
   ·exact q
  ·exact (lk_miss (by decide +kernel)).trans ((lk_miss (by decide +kernel)).trans ((lk_miss (by decide +kernel)).trans ((lk_miss (by decide +kernel)).trans lk_hit)))
  ·exact (lk_miss (by decide +kernel)).trans ((lk_miss (by decide +kernel)).trans ((lk_miss (by decide +kernel)).trans lk_hit))
  ·exact (lk_miss (by decide +kernel)).trans ((lk_miss (by decide +kernel)).trans lk_hit)
  ·exact (lk_miss (by decide +kernel)).trans lk_hit
  ·rw [upd_ne (Ne.symm new),upd_ne (Ne.symm new),upd_same]
   rfl
def emptyD:Deal:=⟨[[],[],[],[]],4,0⟩
theorem emptyD_ok:DealOk emptyD:=⟨rfl,by decide,by decide,by decide,by decide,fun i j h k hi hj ne c hc=>by
 have:h = []:=by
  have:=List.mem_of_getElem? hi
  simp [emptyD] at this
  exact this
 rw [this] at hc
 simp at hc,0,by decide,by decide⟩
def sp_Ending_init (A:Adr):Sp:=fun vs H Q _=>∃ (e dx:Addr),vs = [.ref e] ∧ H e = some (.ins A.c_Ending dx []) ∧ ∀ (H':Hp) (pl:Addr),ButE e H H' → H pl = none → EndAt A H' e pl emptyD [] (startM emptyD) (Vbbraf.dealt (firstP emptyD)) none → Q .non H'
theorem ok_Ending_init (T:Txt K mg A):FnOk P w K mg base CX0 6 A.f_Ending_init A.d_Ending_init ["self"] (sp_Ending_init A):=by
 have G_begin:=ok_begin (P:=P) (w:=w) (base:=base) T
 have G_Deal_init:=ok_Deal_init (P:=P) (w:=w) (base:=base) T
 refine T.F_Ending_init.ok sc_Ending_init (fun vs H Q E h=>?_) (fun cdv A' outer s H vs Q E hr h=>?_)
 ·obtain ⟨e,dx,rfl,_⟩:=h
  rfl
 ·obtain ⟨e,dx,rfl,he,k⟩:=h
  refine ⟨_,(pss_one (ps_expr (pe_call G_begin (hr.mono (by decide)) rfl T.m_begin T.F_begin.kp T.b_begin .nil pass0 (pa_cons (pv 0) (pa_cons (pe_make T.M_Deal G_Deal_init (hr.mono (by decide)) rfl T.m_Deal T.b_Deal_init .nil pass0 (pa_cons (pe_tup (pa_cons (pe_tup pa_nil) (pa_cons (pe_tup pa_nil) (pa_cons (pe_tup pa_nil) (pa_cons (pe_tup pa_nil) pa_nil))))) (pa_cons (pe_gint rfl T.g_NO_TRUMP) (pa_cons pe_int pa_nil)))) pa_nil))))),?_⟩
  refine ⟨_,rfl,Nat.zero_le _,fun t0 h0=>⟨Nat.zero_le _,fun t1 h1=>⟨Nat.zero_le _,fun t2 h2=>⟨Nat.zero_le _,fun t3 h3=>⟨(by show 4 ≤ sizeLine; decide),fun t4 h4=>?_⟩⟩⟩⟩⟩
  intro dd ddx nd ndx ne
  refine ⟨dd,ddx,_,_,_,rfl,upd_same,fun H1 fs g1 a1 a2 a3 k1=>⟨rfl,?_⟩⟩
  have s0:=same_new h0 (.tup [])
  have s1:=same_new h1 (.tup [])
  have s2:=same_new h2 (.tup [])
  have s3:=same_new h3 (.tup [])
  have s4:=same_new h4 (.tup [.ref t0,.ref t1,.ref t2,.ref t3])
  have s5:=made_same nd ndx k1
  have s01:=s5
  have sm:Same H H1:=((((s0.trans s1).trans s2).trans s3).trans s4).trans s5
  have e4:H1 t4 = some (.tup [.ref t0,.ref t1,.ref t2,.ref t3]):=s5 _ _ upd_same
  have e3:H1 t3 = some (.tup []):=s5 _ _ (s4 _ _ upd_same)
  have e2:H1 t2 = some (.tup []):=s5 _ _ (s4 _ _ (s3 _ _ upd_same))
  have e1:H1 t1 = some (.tup []):=s5 _ _ (s4 _ _ (s3 _ _ (s2 _ _ upd_same)))
  have e0:H1 t0 = some (.tup []):=s5 _ _ (s4 _ _ (s3 _ _ (s2 _ _ (s1 _ _ upd_same))))
  refine ⟨e,dx,dd,emptyD,[],rfl,sm _ _ he,.inl rfl,⟨ddx,t4,fs,[t0,t1,t2,t3],g1,a1,a2,a3,e4,rfl,fun i h q=>?_⟩,by decide,fun H2 pl b2 n2 E2=>k H2 pl (fun b o q n=>b2 _ _ (sm _ _ q) n) (sm.free n2) E2⟩
  match i,q with
  | 0,q=>cases q; exact ⟨t0,rfl,e0⟩
  | 1,q=>cases q; exact ⟨t1,rfl,e1⟩
  | 2,q=>cases q; exact ⟨t2,rfl,e2⟩
  | 3,q=>cases q; exact ⟨t3,rfl,e3⟩
  | i + 4,q=>simp [emptyD] at q
def sp_put_card (A:Adr):Sp:=fun vs H Q _=>∃ (e pl:Addr) (d:Deal) (l:List Nat) (m:MP) (s:Vbbraf.State) (cl:Option Vbbrag.Claim) (c:Nat),vs = [.ref e,.int (c:Int)] ∧ EndAt A H e pl d l m s cl ∧ DealOk d ∧ Rel d m s.now ∧ c ∈ may d m ∧ l.length ≤ 100 ∧
 ∀ H':Hp,But2 e pl H H' → EndAt A H' e pl d (l ++ [c]) (behind d m c) (Vbbraf.playedBy s c) cl → Q .non H'
theorem ok_put_card (T:Txt K mg A):FnOk P w K mg base CX0 5 A.f_put_card A.d_put_card ["ending","card"] (sp_put_card A):=by
 have G_position_behind:=ok_position_behind (P:=P) (w:=w) (base:=base) T
 have G_trick_won:=ok_trick_won (P:=P) (w:=w) (base:=base) T
 refine T.F_put_card.ok sc_put_card (fun vs H Q E h=>?_) (fun cdv A' outer s H vs Q E hr h=>?_)
 ·obtain ⟨e,pl,d,l,m,s,cl,c,rfl,_⟩:=h
  rfl
 ·obtain ⟨e,pl,d,l,m,st,cl,c,rfl,hE,O,R,hc,hl,k⟩:=h
  obtain ⟨dx,dd,po,wo,cv,fs,h1,h2,h3,h4,h5,h6,h7,h8,h9,h10,h11,h12⟩:=id hE
  have ek:EK 0 fs:=.inr h2
  have hh:=may_sub hc
  have nep:e ≠ pl:=ne_of h1 h9 (fun z=>nomatch z)
  refine ⟨_,(pss_cons (ps_expr (pe_bm PySem.F.plainAttrs_list PySem.F.slot_list_append PySem.F.type_list_append mt_append (pe_fld (pv 0) rfl) (pa_cons (pv 1) pa_nil))) (pss_cons (ps_fld (pv 0) (pe_call G_position_behind (hr.mono (by decide)) rfl T.m_position_behind T.F_position_behind.kp T.b_position_behind .nil pass0 (pa_cons (pe_fld (pv 0) rfl) (pa_cons (pv 1) pa_nil))) rfl) (pss_one (ps_fld (pv 0) (pe_tup (pa_cons (pe_op op_add (pe_ix ix_tup (pe_fld (pv 0) rfl) pe_int (fun _ _=>rfl)) (pe_call G_trick_won (hr.mono (by decide)) rfl T.m_trick_won T.F_trick_won.kp T.b_trick_won .nil pass0 (pa_cons (pe_fld (pv 0) rfl) (pa_cons pe_int pa_nil)))) (pa_cons (pe_op op_add (pe_ix ix_tup (pe_fld (pv 0) rfl) pe_int (fun _ _=>rfl)) (pe_call G_trick_won (hr.mono (by decide)) rfl T.m_trick_won T.F_trick_won.kp T.b_trick_won .nil pass0 (pa_cons (pe_fld (pv 0) rfl) (pa_cons pe_int pa_nil)))) pa_nil))) rfl)))),?_⟩
  refine ⟨_,rfl,e,_,dx,fs,_,rfl,h1,T.c_Ending,T.n_Ending_played,h4,.inl ⟨rfl,_,SqL.of h9⟩,_,rfl,pl,_,_,rfl,rfl,h9,by rw [ints_len]; exact small1000 (by omega),?_⟩
  have h1a:upd H pl (.lst (nints l ++ [.int (c:Int)])) e = some (.ins A.c_Ending dx fs):=(upd_ne nep).trans h1
  have ba:But2 e pl H (upd H pl (.lst (nints l ++ [.int (c:Int)]))):=fun b o q _ n=>by rw [upd_ne n]; exact q
  have h10a:=h10.e h1 ek h9 ba
  refine ⟨_,rfl,e,_,dx,fs,_,rfl,h1a,T.c_Ending,T.n_Ending_position,h5,_,rfl,po,d,m,c,rfl,h10a,(mem_hand.mp hh).2,card52 O R.seat4 hh,fun po2 H2 s2 p2=>?_⟩
  have h1b:=s2 _ _ h1a
  have ek1:(putF "position" (.ref po2) fs).map (·.1) = endK:=(keys_old (by rw [h2]; decide +kernel)).trans h2
  refine ⟨_,rfl,e,_,dx,fs,rfl,h1b,T.c_Ending,T.n_Ending_position,ek.len,?_⟩
  have nwe:wo ≠ e:=ne_of h11 h1 (fun z=>nomatch z)
  have nwp:wo ≠ pl:=ne_of h11 h9 (fun z=>nomatch z)
  have h11b:upd H2 e (.ins A.c_Ending dx (putF "position" (.ref po2) fs)) wo = some (.tup [.int (st.won:Int),.int (st.lost:Int)]):=by
   rw [upd_ne nwe]
   exact s2 _ _ (ba _ _ h11 nwe nwp)
  have bb:ButE e H2 (upd H2 e (.ins A.c_Ending dx (putF "position" (.ref po2) fs))):=fun b o q n=>by rw [upd_ne n]; exact q
  have p2':PosAt A (upd H2 e (.ins A.c_Ending dx (putF "position" (.ref po2) fs))) po2 d (behind d m c):=by
   have hpl2:H2 pl = some (.lst (nints l ++ [.int (c:Int)])):=s2 _ _ upd_same
   exact p2.e h1b ek hpl2 fun b o q n _=>bb b o q n
  refine ⟨_,rfl,e,_,dx,_,_,rfl,upd_same,T.c_Ending,T.n_Ending_won,(lk_miss (by decide +kernel)).trans h6,wo,_,_,_,rfl,rfl,SqT.of h11b,(show atI _ ((0:Nat):Int) = some _ from atI_nat rfl),?_⟩
  refine ⟨_,rfl,e,_,dx,_,_,rfl,upd_same,T.c_Ending,T.n_Ending_position,lk_hit,po2,d,behind d m c,0,rfl,p2',_,_,rfl,rfl,?_⟩
  refine ⟨_,rfl,e,_,dx,_,_,rfl,upd_same,T.c_Ending,T.n_Ending_won,(lk_miss (by decide +kernel)).trans h6,wo,_,_,_,rfl,rfl,SqT.of h11b,(show atI _ ((1:Nat):Int) = some _ from atI_nat rfl),?_⟩
  refine ⟨_,rfl,e,_,dx,_,_,rfl,upd_same,T.c_Ending,T.n_Ending_position,lk_hit,po2,d,behind d m c,1,rfl,p2',_,_,rfl,rfl,?_⟩
  refine ⟨(by show 2 ≤ sizeLine; decide),fun w2 hw2=>?_⟩
  have new:e ≠ w2:=fun z=>by rw [← z,upd_same] at hw2; cases hw2
  have hw20:H2 w2 = none:=by rw [upd_ne (Ne.symm new)] at hw2; exact hw2
  have ek2:EK 0 (putF "position" (.ref po2) fs):=.inr ek1
  have ek3:(putF "won" (.ref w2) (putF "position" (.ref po2) fs)).map (·.1) = endK:=(keys_old (by rw [ek1]; decide +kernel)).trans ek1
  refine ⟨_,rfl,e,_,dx,_,rfl,(upd_ne new).trans upd_same,T.c_Ending,T.n_Ending_won,ek2.len,?_⟩
  have bc:∀ b o,H2 b = some o → b ≠ e → upd (upd (upd H2 e (.ins A.c_Ending dx (putF "position" (.ref po2) fs))) w2 (.tup [.int ((st.won:Int) + ((won (behind d m c) 0:Nat):Int)),.int ((st.lost:Int) + ((won (behind d m c) 1:Nat):Int))])) e (.ins A.c_Ending dx (putF "won" (.ref w2) (putF "position" (.ref po2) fs))) b = some o:=fun b o q n=>by
   rw [upd_ne n,upd_ne (ne_of_none q hw20),upd_ne n]
   exact q
  have hpl2:H2 pl = some (.lst (nints l ++ [.int (c:Int)])):=s2 _ _ upd_same
  have b02:But2 e pl H H2:=fun b o q n1 n2=>s2 _ _ (ba _ _ q n1 n2)
  have bc':But2 e pl H2 _:=fun b o q n _=>bc b o q n
  have hb2:But2 e pl H _:=fun b o q n1 n2=>bc _ _ (b02 _ _ q n1 n2) n1
  refine k _ hb2 ⟨dx,dd,po2,w2,cv,_,upd_same,ek3,(lk_miss (by decide +kernel)).trans ((lk_miss (by decide +kernel)).trans h3),(lk_miss (by decide +kernel)).trans ((lk_miss (by decide +kernel)).trans h4),(lk_miss (by decide +kernel)).trans lk_hit,lk_hit,(lk_miss (by decide +kernel)).trans ((lk_miss (by decide +kernel)).trans h7),h8.e h1 ek h9 hb2,?_,p2.e h1b ek hpl2 bc',?_,h12.e h1 ek h9 hb2⟩
  ·rw [ints_snoc]
   exact bc _ _ hpl2 (Ne.symm nep)
  ·rw [upd_ne (Ne.symm new),upd_same,playedBy_eq R c]
   show _ = some (HO.tup [.int ((st.won + won (behind d m c) 0:Nat):Int),.int ((st.lost + won (behind d m c) 1:Nat):Int)])
   rw [Int.natCast_add,Int.natCast_add]
theorem cut_last (l:List Nat) (h:l ≠ []):cutV (nints l) none (some (-1)) = nints l.dropLast:=by
 have hp:=List.length_pos_iff.mpr h
 unfold cutV nints
 rw [List.length_map]
 show ((l.map _).drop 0).take (HT.sIx l.length l.length (some (-1)) - 0) = _
 have:HT.sIx l.length l.length (some (-1)) = l.length - 1:=by
  show (if (-1:Int) < 0 then ((-1:Int) + (l.length:Int)).toNat else min (-1:Int).toNat l.length) = _
  rw [if_pos (by decide)]
  omega
 rw [List.drop_zero,Nat.sub_zero,this,← List.map_take,← List.dropLast_eq_take]
def sp_take_back (A:Adr):Sp:=fun vs H Q _=>∃ (e pl:Addr) (d:Deal) (l:List Nat) (m:MP) (s:Vbbraf.State) (cl:Option Vbbrag.Claim),vs = [.ref e] ∧ EndAt A H e pl d l m s cl ∧ DealOk d ∧ Reach d l m s ∧ l ≠ [] ∧
 ∀ (H':Hp) (pl':Addr) (m':MP) (s':Vbbraf.State),ButE e H H' → H pl' = none → EndAt A H' e pl' d l.dropLast m' s' none → Reach d l.dropLast m' s' → Q .non H'
theorem ok_take_card_back (T:Txt K mg A):FnOk P w K mg base CX0 6 A.f_take_card_back A.d_take_card_back ["ending"] (sp_take_back A):=by
 have G_begin:=ok_begin (P:=P) (w:=w) (base:=base) T
 have G_put_card:=ok_put_card (P:=P) (w:=w) (base:=base) T
 refine T.F_take_card_back.ok sc_take_card_back (fun vs H Q E h=>?_) (fun cdv A' outer s H vs Q E hr h=>?_)
 ·obtain ⟨e,pl,d,l,m,s,cl,rfl,_⟩:=h
  rfl
 ·obtain ⟨e,pl,d,l,m,st,cl,rfl,hE,O,hR,hne,k⟩:=h
  obtain ⟨dx,dd,po,wo,cv,fs,h1,h2,h3,h4,h5,h6,h7,h8,h9,h10,h11,h12⟩:=id hE
  have ek:EK 0 fs:=.inr h2
  have l16:=hR.len16 O
  refine ⟨_,(pss_cons (ps_set (i:=1) sc_take_card_back.nd rfl (by first | exact Or.inl rfl | exact Or.inr rfl) (pe_slice sl_list (pe_fld (pv 0) rfl) po_none (po_some (pe_un un_neg pe_int)))) (pss_cons (ps_expr (pe_call G_begin (hr.mono (by decide)) rfl T.m_begin T.F_begin.kp T.b_begin .nil pass0 (pa_cons (pv 0) (pa_cons (pe_fld (pv 0) rfl) pa_nil)))) (pss_one (ps_for PassesOwn.never rfl (pi_list (pv 1)) (pg_name (i:=2) sc_take_card_back.nd rfl (by first | exact Or.inl rfl | exact Or.inr rfl)) (pss_one (ps_expr (pe_call G_put_card (hr.mono (by decide)) rfl T.m_put_card T.F_put_card.kp T.b_put_card .nil pass0 (pa_cons (pv 0) (pa_cons (pv 2) pa_nil))))))))),?_⟩
  refine ⟨_,rfl,e,_,dx,fs,_,rfl,h1,T.c_Ending,T.n_Ending_played,h4,1,rfl,_,rfl,pl,_,rfl,SqL.of h9,fun kp hkp=>?_⟩
  have ecut:cutV (nints l) none (some (-1)) = nints l.dropLast:=cut_last l hne
  rw [ecut]
  have s1:=same_new hkp (.lst (nints l.dropLast))
  have nke:kp ≠ e:=Ne.symm (ne_of_none h1 hkp)
  refine ⟨_,rfl,_,rfl,e,_,dx,fs,_,rfl,s1 _ _ h1,T.c_Ending,T.n_Ending_dealt,h3,e,dx,dd,d,fs,rfl,s1 _ _ h1,ek,h8.same s1,O.lt,fun H2 pl2 b2 n2 E2=>?_⟩
  have hkp2:H2 kp = some (.lst (nints l.dropLast)):=b2 _ _ upd_same nke
  have npk:kp ≠ pl2:=fun z=>by rw [← z,upd_same] at n2; cases n2
  refine ⟨_,rfl,kp,rfl,⟨_,SqL.of hkp2⟩,?_⟩
  have hd1:=hR.take (l.length - 1)
  rw [← List.dropLast_eq_take] at hd1
  refine for_list (K:=K) (a:=kp) (xs:=nints l.dropLast) (fun i σ H'=>(∃ v,σ = [some (.ref e),some (.ref kp),v]) ∧ But2 e pl2 H2 H' ∧ EndAt A H' e pl2 d (l.dropLast.take i) ((l.dropLast.take i).foldl (behind d) (startM d)) ((l.dropLast.take i).foldl Vbbraf.playedBy (Vbbraf.dealt (firstP d))) none) ⟨⟨none,rfl⟩,fun _ _ q _ _=>q,E2⟩ (fun i σ H' _ ⟨_,b,_⟩=>SqL.of (b _ _ hkp2 nke npk)) ?_ ?_
  ·rintro i x σ H3 hi ⟨⟨v,rfl⟩,b3,E3⟩
   obtain ⟨c,hc,rfl⟩:=ints_at hi
   have ht:=hd1.take i
   have hn:=hd1.next hc
   have hlen:(l.dropLast.take i).length ≤ 100:=by
    rw [List.length_take,List.length_dropLast]
    omega
   refine ⟨_,rfl,_,rfl,e,pl2,d,_,_,_,none,c,rfl,E3,O,(ht.held O).rel,hn,hlen,fun H4 b4 E4=>⟨⟨_,rfl⟩,fun b o q n1 n2=>b4 _ _ (b3 _ _ q n1 n2) n1 n2,?_⟩⟩
   rw [take_snoc hc,List.foldl_append,List.foldl_append]
   exact E4
  ·rintro σ H3 ⟨⟨v,rfl⟩,b3,E3⟩
   rw [ints_len,List.take_length] at E3
   refine k H3 pl2 _ _ (fun b o q n=>b3 _ _ (b2 _ _ (s1 _ _ q) n) n (ne_of_none (s1 _ _ q) n2)) (s1.free n2) E3 ?_
   have f:=hd1.fold
   rw [← f.1,← f.2]
   exact hd1
theorem upd2 {H:Hp} {a:Addr} {o u:HO}:upd (upd H a o) a u = upd H a u:=by
 funext b
 unfold upd
 split <;> rfl
def ClOk (d:Deal) (m:MP) (cl:Option Vbbrag.Claim):Prop:=∀ c,cl = some c → c.side < 2 ∧ c.award ≤ VS c.side d m
def sp_score_of (A:Adr):Sp:=fun vs H Q _=>∃ (e pl:Addr) (d:Deal) (l:List Nat) (m:MP) (s:Vbbraf.State) (cl:Option Vbbrag.Claim),vs = [.ref e] ∧ EndAt A H e pl d l m s cl ∧ DealOk d ∧ Rel d m s.now ∧ ClOk d m cl ∧
 ∀ (r:Addr) (H':Hp),Same H H' → H' r = some (.lst [.int ((Vbbrag.score ⟨s,cl⟩).1:Int),.int ((Vbbrag.score ⟨s,cl⟩).2:Int)]) → Q (.ref r) H'
theorem ok_score_of (T:Txt K mg A):FnOk P w K mg base CX0 3 A.f_score_of A.d_score_of ["ending"] (sp_score_of A):=by
 have G_tricks_of_rest:=ok_tricks_of_rest (P:=P) (w:=w) (base:=base) T
 refine T.F_score_of.ok sc_score_of (fun vs H Q E h=>?_) (fun cdv A' outer s H vs Q E hr h=>?_)
 ·obtain ⟨e,pl,d,l,m,s,cl,rfl,_⟩:=h
  rfl
 ·obtain ⟨e,pl,d,l,m,st,cl,rfl,hE,O,R,hC,k⟩:=h
  obtain ⟨dx,dd,po,wo,cv,fs,h1,h2,h3,h4,h5,h6,h7,h8,h9,h10,h11,h12⟩:=id hE
  refine ⟨_,(pss_cons (ps_set (i:=1) sc_score_of.nd rfl (by first | exact Or.inl rfl | exact Or.inr rfl) (pe_lst (pa_cons (pe_ix ix_tup (pe_fld (pv 0) rfl) pe_int (fun _ _=>rfl)) (pa_cons (pe_ix ix_tup (pe_fld (pv 0) rfl) pe_int (fun _ _=>rfl)) pa_nil)))) (pss_cons (ps_set (i:=2) sc_score_of.nd rfl (by first | exact Or.inl rfl | exact Or.inr rfl) (pe_fld (pv 0) rfl)) (pss_cons (ps_if (pt_cmp (pc_notN (pv 2))) (pss_cons (ps_augS (pv 1) (pe_fld (pv 2) rfl) get_list (pe_fld (pv 2) rfl) ip_add set_list) (pss_one (ps_augS (pv 1) (pe_op op_sub pe_int (pe_fld (pv 2) rfl)) get_list (pe_op op_sub (pe_call G_tricks_of_rest (hr.mono (by decide)) rfl T.m_tricks_of_rest T.F_tricks_of_rest.kp T.b_tricks_of_rest .nil pass0 (pa_cons (pe_fld (pv 0) rfl) pa_nil)) (pe_fld (pv 2) rfl)) ip_add set_list))) pss_nil) (pss_one (ps_ret (pv 1)))))),?_⟩
  refine ⟨_,rfl,e,_,dx,fs,_,rfl,h1,T.c_Ending,T.n_Ending_won,h6,wo,_,_,_,rfl,rfl,SqT.of h11,(show atI _ ((0:Nat):Int) = some _ from atI_nat rfl),?_⟩
  refine ⟨_,rfl,e,_,dx,fs,_,rfl,h1,T.c_Ending,T.n_Ending_won,h6,wo,_,_,_,rfl,rfl,SqT.of h11,(show atI _ ((1:Nat):Int) = some _ from atI_nat rfl),(by show 2 ≤ sizeLine; decide),fun r hr0=>?_⟩
  have s1:=same_new hr0 (.lst [.int (st.won:Int),.int (st.lost:Int)])
  refine ⟨_,rfl,e,_,dx,fs,_,rfl,s1 _ _ h1,T.c_Ending,T.n_Ending_claim,h7,?_⟩
  cases cl with
  | none=>
   have hcv:cv = .non:=h12
   subst hcv
   refine ⟨_,rfl,_,rfl,?_⟩
   refine ifN (fun z=>absurd rfl z) fun _=>?_
   exact ⟨_,rfl,k r _ s1 upd_same⟩
  | some c=>
   obtain ⟨ca,cx,gs,rfl,c1,c2,c3,c4,c5,c6⟩:=h12
   obtain ⟨hs2,haw⟩:=hC c rfl
   have hcome:=R.VS_le O c.side
   have ccome:Vbbraf.toCome st.now = Cc.toCome d m:=R.come
   refine ⟨_,rfl,_,rfl,?_⟩
   refine ifN (fun _=>?_) fun z=>nomatch z
   have c1':=s1 _ _ c1
   have nrc:ca ≠ r:=ne_of_none c1 hr0
   have hsd:c.side = 0 ∨ c.side = 1:=by omega
   have ix:([V.int (st.won:Int),V.int (st.lost:Int)]:List V)[c.side]? = some (.int ((if c.side = 0 then st.won else st.lost:Nat):Int)):=by
    rcases hsd with q | q <;> rw [q] <;> rfl
   have ixn:ixN ([V.int (st.won:Int),V.int (st.lost:Int)]:List V).length ((c.side:Nat):Int) = some c.side:=by
    rcases hsd with q | q <;> rw [q] <;> rfl
   refine ⟨_,rfl,_,rfl,ca,_,cx,gs,_,rfl,c1',T.c_Claim,T.n_Claim_side,c2,r,_,c.side,_,rfl,rfl,upd_same,ix,by omega,_,rfl,ca,_,cx,gs,_,rfl,c1',T.c_Claim,T.n_Claim_awarded,c6,_,_,rfl,rfl,r,_,_,c.side,rfl,rfl,upd_same,ixn,?_⟩
   have hr2:∀ xs,upd (upd H r (.lst [.int (st.won:Int),.int (st.lost:Int)])) r (.lst xs) = upd H r (.lst xs):=fun xs=>upd2
   rw [hr2]
   have s2:=same_new hr0 (.lst ([V.int (st.won:Int),V.int (st.lost:Int)].set c.side (.int (((if c.side = 0 then st.won else st.lost:Nat):Int) + (c.award:Int)))))
   have c1'':=s2 _ _ c1
   refine ⟨_,rfl,_,rfl,ca,_,cx,gs,_,rfl,c1'',T.c_Claim,T.n_Claim_side,c2,_,_,rfl,rfl,r,_,1 - c.side,.int ((if c.side = 0 then st.lost else st.won:Nat):Int),rfl,(by show V.int (1 - (c.side:Int)) = _; rw [Int.natCast_sub (by omega)]; rfl),upd_same,?_,by omega,?_⟩
   ·rcases hsd with q | q <;> rw [q] <;> rfl
   refine ⟨_,rfl,e,_,dx,fs,_,rfl,s2 _ _ h1,T.c_Ending,T.n_Ending_position,h5,po,d,m,st.now,rfl,h10.same s2,O,R,fun H3 s3=>?_⟩
   refine ⟨_,rfl,ca,_,cx,gs,_,rfl,s3 _ _ c1'',T.c_Claim,T.n_Claim_awarded,c6,_,_,rfl,rfl,_,_,rfl,rfl,r,_,_,1 - c.side,rfl,rfl,s3 _ _ upd_same,?_,?_⟩
   ·rcases hsd with q | q <;> rw [q] <;> rfl
   refine ⟨_,rfl,k r _ (fun b o q=>?_) ?_⟩
   ·rw [upd_ne (ne_of_none q hr0)]
    exact s3 _ _ (s2 _ _ q)
   ·rw [upd_same]
    have hsub:((Cc.toCome d m - c.award:Nat):Int) = (Cc.toCome d m:Int) - (c.award:Int):=Int.natCast_sub (by omega)
    rcases hsd with q | q
    ·rw [q]
     show some (HO.lst [.int ((st.won:Int) + (c.award:Int)),.int ((st.lost:Int) + ((Cc.toCome d m:Int) - (c.award:Int)))]) = _
     unfold Vbbrag.score
     simp only [q,if_true]
     rw [ccome,Int.natCast_add,Int.natCast_add,hsub]
    ·rw [q]
     show some (HO.lst [.int ((st.won:Int) + ((Cc.toCome d m:Int) - (c.award:Int))),.int ((st.lost:Int) + (c.award:Int))]) = _
     unfold Vbbrag.score
     simp only [q]
     rw [if_neg (by decide)]
     show _ = some (HO.lst [.int ((st.won + (Vbbraf.toCome st.now - c.award):Nat):Int),.int ((st.lost + c.award:Nat):Int)])
     rw [ccome,Int.natCast_add,Int.natCast_add,hsub]
theorem ButK_end {A:Adr} {H H':Hp} {kn e pl:Addr} {d:Deal} {l:List Nat} {m:MP} {s:Vbbraf.State} {cl:Option Vbbrag.Claim} (h:EndAt A H e pl d l m s cl) (x:SameX H H'):EndAt A H' e pl d l m s cl:=by
 obtain ⟨dx,dd,po,wo,cv,fs,h1,h2,h3,h4,h5,h6,h7,h8,h9,h10,h11,h12⟩:=h
 refine ⟨dx,dd,po,wo,cv,fs,x _ _ h1 (fun _ z=>nomatch z),h2,h3,h4,h5,h6,h7,h8.x x,x _ _ h9 (fun _ z=>nomatch z),h10.x x,x _ _ h11 (fun _ z=>nomatch z),?_⟩
 cases cl with
 | none=>exact h12
 | some c=>
  obtain ⟨a,cx,gs,q1,q2,r⟩:=h12
  exact ⟨a,cx,gs,q1,x _ _ q2 (fun _ z=>nomatch z),r⟩
theorem cap_sc (n:Nat):cap n ≤ sc n:=by
 cases n with
 | zero=>exact Nat.le_refl _
 | succ n=>exact Nat.le_add_right _ _
theorem sc16:sc 16 = 2199066:=by decide
theorem sc_mono {n m:Nat} (h:n ≤ m):sc n ≤ sc m:=by
 induction h with
 | refl=>exact Nat.le_refl _
 | step _ ih=>exact Nat.le_trans ih (Nat.le_add_left _ _)
theorem sc_le {n:Nat} (h:n ≤ 16):sc n ≤ 2199066:=by
 have:=sc_mono h
 rw [sc16] at this
 exact this
def sp_gifts (A:Adr):Sp:=fun vs H Q _=>∃ (j kn e pl:Addr) (d:Deal) (l:List Nat) (m:MP) (s:Vbbraf.State) (cl:Option Vbbrag.Claim) (kvs:List (List Key × V)),vs = [.ref j,.ref e] ∧ VaAt A H j kn ∧ H kn = some (.dT kvs) ∧ VMemo d kvs ∧ EndAt A H e pl d l m s cl ∧ DealOk d ∧ Reach d l m s ∧
 kvs.length + 2 * sc (mheld d (startM d)) ≤ lim ∧ ∀ (r:Addr) (H':Hp) (kvs':List (List Key × V)),But kn H H' → H' kn = some (.dT kvs') → VMemo d kvs' → kvs'.length ≤ kvs.length + 2 * sc (mheld d (startM d)) → H' r = some (.lst [.int (gifts d 0 l (startM d)),.int (gifts d 1 l (startM d))]) → Q (.ref r) H'
theorem ok_gifts (T:Txt K mg A):FnOk P w K mg base CX0 40 A.f_gifts_of_cards A.d_gifts_of_cards ["valuing","ending"] (sp_gifts A):=by
 have G_start:=ok_start (P:=P) (w:=w) (base:=base) T
 have G_position_behind:=ok_position_behind (P:=P) (w:=w) (base:=base) T
 have G_trick_won:=ok_trick_won (P:=P) (w:=w) (base:=base) T
 have G_value:=ok_value (P:=P) (w:=w) (base:=base) T
 refine T.F_gifts_of_cards.ok sc_gifts_of_cards (fun vs H Q E h=>?_) (fun cdv A' outer s H vs Q E hr h=>?_)
 ·obtain ⟨j,kn,e,pl,d,l,m,s,cl,kvs,rfl,_⟩:=h
  rfl
 ·obtain ⟨j,kn,e,pl,d,l,m,st,cl,kvs,rfl,hj,hk,M,hE,O,hR,hcap,k⟩:=h
  obtain ⟨dx,dd,po,wo,cv,fs,h1,h2,h3,h4,h5,h6,h7,h8,h9,h10,h11,h12⟩:=id hE
  refine ⟨_,(pss_cons (ps_set (i:=2) sc_gifts_of_cards.nd rfl (by first | exact Or.inl rfl | exact Or.inr rfl) (pe_lst (pa_cons pe_int (pa_cons pe_int pa_nil)))) (pss_cons (ps_set (i:=3) sc_gifts_of_cards.nd rfl (by first | exact Or.inl rfl | exact Or.inr rfl) (pe_call G_start (hr.mono (by decide)) rfl T.m_start T.F_start.kp T.b_start .nil pass0 (pa_cons (pe_fld (pv 1) rfl) pa_nil))) (pss_cons (ps_for PassesOwn.never rfl (pi_list (pe_fld (pv 1) rfl)) (pg_name (i:=4) sc_gifts_of_cards.nd rfl (by first | exact Or.inl rfl | exact Or.inr rfl)) (pss_cons (ps_set (i:=5) sc_gifts_of_cards.nd rfl (by first | exact Or.inl rfl | exact Or.inr rfl) (pe_op op_mod (pe_fld (pv 3) rfl) pe_int)) (pss_cons (ps_set (i:=6) sc_gifts_of_cards.nd rfl (by first | exact Or.inl rfl | exact Or.inr rfl) (pe_call G_position_behind (hr.mono (by decide)) rfl T.m_position_behind T.F_position_behind.kp T.b_position_behind .nil pass0 (pa_cons (pv 3) (pa_cons (pv 4) pa_nil)))) (pss_cons (ps_set (i:=7) sc_gifts_of_cards.nd rfl (by first | exact Or.inl rfl | exact Or.inr rfl) (pe_op op_add (pe_call G_trick_won (hr.mono (by decide)) rfl T.m_trick_won T.F_trick_won.kp T.b_trick_won .nil pass0 (pa_cons (pv 6) (pa_cons (pv 5) pa_nil))) (pe_call G_value (hr.mono (by decide)) rfl T.m_value T.F_value.kp T.b_value .nil pass0 (pa_cons (pv 0) (pa_cons (pv 6) (pa_cons (pv 5) pa_nil)))))) (pss_cons (ps_augS (pv 2) (pv 5) get_list (pe_op op_sub (pe_call G_value (hr.mono (by decide)) rfl T.m_value T.F_value.kp T.b_value .nil pass0 (pa_cons (pv 0) (pa_cons (pv 3) (pa_cons (pv 5) pa_nil)))) (pv 7)) ip_add set_list) (pss_one (ps_set (i:=3) sc_gifts_of_cards.nd rfl (by first | exact Or.inl rfl | exact Or.inr rfl) (pv 6)))))))) (pss_one (ps_ret (pv 2)))))),?_⟩
  refine ⟨(by show 2 ≤ sizeLine; decide),fun G hG=>?_⟩
  have s1:=same_new hG (.lst [.int 0,.int 0])
  refine ⟨_,rfl,e,_,dx,fs,_,rfl,s1 _ _ h1,T.c_Ending,T.n_Ending_dealt,h3,dd,d,rfl,h8.same s1,O.lt,fun p0 H2 s2 hp2=>?_⟩
  have s02:=s1.trans s2
  have nGk:G ≠ kn:=fun z=>by rw [z,hk] at hG; cases hG
  have npk:pl ≠ kn:=ne_of h9 hk (by intro z; cases z)
  refine ⟨_,rfl,e,_,dx,fs,_,rfl,s02 _ _ h1,T.c_Ending,T.n_Ending_played,h4,pl,rfl,⟨_,SqL.of (s02 _ _ h9)⟩,?_⟩
  refine for_list (K:=K) (a:=pl) (xs:=nints l) (fun i σ H'=>∃ (p1:Addr) (kvs':List (List Key × V)) (v4 v5 v6 v7:Option V),σ = [some (.ref j),some (.ref e),some (.ref G),some (.ref p1),v4,v5,v6,v7] ∧ But kn H H' ∧ H' kn = some (.dT kvs') ∧ VMemo d kvs' ∧ PosAt A H' p1 d ((l.take i).foldl (behind d) (startM d)) ∧
   H' G = some (.lst [.int (gifts d 0 (l.take i) (startM d)),.int (gifts d 1 (l.take i) (startM d))]) ∧ kvs'.length + 2 * sc (mheld d ((l.take i).foldl (behind d) (startM d))) ≤ kvs.length + 2 * sc (mheld d (startM d)))
   ⟨p0,kvs,none,none,none,none,rfl,s02.but kn,s02 _ _ hk,M,hp2,s2 _ _ upd_same,Nat.le_refl _⟩ (fun i σ H' _ ⟨_,_,_,_,_,_,_,b,_⟩=>SqL.of (b _ _ h9 npk)) ?_ ?_
  ·rintro i x σ H3 hi ⟨p1,kvs3,v4,v5,v6,v7,rfl,b3,hk3,M3,hp3,hG3,hl3⟩
   obtain ⟨c,hc,rfl⟩:=ints_at hi
   have ht:=hR.take i
   have hn:=hR.next hc
   have R3:=(ht.held O).rel
   have hfo:(l.take (i + 1)).foldl (behind d) (startM d) = behind d ((l.take i).foldl (behind d) (startM d)) c:=by
    rw [take_snoc hc,List.foldl_append]
    rfl
   have g0:=gifts_snoc (d:=d) 0 c (l.take i) (startM d)
   have g1:=gifts_snoc (d:=d) 1 c (l.take i) (startM d)
   rw [← take_snoc hc] at g0 g1
   generalize (l.take i).foldl (behind d) (startM d) = m3 at hp3 hl3 hn R3 hfo g0 g1
   have hh:=may_sub hn
   have hbd:=R3.held_behind O hh
   obtain ⟨q,hq⟩:∃ q,mheld d m3 = q + 1:=⟨mheld d m3 - 1,by omega⟩
   have hscq:sc (mheld d m3) = cap (q + 1) + sc q:=by rw [hq]; rfl
   have hcq:=cap_mono1 q
   have hx3:=b3.x hk
   obtain ⟨ddp,pdx,pfs,hdp,hpp,l1,l2,l3,l4,l5,l6,l7⟩:=id hp3
   have hs4:=R3.seat4
   refine ⟨_,rfl,p1,_,pdx,pfs,_,rfl,hpp,T.c_Position,T.n_Position_seat,l3,_,_,rfl,rfl,(by show (0:Int) < 2; decide),?_⟩
   have esd:((m3.seat:Nat):Int) % 2 = ((m3.seat % 2:Nat):Int):=by omega
   dsimp only
   rw [esd]
   have hs2:m3.seat % 2 < 2:=Nat.mod_lt _ (by decide)
   generalize hsd:m3.seat % 2 = sd at hs2 g0 g1
   refine ⟨_,rfl,_,rfl,p1,d,m3,c,rfl,hp3,(mem_hand.mp hh).2,card52 O R3.seat4 hh,fun p4 H4 s4 hp4=>?_⟩
   refine ⟨_,rfl,_,rfl,p4,d,behind d m3 c,sd,rfl,hp4,?_⟩
   refine ⟨_,rfl,_,rfl,_,rfl,j,kn,p4,d,behind d m3 c,_,kvs3,sd,rfl,hs2,(hj.x hx3).x s4.x,s4 _ _ hk3,M3,hp4,O,R3.step O hh,?_,fun H5 kvs5 b5 hk5 M5 l5'=>?_⟩
   ·rw [show mheld d (behind d m3 c) = q by omega]
    omega
   rw [show mheld d (behind d m3 c) = q by omega] at l5'
   refine ⟨_,_,rfl,rfl,?_⟩
   have nGk4:G ≠ kn:=nGk
   have hG5:=b5 _ _ (s4 _ _ hG3) nGk
   have b45:But kn H3 H5:=fun b o e n=>b5 _ _ (s4 _ _ e) n
   have hx5:=b45.x hk3
   have hsdc:sd = 0 ∨ sd = 1:=by omega
   refine ⟨_,rfl,_,rfl,G,_,sd,.int (gifts d sd (l.take i) (startM d)),rfl,rfl,hG5,?_,by omega,?_⟩
   ·rcases hsdc with q | q <;> rw [q] <;> rfl
   refine ⟨_,rfl,_,rfl,_,rfl,j,kn,p1,d,m3,_,kvs5,sd,rfl,hs2,(hj.x hx3).x hx5,hk5,M5,hp3.x hx5,O,R3,?_,fun H6 kvs6 b6 hk6 M6 l6'=>?_⟩
   ·rw [hq]
    omega
   rw [hq] at l6'
   have hG6:=b6 _ _ hG5 nGk
   refine ⟨_,rfl,_,_,rfl,rfl,_,_,rfl,rfl,G,_,_,sd,rfl,rfl,hG6,?_,?_⟩
   ·rcases hsdc with q | q <;> rw [q] <;> rfl
   have b36:But kn H3 H6:=fun b o e n=>b6 _ _ (b45 _ _ e n) n
   have hp46:PosAt A H6 p4 d (behind d m3 c):=(hp4.x (b5.x (s4 _ _ hk3))).x (b6.x hk5)
   refine ⟨_,rfl,p4,kvs6,_,_,_,_,rfl,fun b o e n=>?_,?_,M6,?_,?_,?_⟩
   ·rw [upd_ne (ne_of_none e hG)]
    exact b36 _ _ (b3 _ _ e n) n
   ·rw [upd_ne (Ne.symm nGk)]
    exact hk6
   ·rw [hfo]
    obtain ⟨dd4,dx4,fs4,⟨ddx,hx,dfs,hs,q1,q2,q3,q4,q5,q6,q7⟩,r1,r2⟩:=hp46
    have sG:∀ b o,H6 b = some o → (∀ ys,o ≠ HO.lst ys) → ∀ z,upd H6 G z b = some o:=fun b o e n z=>by rw [upd_ne (fun w=>by rw [w,hG6] at e; cases e; exact n _ rfl)]; exact e
    exact ⟨dd4,dx4,fs4,⟨ddx,hx,dfs,hs,sG _ _ q1 (fun _ z=>nomatch z) _,q2,q3,q4,sG _ _ q5 (fun _ z=>nomatch z) _,q6,fun i h e=>let ⟨b,e1,e2⟩:=q7 i h e; ⟨b,e1,sG _ _ e2 (fun _ z=>nomatch z) _⟩⟩,sG _ _ r1 (fun _ z=>nomatch z) _,r2⟩
   ·rw [upd_same,g0,g1]
    have vs:((VSby sd d m3 c:Nat):Int) = ((won (behind d m3 c) sd:Nat):Int) + ((VS sd d (behind d m3 c):Nat):Int):=Int.natCast_add _ _
    rcases hsdc with q | q
    ·subst q
     rw [if_pos rfl,if_neg (by decide),Int.add_zero,vs]
     rfl
    ·subst q
     rw [if_neg (by decide),if_pos rfl,Int.add_zero,vs]
     rfl
   ·rw [hfo,show mheld d (behind d m3 c) = q by omega]
    omega
  ·rintro σ H3 ⟨p1,kvs3,v4,v5,v6,v7,rfl,b3,hk3,M3,hp3,hG3,hl3⟩
   rw [ints_len,List.take_length] at hG3 hl3
   exact ⟨_,rfl,k G H3 kvs3 b3 hk3 M3 (by omega) hG3⟩
def claimNums (s:Vbbraf.State):Option Vbbrag.Claim → List Nat
 | none=>[0,0]
 | some c=>[c.side,Vbbrag.valueFor c.side s.now - c.award]
def sp_acl (A:Adr):Sp:=fun vs H Q _=>∃ (j kn e pl:Addr) (d:Deal) (l:List Nat) (m:MP) (s:Vbbraf.State) (cl:Option Vbbrag.Claim) (kvs:List (List Key × V)),vs = [.ref j,.ref e] ∧ VaAt A H j kn ∧ H kn = some (.dT kvs) ∧ VMemo d kvs ∧ EndAt A H e pl d l m s cl ∧ DealOk d ∧ Rel d m s.now ∧ ClOk d m cl ∧
 kvs.length + cap (mheld d m) ≤ lim ∧ ∀ (r:Addr) (H':Hp) (kvs':List (List Key × V)),But kn H H' → H' kn = some (.dT kvs') → VMemo d kvs' → kvs'.length ≤ kvs.length + cap (mheld d m) → H' r = some (.lst (nints (claimNums s cl))) → Q (.ref r) H'
theorem ok_account_of_claim (T:Txt K mg A):FnOk P w K mg base CX0 40 A.f_account_of_claim A.d_account_of_claim ["valuing","ending"] (sp_acl A):=by
 have G_value:=ok_value (P:=P) (w:=w) (base:=base) T
 refine T.F_account_of_claim.ok sc_account_of_claim (fun vs H Q E h=>?_) (fun cdv A' outer s H vs Q E hr h=>?_)
 ·obtain ⟨j,kn,e,pl,d,l,m,s,cl,kvs,rfl,_⟩:=h
  rfl
 ·obtain ⟨j,kn,e,pl,d,l,m,st,cl,kvs,rfl,hj,hk,M,hE,O,R,hC,hcap,k⟩:=h
  obtain ⟨dx,dd,po,wo,cv,fs,h1,h2,h3,h4,h5,h6,h7,h8,h9,h10,h11,h12⟩:=id hE
  refine ⟨_,(pss_cons (ps_set (i:=2) sc_account_of_claim.nd rfl (by first | exact Or.inl rfl | exact Or.inr rfl) (pe_fld (pv 1) rfl)) (pss_cons (ps_if (pt_cmp (pc_isN (pv 2))) (pss_one (ps_ret (pe_lst (pa_cons pe_int (pa_cons pe_int pa_nil))))) pss_nil) (pss_one (ps_ret (pe_lst (pa_cons (pe_fld (pv 2) rfl) (pa_cons (pe_op op_sub (pe_call G_value (hr.mono (by decide)) rfl T.m_value T.F_value.kp T.b_value .nil pass0 (pa_cons (pv 0) (pa_cons (pe_fld (pv 1) rfl) (pa_cons (pe_fld (pv 2) rfl) pa_nil)))) (pe_fld (pv 2) rfl)) pa_nil))))))),?_⟩
  refine ⟨_,rfl,e,_,dx,fs,_,rfl,h1,T.c_Ending,T.n_Ending_claim,h7,?_⟩
  cases cl with
  | none=>
   have hcv:cv = .non:=h12
   subst hcv
   refine ⟨_,rfl,_,rfl,?_⟩
   refine ifD (fun _=>?_) fun z=>absurd rfl z
   refine ⟨(by show 2 ≤ sizeLine; decide),fun r hr0=>?_⟩
   exact k r _ kvs ((same_new hr0 _).but kn) (same_new hr0 _ _ _ hk) M (Nat.le_add_right _ _) upd_same
  | some c=>
   obtain ⟨ca,cx,gs,rfl,c1,c2,c3,c4,c5,c6⟩:=h12
   obtain ⟨hs2,haw⟩:=hC c rfl
   refine ⟨_,rfl,_,rfl,?_⟩
   refine ifD (fun z=>nomatch z) fun _=>?_
   refine ⟨_,rfl,ca,_,cx,gs,_,rfl,c1,T.c_Claim,T.n_Claim_side,c2,?_⟩
   refine ⟨_,rfl,_,rfl,e,_,dx,fs,_,rfl,h1,T.c_Ending,T.n_Ending_position,h5,_,rfl,ca,_,cx,gs,_,rfl,c1,T.c_Claim,T.n_Claim_side,c2,j,kn,po,d,m,st.now,kvs,c.side,rfl,hs2,hj,hk,M,h10,O,R,hcap,fun H1 kvs1 b1 hk1 M1 l1=>?_⟩
   have c1':=b1 _ _ c1 (ne_of c1 hk (by intro z; cases z))
   refine ⟨_,rfl,ca,_,cx,gs,_,rfl,c1',T.c_Claim,T.n_Claim_awarded,c6,_,_,rfl,rfl,(by show 2 ≤ sizeLine; decide),fun r hr0=>?_⟩
   have s2:=same_new hr0 (.lst [.int (c.side:Int),.int (((VS c.side d m:Nat):Int) - (c.award:Int))])
   refine k r _ kvs1 (fun b o q n=>s2 _ _ (b1 _ _ q n)) (s2 _ _ hk1) M1 l1 ?_
   rw [upd_same]
   show _ = some (HO.lst [.int (c.side:Int),.int ((Vbbrag.valueFor c.side st.now - c.award:Nat):Int)])
   rw [R.valueFor O,Int.natCast_sub haw]
def sp_open (A:Adr):Sp:=fun vs H Q _=>∃ (j kn e pl:Addr) (d:Deal) (l:List Nat) (m:MP) (s:Vbbraf.State) (cl:Option Vbbrag.Claim) (kvs:List (List Key × V)),vs = [.ref j,.ref e] ∧ VaAt A H j kn ∧ H kn = some (.dT kvs) ∧ VMemo d kvs ∧ EndAt A H e pl d l m s cl ∧ DealOk d ∧ Rel d m s.now ∧
 kvs.length + cap (mheld d m) ≤ lim ∧ ∀ H':Hp,But kn H H' → Q (.int ((if cl.isNone = true then Vbbraf.value s.now else 0:Nat):Int)) H'
theorem ok_value_still_open (T:Txt K mg A):FnOk P w K mg base CX0 40 A.f_value_still_open A.d_value_still_open ["valuing","ending"] (sp_open A):=by
 have G_value:=ok_value (P:=P) (w:=w) (base:=base) T
 refine T.F_value_still_open.ok sc_value_still_open (fun vs H Q E h=>?_) (fun cdv A' outer s H vs Q E hr h=>?_)
 ·obtain ⟨j,kn,e,pl,d,l,m,s,cl,kvs,rfl,_⟩:=h
  rfl
 ·obtain ⟨j,kn,e,pl,d,l,m,st,cl,kvs,rfl,hj,hk,M,hE,O,R,hcap,k⟩:=h
  obtain ⟨dx,dd,po,wo,cv,fs,h1,h2,h3,h4,h5,h6,h7,h8,h9,h10,h11,h12⟩:=id hE
  refine ⟨_,(pss_cons (ps_if (pt_cmp (pc_notN (pe_fld (pv 1) rfl))) (pss_one (ps_ret pe_int)) pss_nil) (pss_one (ps_ret (pe_call G_value (hr.mono (by decide)) rfl T.m_value T.F_value.kp T.b_value .nil pass0 (pa_cons (pv 0) (pa_cons (pe_fld (pv 1) rfl) (pa_cons pe_int pa_nil))))))),?_⟩
  refine ⟨_,rfl,e,_,dx,fs,_,rfl,h1,T.c_Ending,T.n_Ending_claim,h7,_,rfl,?_⟩
  cases cl with
  | none=>
   have hcv:cv = .non:=h12
   subst hcv
   refine ifN (fun z=>absurd rfl z) fun _=>?_
   refine ⟨_,rfl,_,rfl,e,_,dx,fs,_,rfl,h1,T.c_Ending,T.n_Ending_position,h5,j,kn,po,d,m,st.now,kvs,0,rfl,by decide,hj,hk,M,h10,O,R,hcap,fun H1 kvs1 b1 hk1 M1 l1=>?_⟩
   have:=k H1 b1
   rw [if_pos (show (none:Option Vbbrag.Claim).isNone = true from rfl),R.value O] at this
   exact this
  | some c=>
   obtain ⟨ca,cx,gs,rfl,c1,_⟩:=h12
   refine ifN (fun _=>?_) fun z=>nomatch z
   exact k H (fun _ _ q _=>q)
def sp_account_of (A:Adr):Sp:=fun vs H Q _=>∃ (e pl:Addr) (d:Deal) (l:List Nat) (m:MP) (s:Vbbraf.State) (cl:Option Vbbrag.Claim),vs = [.ref e] ∧ EndAt A H e pl d l m s cl ∧ DealOk d ∧ Reach d l m s ∧ ClOk d m cl ∧
 ∀ (r:Addr) (H':Hp),Same H H' → H' r = some (.lst (nints (Vbbrag.accountOf ⟨s,cl⟩))) → Q (.ref r) H'
theorem ok_account_of (T:Txt K mg A):FnOk P w K mg base CX0 41 A.f_account_of A.d_account_of ["ending"] (sp_account_of A):=by
 have G_Valuing_init:=ok_Valuing_init (P:=P) (w:=w) (base:=base) T
 have G_value:=ok_value (P:=P) (w:=w) (base:=base) T
 have G_start:=ok_start (P:=P) (w:=w) (base:=base) T
 have G_gifts_of_cards:=ok_gifts (P:=P) (w:=w) (base:=base) T
 have G_account_of_claim:=ok_account_of_claim (P:=P) (w:=w) (base:=base) T
 have G_value_still_open:=ok_value_still_open (P:=P) (w:=w) (base:=base) T
 have G_score_of:=ok_score_of (P:=P) (w:=w) (base:=base) T
 refine T.F_account_of.ok sc_account_of (fun vs H Q E h=>?_) (fun cdv A' outer s H vs Q E hr h=>?_)
 ·obtain ⟨e,pl,d,l,m,s,cl,rfl,_⟩:=h
  rfl
 ·obtain ⟨e,pl,d,l,m,st,cl,rfl,hE,O,hR,hC,k⟩:=h
  obtain ⟨dx,dd,po,wo,cv,fs,h1,h2,h3,h4,h5,h6,h7,h8,h9,h10,h11,h12⟩:=id hE
  have hH:=hR.held O
  have R:=hH.rel
  have R0:=rel_start O
  have c0:=cap_le (R0.held16 O)
  have c1:=cap_le (R.held16 O)
  have sc0:=sc_le (R0.held16 O)
  refine ⟨_,(pss_cons (ps_set (i:=1) sc_account_of.nd rfl (by first | exact Or.inl rfl | exact Or.inr rfl) (pe_make0 T.M_Valuing G_Valuing_init (hr.mono (by decide)) rfl T.m_Valuing T.b_Valuing_init .nil pass0)) (pss_cons (ps_set (i:=2) sc_account_of.nd rfl (by first | exact Or.inl rfl | exact Or.inr rfl) (pe_call G_value (hr.mono (by decide)) rfl T.m_value T.F_value.kp T.b_value .nil pass0 (pa_cons (pv 1) (pa_cons (pe_call G_start (hr.mono (by decide)) rfl T.m_start T.F_start.kp T.b_start .nil pass0 (pa_cons (pe_fld (pv 0) rfl) pa_nil)) (pa_cons pe_int pa_nil))))) (pss_cons (ps_set (i:=3) sc_account_of.nd rfl (by first | exact Or.inl rfl | exact Or.inr rfl) (pe_call G_gifts_of_cards (hr.mono (by decide)) rfl T.m_gifts_of_cards T.F_gifts_of_cards.kp T.b_gifts_of_cards .nil pass0 (pa_cons (pv 1) (pa_cons (pv 0) pa_nil)))) (pss_cons (ps_set (i:=4) sc_account_of.nd rfl (by first | exact Or.inl rfl | exact Or.inr rfl) (pe_call G_account_of_claim (hr.mono (by decide)) rfl T.m_account_of_claim T.F_account_of_claim.kp T.b_account_of_claim .nil pass0 (pa_cons (pv 1) (pa_cons (pv 0) pa_nil)))) (pss_one (ps_ret (pe_op op_cat (pe_op op_cat (pe_op op_cat (pe_lst (pa_cons (pv 2) pa_nil)) (pv 3)) (pv 4)) (pe_lst (pa_cons (pe_ix ix_list (pe_call G_score_of (hr.mono (by decide)) rfl T.m_score_of T.F_score_of.kp T.b_score_of .nil pass0 (pa_cons (pv 0) pa_nil)) pe_int (fun _ _=>rfl)) (pa_cons (pe_call G_value_still_open (hr.mono (by decide)) rfl T.m_value_still_open T.F_value_still_open.kp T.b_value_still_open .nil pass0 (pa_cons (pv 1) (pa_cons (pv 0) pa_nil))) pa_nil)))))))))),?_⟩
  intro j jdx nj njdx nej
  refine ⟨j,jdx,rfl,upd_same,fun H1 gs kn g1 a1 nkj nk hk k1=>⟨rfl,?_⟩⟩
  have nk0:H kn = none:=by
   have z:=nk
   rw [upd_ne nkj] at z
   by_cases e2:kn = jdx
   ·rw [e2,upd_same] at z
    cases z
   ·rw [upd_ne e2] at z
    exact z
  have s1:Same H H1:=fun b o q=>by
   rw [k1 b (ne_of_none q nj) (ne_of_none q nk0),upd_ne (ne_of_none q nj),upd_ne (ne_of_none q njdx)]
   exact q
  have hj:VaAt A H1 j kn:=⟨jdx,gs,g1,a1⟩
  refine ⟨_,rfl,_,rfl,e,_,dx,fs,_,rfl,s1 _ _ h1,T.c_Ending,T.n_Ending_dealt,h3,dd,d,rfl,h8.same s1,O.lt,fun p0 H2 s2 hp2=>?_⟩
  refine ⟨j,kn,p0,d,startM d,firstP d,[],0,rfl,by decide,hj.x s2.x,s2 _ _ hk,VMemo.nil d,hp2,O,R0,?_,fun H3 kvs3 b3 hk3 M3 l3=>?_⟩
  ·unfold lim
   simp
   omega
  have nkn:∀ {b:Addr} {o:HO},H b = some o → b ≠ kn:=fun q=>ne_of_none q nk0
  have s03:Same H H3:=fun b o q=>b3 _ _ (s2 _ _ (s1 _ _ q)) (nkn q)
  have hj3:VaAt A H3 j kn:=(hj.x s2.x).x (b3.x (s2 _ _ hk))
  have l3':kvs3.length ≤ 1648469:=by
   have:([]:List (List Key × V)).length = 0:=rfl
   omega
  refine ⟨_,rfl,_,rfl,j,kn,e,pl,d,l,m,st,cl,kvs3,rfl,hj3,hk3,M3,hE.same s03,O,hR,?_,fun G H4 kvs4 b4 hk4 M4 l4 hG=>?_⟩
  ·unfold lim
   omega
  have s04:Same H H4:=fun b o q=>b4 _ _ (s03 _ _ q) (nkn q)
  have hj4:=hj3.x (b4.x hk3)
  refine ⟨_,rfl,_,rfl,j,kn,e,pl,d,l,m,st,cl,kvs4,rfl,hj4,hk4,M4,hE.same s04,O,R,hC,?_,fun C H5 kvs5 b5 hk5 M5 l5 hCl=>?_⟩
  ·unfold lim
   omega
  have s05:Same H H5:=fun b o q=>b5 _ _ (s04 _ _ q) (nkn q)
  have hj5:=hj4.x (b5.x hk4)
  have nGk:G ≠ kn:=ne_of hG hk4 (by intro z; cases z)
  have hG5:=b5 _ _ hG nGk
  obtain ⟨es,ea,eg⟩:=hR.account O
  refine ⟨_,rfl,(by show 1 ≤ sizeLine; decide),fun x1 hx1=>?_⟩
  have t1:=same_new hx1 (.lst [.int ((VS 0 d (startM d):Nat):Int)])
  refine ⟨_,rfl,x1,G,_,_,rfl,rfl,upd_same,t1 _ _ hG5,(by show 3 ≤ sizeLine; decide),fun x2 hx2=>?_⟩
  have t2:=same_new hx2 (.lst ([.int ((VS 0 d (startM d):Nat):Int)] ++ [.int (gifts d 0 l (startM d)),.int (gifts d 1 l (startM d))]))
  have hC7:=t2 _ _ (t1 _ _ hCl)
  have hcn:(nints (claimNums st cl)).length = 2:=by
   rw [ints_len]
   cases cl <;> rfl
  refine ⟨_,rfl,x2,C,_,_,rfl,rfl,upd_same,hC7,(by rw [hcn]; show 5 ≤ sizeLine; decide),fun x3 hx3=>?_⟩
  have t3:=same_new hx3 (.lst (([.int ((VS 0 d (startM d):Nat):Int)] ++ [.int (gifts d 0 l (startM d)),.int (gifts d 1 l (startM d))]) ++ nints (claimNums st cl)))
  have s08:=((s05.trans t1).trans t2).trans t3
  refine ⟨_,rfl,e,pl,d,l,m,st,cl,rfl,hE.same s08,O,R,hC,fun sr H9 s9 hsr=>?_⟩
  refine ⟨sr,_,_,_,rfl,rfl,SqL.of hsr,(show atI _ ((0:Nat):Int) = some _ from atI_nat rfl),?_⟩
  have s59:=((t1.trans t2).trans t3).trans s9
  have s09:=s05.trans s59
  refine ⟨_,rfl,_,rfl,j,kn,e,pl,d,l,m,st,cl,kvs5,rfl,hj5.x s59.x,s59 _ _ hk5,M5,hE.same s09,O,R,?_,fun H10 b10=>?_⟩
  ·unfold lim
   omega
  refine ⟨(by show 2 ≤ sizeLine; decide),fun x4 hx4=>?_⟩
  have t4:=same_new hx4 (.lst [.int ((Vbbrag.score ⟨st,cl⟩).1:Int),.int ((if cl.isNone = true then Vbbraf.value st.now else 0:Nat):Int)])
  have hx39:H9 x3 = some (.lst (([.int ((VS 0 d (startM d):Nat):Int)] ++ [.int (gifts d 0 l (startM d)),.int (gifts d 1 l (startM d))]) ++ nints (claimNums st cl))):=s9 _ _ upd_same
  have hx310:=b10 _ _ hx39 (ne_of hx39 (s59 _ _ hk5) (by intro z; cases z))
  refine ⟨x3,x4,_,_,rfl,rfl,t4 _ _ hx310,upd_same,(by rw [List.length_append,hcn]; show 7 ≤ sizeLine; decide),fun x5 hx5=>?_⟩
  have t5:=same_new hx5 (.lst ((([.int ((VS 0 d (startM d):Nat):Int)] ++ [.int (gifts d 0 l (startM d)),.int (gifts d 1 l (startM d))]) ++ nints (claimNums st cl)) ++ [.int ((Vbbrag.score ⟨st,cl⟩).1:Int),.int ((if cl.isNone = true then Vbbraf.value st.now else 0:Nat):Int)]))
  refine k x5 _ (fun b o q=>t5 _ _ (t4 _ _ (b10 _ _ (s09 _ _ q) (nkn q)))) ?_
  rw [upd_same]
  have e0:Vbbraf.value st.first = V0 d (startM d):=by rw [hH.first]; exact R0.value O
  have ac:(match Vbbraf.account st.first st.played with | none=>[] | some y=>y.1) = es:=by
   rw [hH.first,hH.played,ea]
  have ae:Vbbrag.accountOf ⟨st,cl⟩ = V0 d (startM d) :: Vbbraf.givenBy 0 es :: Vbbraf.givenBy 1 es :: (claimNums st cl ++ [(Vbbrag.score ⟨st,cl⟩).1,if cl.isNone = true then Vbbraf.value st.now else 0]):=by
   unfold Vbbrag.accountOf
   show Vbbraf.value st.first :: Vbbraf.givenBy 0 (match Vbbraf.account st.first st.played with | none=>[] | some y=>y.1) :: Vbbraf.givenBy 1 (match Vbbraf.account st.first st.played with | none=>[] | some y=>y.1) :: _ = _
   rw [ac,e0]
   cases cl <;> rfl
  rw [ae]
  congr 1
  unfold nints
  rw [List.map_cons,List.map_cons,List.map_cons,List.map_append,eg 0,eg 1]
  rfl
def tops:Nat → List Nat
 | 0=>[4,3]
 | 1=>[51]
 | 4=>[1,2]
 | 5=>[1,4,2]
 | 7=>[1,2]
 | 8=>[1]
 | 9=>[1,4,2]
 | 10=>[1,2]
 | 13=>[1,2]
 | _=>[]
def nrows:Nat → Nat
 | 0=>4
 | 4=>1
 | 5=>1
 | 7=>1
 | 9=>1
 | 10=>1
 | 13=>1
 | _=>0
def longest:Nat → Nat
 | 0=>4
 | 4=>16
 | 5=>16
 | 7=>16
 | 9=>16
 | 10=>16
 | 13=>16
 | _=>0
theorem shape_nat {x:Int} {n k:Nat} (h:PyVbbrag.shape x = some (n,k)):∃ a:Nat,x = (a:Int) ∧ a < 15 ∧ n = (tops a).length ∧ k = nrows a:=by
 have key:∀ a:Nat,a < 15 → PyVbbrag.shape (a:Int) = some ((tops a).length,nrows a):=by
  intro a ha
  have:a = 0 ∨ a = 1 ∨ a = 2 ∨ a = 3 ∨ a = 4 ∨ a = 5 ∨ a = 6 ∨ a = 7 ∨ a = 8 ∨ a = 9 ∨ a = 10 ∨ a = 11 ∨ a = 12 ∨ a = 13 ∨ a = 14:=by omega
  rcases this with e | e | e | e | e | e | e | e | e | e | e | e | e | e | e <;> subst e <;> rfl
 have rg:0 ≤ x ∧ x < 15:=by
  unfold PyVbbrag.shape at h
  refine Classical.byContradiction fun z=>?_
  rw [if_neg (by omega),if_neg (by omega),if_neg (by omega),if_neg (by omega),if_neg (by omega),if_neg (by omega),if_neg (by omega),if_neg (by omega),if_neg (by omega),if_neg (by omega),if_neg (by omega),if_neg (by omega),if_neg (by omega),if_neg (by omega),if_neg (by omega)] at h
  cases h
 refine ⟨x.toNat,by omega,by omega,?_⟩
 have e:x = ((x.toNat:Nat):Int):=by omega
 have:=key x.toNat (by omega)
 rw [← e,h] at this
 injection this with this
 injection this with h1 h2
 exact ⟨h1,h2⟩
def intV (l:List Int):List V:=l.map V.int
theorem forms_at (T:Txt K mg A) {H:Hp} {a:Nat} (ha:a < 15):∃ f t,atI ([.ref A.t_FORMS_0,.ref A.t_FORMS_1,.ref A.t_FORMS_2,.ref A.t_FORMS_3,.ref A.t_FORMS_4,.ref A.t_FORMS_5,.ref A.t_FORMS_6,.ref A.t_FORMS_7,.ref A.t_FORMS_8,.ref A.t_FORMS_9,.ref A.t_FORMS_10,.ref A.t_FORMS_11,.ref A.t_FORMS_12,.ref A.t_FORMS_13,.ref A.t_FORMS_14]:List V) ((a:Nat):Int) = some (.ref f) ∧
  SqT K H f [.ref t,.int (nrows a:Int),.int (longest a:Int)] ∧ SqT K H t (nints (tops a)):=by
 have:a = 0 ∨ a = 1 ∨ a = 2 ∨ a = 3 ∨ a = 4 ∨ a = 5 ∨ a = 6 ∨ a = 7 ∨ a = 8 ∨ a = 9 ∨ a = 10 ∨ a = 11 ∨ a = 12 ∨ a = 13 ∨ a = 14:=by omega
 rcases this with e | e | e | e | e | e | e | e | e | e | e | e | e | e | e <;> subst e
 ·exact ⟨_,_,atI_nat rfl,.inr T.q_FORMS_0,.inr T.q_FORMS_0_0⟩
 ·exact ⟨_,_,atI_nat rfl,.inr T.q_FORMS_1,.inr T.q_FORMS_1_0⟩
 ·exact ⟨_,_,atI_nat rfl,.inr T.q_FORMS_2,.inr T.q_FORMS_2_0⟩
 ·exact ⟨_,_,atI_nat rfl,.inr T.q_FORMS_3,.inr T.q_FORMS_3_0⟩
 ·exact ⟨_,_,atI_nat rfl,.inr T.q_FORMS_4,.inr T.q_FORMS_4_0⟩
 ·exact ⟨_,_,atI_nat rfl,.inr T.q_FORMS_5,.inr T.q_FORMS_5_0⟩
 ·exact ⟨_,_,atI_nat rfl,.inr T.q_FORMS_6,.inr T.q_FORMS_6_0⟩
 ·exact ⟨_,_,atI_nat rfl,.inr T.q_FORMS_7,.inr T.q_FORMS_7_0⟩
 ·exact ⟨_,_,atI_nat rfl,.inr T.q_FORMS_8,.inr T.q_FORMS_8_0⟩
 ·exact ⟨_,_,atI_nat rfl,.inr T.q_FORMS_9,.inr T.q_FORMS_9_0⟩
 ·exact ⟨_,_,atI_nat rfl,.inr T.q_FORMS_10,.inr T.q_FORMS_10_0⟩
 ·exact ⟨_,_,atI_nat rfl,.inr T.q_FORMS_11,.inr T.q_FORMS_11_0⟩
 ·exact ⟨_,_,atI_nat rfl,.inr T.q_FORMS_12,.inr T.q_FORMS_12_0⟩
 ·exact ⟨_,_,atI_nat rfl,.inr T.q_FORMS_13,.inr T.q_FORMS_13_0⟩
 ·exact ⟨_,_,atI_nat rfl,.inr T.q_FORMS_14,.inr T.q_FORMS_14_0⟩
theorem cut_mid (L:List Int) {lo hi:Nat} (h1:lo ≤ hi) (h2:hi ≤ L.length):cutV (intV L) (some (lo:Int)) (some (hi:Int)) = intV ((L.drop lo).take (hi - lo)):=by
 unfold cutV intV
 rw [List.length_map]
 have e:∀ n:Nat,n ≤ L.length → ∀ dflt,HT.sIx L.length dflt (some (n:Int)) = n:=fun n hn dflt=>by
  show (if (n:Int) < 0 then ((n:Int) + (L.length:Int)).toNat else min (n:Int).toNat L.length) = _
  rw [if_neg (by omega),Int.toNat_natCast,Nat.min_eq_left hn]
 rw [e lo (by omega),e hi h2,← List.map_drop,← List.map_take]
def RowsAt (H:Hp) (as:List Addr) (xs:List (List Int)):Prop:=as.length = xs.length ∧ ∀ (i:Nat) (x:List Int),xs[i]? = some x → ∃ b,as[i]? = some b ∧ H b = some (.lst (intV x))
theorem RowsAt.same {H H':Hp} {as:List Addr} {xs:List (List Int)} (h:RowsAt H as xs) (s:Same H H'):RowsAt H' as xs:=⟨h.1,fun i l e=>let ⟨b,e1,e2⟩:=h.2 i l e; ⟨b,e1,s _ _ e2⟩⟩
theorem RowsAt.snoc {H:Hp} {as:List Addr} {xs:List (List Int)} {b:Addr} {x:List Int} (h:RowsAt H as xs) (hb:H b = some (.lst (intV x))):RowsAt H (as ++ [b]) (xs ++ [x]):=by
 refine ⟨by rw [List.length_append,List.length_append,h.1]; rfl,fun i l e=>?_⟩
 by_cases q:i < xs.length
 ·rw [List.getElem?_append_left q] at e
  obtain ⟨c,e1,e2⟩:=h.2 i l e
  exact ⟨c,by rw [List.getElem?_append_left (by rw [h.1]; exact q)]; exact e1,e2⟩
 ·rw [List.getElem?_append_right (by omega)] at e
  have hi:i - xs.length = 0:=by
   by_cases z:i - xs.length = 0
   ·exact z
   ·rw [List.getElem?_eq_none (by simp; omega)] at e
    cases e
  rw [hi] at e
  have:x = l:=by simpa using e
  subst this
  exact ⟨b,by rw [List.getElem?_append_right (by rw [h.1]; omega),h.1,hi]; rfl,hb⟩
def CallAt (A:Adr) (H:Hp) (r:Addr) (a:Nat) (ns:List Int) (xs:List (List Int)) (e:Nat) (nl rl:Addr) (as:List Addr):Prop:=∃ (dx:Addr) (fs:List (Str × V)),H r = some (.ins A.c_Call dx fs) ∧ fs.lookup ("number":Str) = some (.int (a:Int)) ∧ fs.lookup ("numbers":Str) = some (.ref nl) ∧ fs.lookup ("rows":Str) = some (.ref rl) ∧ fs.lookup ("end":Str) = some (.int (e:Int)) ∧
 H nl = some (.lst (intV ns)) ∧ H rl = some (.lst (as.map V.ref)) ∧ RowsAt H as xs
theorem CallAt.same {A:Adr} {H H':Hp} {r:Addr} {a:Nat} {ns:List Int} {xs:List (List Int)} {e:Nat} {nl rl:Addr} {as:List Addr} (h:CallAt A H r a ns xs e nl rl as) (s:Same H H'):CallAt A H' r a ns xs e nl rl as:=by
 obtain ⟨dx,fs,h1,h2,h3,h4,h5,h6,h7,h8⟩:=h
 exact ⟨dx,fs,s _ _ h1,h2,h3,h4,h5,s _ _ h6,s _ _ h7,h8.same s⟩
def sp_call_at (K:PySem.W.Frag) (A:Adr):Sp:=fun vs H Q _=>∃ (cl:Addr) (L:List Int) (p:Nat) (c:List (List Int)) (t:List Int),vs = [.ref cl,.int (p:Int)] ∧ SqL K H cl (intV L) ∧ L.length ≤ 17000 ∧ PyFlat.call PyVbbrag.shape (L.drop p) = some (c,t) ∧
 ∀ (r:Addr) (H':Hp) (a e:Nat) (ns:List Int) (xs:List (List Int)) (nl rl:Addr) (as:List Addr),Same H H' → c = ((a:Int) :: ns) :: xs → a < 15 → ns.length = (tops a).length → xs.length = nrows a → t = L.drop e → e ≤ L.length → CallAt A H' r a ns xs e nl rl as → Q (.ref r) H'
theorem ok_call_at (T:Txt K mg A):FnOk P w K mg base CX0 3 A.f_call_at A.d_call_at ["calls","place"] (sp_call_at K A):=by
 have G_Call_init:=ok_Call_init (P:=P) (w:=w) (base:=base) T
 refine T.F_call_at.ok sc_call_at (fun vs H Q E h=>?_) (fun cdv A' outer s H vs Q E hr h=>?_)
 ·obtain ⟨cl,L,p,c,t,rfl,_⟩:=h
  rfl
 ·obtain ⟨cl,L,p,c,t,rfl,hcl,hlen,hcall,k⟩:=h
  obtain ⟨x,n,kr,xs,hx,hshape,rfl,hpn,hrows⟩:=call_inv hcall
  obtain ⟨a,rfl,a15,rfl,rfl⟩:=shape_nat hshape
  have hxl:=rows_len hrows
  obtain ⟨f,tt,hf,hff,htt⟩:=forms_at (K:=K) (H:=H) T a15
  have at_:∀ {i:Nat} {z:Int},L[i]? = some z → atI (intV L) ((i:Nat):Int) = some (.int z):=fun {i z} e=>atI_nat (by unfold intV; rw [List.getElem?_map,e]; rfl)
  have keepT:∀ {H':Hp} {q:Addr} {ys:List V},Same H H' → SqT K H q ys → SqT K H' q ys:=fun {H' q ys} sm h=>by
   rcases h with (h | ⟨o,h⟩) | h
   ·exact .inl (.inl (sm _ _ h))
   ·exact .inl (.inr ⟨o,sm _ _ h⟩)
   ·exact .inr h
  refine ⟨_,(pss_cons (ps_set (i:=2) sc_call_at.nd rfl (by first | exact Or.inl rfl | exact Or.inr rfl) (pe_ix ix_tup (pe_glob (v:=V.ref A.t_FORMS) rfl T.m_FORMS rfl) (pe_ix ix_list (pv 0) (pv 1) (fun _ _=>rfl)) (fun _ _=>rfl))) (pss_cons (ps_set (i:=3) sc_call_at.nd rfl (by first | exact Or.inl rfl | exact Or.inr rfl) (pe_op op_add (pe_op op_add (pv 1) pe_int) (pe_callB call_len_seq (by rfl) T.z_len bt_len (pa_cons (pe_ix ix_tup (pv 2) pe_int (fun _ _=>rfl)) pa_nil)))) (pss_cons (ps_set (i:=4) sc_call_at.nd rfl (by first | exact Or.inl rfl | exact Or.inr rfl) (pe_slice sl_list (pv 0) (po_some (pe_op op_add (pv 1) pe_int)) (po_some (pv 3)))) (pss_cons (ps_set (i:=5) sc_call_at.nd rfl (by first | exact Or.inl rfl | exact Or.inr rfl) (pe_lst pa_nil)) (pss_cons (ps_while PassesOwn.never (pt_cmpR op_lt (pe_callB call_len_seq (by rfl) T.z_len bt_len (pa_cons (pv 5) pa_nil)) (pe_ix ix_tup (pv 2) pe_int (fun _ _=>rfl)) (nomark _)) (pss_cons (ps_set (i:=6) sc_call_at.nd rfl (by first | exact Or.inl rfl | exact Or.inr rfl) (pe_op op_add (pv 3) pe_int)) (pss_cons (ps_set (i:=3) sc_call_at.nd rfl (by first | exact Or.inl rfl | exact Or.inr rfl) (pe_op op_add (pv 6) (pe_ix ix_list (pv 0) (pv 3) (fun _ _=>rfl)))) (pss_one (ps_expr (pe_bm PySem.F.plainAttrs_list PySem.F.slot_list_append PySem.F.type_list_append mt_append (pv 5) (pa_cons (pe_slice sl_list (pv 0) (po_some (pv 6)) (po_some (pv 3))) pa_nil))))))) (pss_one (ps_ret (pe_make T.M_Call G_Call_init (hr.mono (by decide)) rfl T.m_Call T.b_Call_init .nil pass0 (pa_cons (pe_ix ix_list (pv 0) (pv 1) (fun _ _=>rfl)) (pa_cons (pv 4) (pa_cons (pv 5) (pa_cons (pv 3) pa_nil)))))))))))),?_⟩
  have keepL:∀ {H':Hp},Same H H' → SqL K H' cl (intV L):=fun sm=>sm.seq hcl
  refine ⟨_,rfl,_,rfl,cl,_,_,_,rfl,rfl,hcl,at_ hx,A.t_FORMS,_,_,_,rfl,rfl,.inr T.q_FORMS,hf,?_⟩
  refine ⟨_,rfl,_,_,rfl,rfl,_,rfl,f,_,_,_,rfl,rfl,hff,(show atI _ ((0:Nat):Int) = some _ from atI_nat rfl),tt,_,rfl,.inr htt,_,_,rfl,rfl,?_⟩
  have e1:((p:Nat):Int) + 1 + (((nints (tops a)).length:Nat):Int) = ((p + 1 + (tops a).length:Nat):Int):=by rw [ints_len]; omega
  have e2:((p:Nat):Int) + 1 = ((p + 1:Nat):Int):=by omega
  dsimp only
  rw [e1]
  refine ⟨_,rfl,_,rfl,_,_,rfl,rfl,_,rfl,_,rfl,_,rfl,cl,_,rfl,hcl,fun nl hnl=>?_⟩
  dsimp only
  rw [e2,cut_mid L (by omega) hpn,show p + 1 + (tops a).length - (p + 1) = (tops a).length by omega]
  have hnlen:((L.drop (p + 1)).take (tops a).length).length = (tops a).length:=by
   rw [List.length_take,List.length_drop]
   omega
  generalize (L.drop (p + 1)).take (tops a).length = ns at hnlen k
  have s1:=same_new hnl (.lst (intV ns))
  have hnl1:upd H nl (.lst (intV ns)) nl = some (.lst (intV ns)):=upd_same
  generalize upd H nl (.lst (intV ns)) = H1 at s1 hnl1
  refine ⟨Nat.zero_le _,fun rl hrl=>?_⟩
  have s2:=same_new hrl (.lst [])
  have nr4:nrows a ≤ 4:=by
   have:a = 0 ∨ a = 1 ∨ a = 2 ∨ a = 3 ∨ a = 4 ∨ a = 5 ∨ a = 6 ∨ a = 7 ∨ a = 8 ∨ a = 9 ∨ a = 10 ∨ a = 11 ∨ a = 12 ∨ a = 13 ∨ a = 14:=by omega
   rcases this with e | e | e | e | e | e | e | e | e | e | e | e | e | e | e <;> subst e <;> decide
  refine while_by (fun σ H'=>∃ (e i:Nat) (as:List Addr) (v6:Option V),σ = [some (.ref cl),some (.int (p:Int)),some (.ref f),some (.int (e:Int)),some (.ref nl),some (.ref rl),v6] ∧ i ≤ nrows a ∧ e ≤ L.length ∧ PyFlat.rows (nrows a - i) (L.drop e) = some (xs.drop i,t) ∧ Same H1 H' ∧ H' rl = some (.lst (as.map V.ref)) ∧ RowsAt H' as (xs.take i))
   (fun _ H'=>5 - lenAt rl H') ⟨p + 1 + (tops a).length,0,[],none,rfl,Nat.zero_le _,hpn,by rw [Nat.sub_zero]; exact hrows,s2,upd_same,rfl,fun i x e=>by rw [List.take_zero] at e; simp at e⟩ ?_ ?_
  ·rintro σ H2 ⟨e,i,as,v6,rfl,hi,he,hrw,s3,hrl3,hR⟩
   have s13:=s1.trans s3
   have hal:as.length = i:=by
    rw [hR.1,List.length_take]
    omega
   refine ⟨_,rfl,rl,_,rfl,.inl (SqL.of hrl3),_,rfl,f,_,_,_,rfl,rfl,keepT s13 hff,(show atI _ ((1:Nat):Int) = some _ from atI_nat rfl),_,_,rfl,rfl,_,rfl,?_⟩
   rw [List.length_map,hal]
   refine ifD (fun lt=>?_) fun nlt=>?_
   ·obtain ⟨ri,hri⟩:∃ ri,nrows a - i = ri + 1:=⟨nrows a - i - 1,by omega⟩
    rw [hri] at hrw
    obtain ⟨mm,x,xs',ex,hme,hle,rfl,hrw'⟩:=rows_inv hrw
    have hxi:xs[i]? = some ((L.drop (e + 1)).take mm):=by
     have:=List.getElem?_drop (xs:=xs) (i:=i) (j:=0)
     rw [ex] at this
     simpa using this.symm
    have hdr:xs.drop (i + 1) = xs':=by
     have:=congrArg (List.drop 1) ex
     rw [List.drop_drop] at this
     exact this
    have f1:((e:Nat):Int) + 1 = ((e + 1:Nat):Int):=by omega
    have f2:((e + 1:Nat):Int) + ((mm:Nat):Int) = ((e + 1 + mm:Nat):Int):=by omega
    refine ⟨_,rfl,_,_,rfl,rfl,?_⟩
    dsimp only
    rw [f1]
    refine ⟨_,rfl,_,rfl,_,rfl,cl,_,_,_,rfl,rfl,keepL s13,at_ hme,_,_,rfl,rfl,?_⟩
    dsimp only
    rw [f2]
    refine ⟨_,rfl,.inl ⟨rfl,_,SqL.of hrl3⟩,_,rfl,_,rfl,_,rfl,_,rfl,_,rfl,cl,_,rfl,keepL s13,fun q hq=>?_⟩
    rw [cut_mid L (by omega) hle,show e + 1 + mm - (e + 1) = mm by omega]
    have sq:=same_new hq (.lst (intV ((L.drop (e + 1)).take mm)))
    refine ⟨rl,_,_,rfl,rfl,sq _ _ hrl3,by rw [List.length_map]; exact small1000 (by omega),?_⟩
    have nqr:q ≠ rl:=Ne.symm (ne_of_none hrl3 hq)
    refine ⟨⟨e + 1 + mm,i + 1,as ++ [q],_,rfl,by omega,hle,?_,fun b o w=>?_,?_,?_⟩,?_⟩
    ·rw [show nrows a - (i + 1) = ri by omega,hdr]
     exact hrw'
    ·rw [upd_ne (ne_of_none w hrl)]
     exact sq _ _ (s3 _ _ w)
    ·rw [upd_same,List.map_append]
     rfl
    ·rw [take_snoc hxi]
     refine RowsAt.snoc ⟨hR.1,fun jj y w=>?_⟩ ((upd_ne nqr).trans upd_same)
     obtain ⟨b,w1,w2⟩:=hR.2 jj y w
     refine ⟨b,w1,?_⟩
     rw [upd_ne]
     ·exact sq _ _ w2
     ·intro z
      subst z
      rw [hrl3] at w2
      match as,w1 with
      | c :: r,_=>
       match y,w2 with
       | [],w2=>cases w2
       | u :: v,w2=>
        have w2:some (HO.lst (V.ref c :: r.map V.ref)) = some (HO.lst (V.int u :: intV v)):=w2
        injection w2 with w2
        injection w2 with w2
        injection w2 with w2 _
        cases w2
    ·show 5 - lenAt rl _ < 5 - lenAt rl H2
     have a1:lenAt rl H2 = i:=by unfold lenAt; rw [hrl3]; show (as.map V.ref).length = i; rw [List.length_map,hal]
     have a2:lenAt rl (upd (upd H2 q (.lst (intV ((L.drop (e + 1)).take mm)))) rl (.lst (as.map V.ref ++ [V.ref q]))) = i + 1:=by
      unfold lenAt
      rw [upd_same]
      show (as.map V.ref ++ [V.ref q]).length = _
      rw [List.length_append,List.length_map,hal]
      rfl
     rw [a1,a2]
     omega
   ·have ei:i = nrows a:=by omega
    subst ei
    rw [Nat.sub_self] at hrw
    have hrw:some (([]:List (List Int)),L.drop e) = some (xs.drop (nrows a),t):=hrw
    injection hrw with hrw
    injection hrw with _ hte
    rw [List.take_of_length_le (by omega)] at hR
    refine ⟨_,rfl,_,rfl,cl,_,_,_,rfl,rfl,keepL s13,at_ hx,_,rfl,_,rfl,_,rfl,fun r rdx nrx nrdx ner=>?_⟩
    refine ⟨r,rdx,_,_,_,_,rfl,upd_same,fun H3 fs g1 a1 a2 a3 a4 k1=>⟨rfl,?_⟩⟩
    have s4:=made_same nrx nrdx k1
    exact k r H3 a e ns xs nl rl as (s13.trans s4) rfl a15 hnlen hxl hte.symm he ⟨rdx,fs,g1,a1,a2,a3,a4,s4 _ _ (s3 _ _ hnl1),s4 _ _ hrl3,hR.same s4⟩
  ·rintro σ H2 Q1 Q2 hq ⟨v,e,p',xs',r1,r2,v2,e2,q1,xs2,i,y,r3,r4,r5,r6,i1,i2,r7,r8,kb,r9,r10⟩
   exact ⟨v,e,p',xs',r1,r2,v2,e2,q1,xs2,i,y,r3,r4,r5,r6,i1,i2,r7,r8,kb,r9,hq _ _ r10⟩
theorem intV_at {l:List Int} {i:Nat} {x:V} (h:(intV l)[i]? = some x):∃ c,l[i]? = some c ∧ x = V.int c:=by
 unfold intV at h
 rw [List.getElem?_map] at h
 cases e:l[i]? with
 | none=>rw [e] at h; cases h
 | some c=>rw [e] at h; exact ⟨c,rfl,(Option.some.inj h).symm⟩
theorem intV_len (l:List Int):(intV l).length = l.length:=List.length_map _
def rowOk (lg:Nat) (x:List Int):Bool:=decide (x.length ≤ lg) && x.all Vbbraf.isCard
def sp_row_in_range:Sp:=fun vs H Q _=>∃ (rl:Addr) (x:List Int) (lg:Nat),vs = [.ref rl,.int (lg:Int)] ∧ H rl = some (.lst (intV x)) ∧ x.length ≤ 100 ∧ ∀ H':Hp,Same H H' → Q (.bl (rowOk lg x)) H'
theorem ok_row_in_range (T:Txt K mg A):FnOk P w K mg base CX0 1 A.f_row_in_range A.d_row_in_range ["row","longest"] sp_row_in_range:=by
 refine T.F_row_in_range.ok sc_row_in_range (fun vs H Q E h=>?_) (fun cdv A' outer s H vs Q E hr h=>?_)
 ·obtain ⟨rl,x,lg,rfl,_⟩:=h
  rfl
 ·obtain ⟨rl,x,lg,rfl,hrl,hx,k⟩:=h
  refine ⟨_,(pss_one (ps_ret (pe_and (pe_cmpR op_le (pe_callB call_len_seq (by rfl) T.z_len bt_len (pa_cons (pv 0) pa_nil)) (pv 1) (nomark _)) (pe_one (pe_callB (cr_all rfl) (by rfl) T.z_all bt_all (pa_cons (pe_lc rfl sc_row_in_range.nd (pi_list (pv 0)) (blkOk_by (own:=[("card",2)]) (by show blkC ["row","longest","card"] (defScope s_row_in_range) _ _ = true; decide +kernel)) (fun _ _ _ _ _=>(pg_name (i:=2) sc_row_in_range.nd rfl (by first | exact Or.inl rfl | exact Or.inr rfl))) (fun _ _ _ _ _=>pts_nil) (fun _ _ _ _ _=>(pe_chain op_le op_le pe_int (pv 2) (pe_gint rfl T.g_HIGHEST_CARD)))) pa_nil)))))),?_⟩
  refine ⟨_,rfl,rl,_,rfl,.inl (SqL.of hrl),_,rfl,_,_,rfl,rfl,_,rfl,?_⟩
  rw [intV_len]
  refine ifD (fun le=>?_) fun nle=>?_
  ·refine ⟨_,rfl,rl,rfl,⟨_,SqL.of hrl⟩,fun D hD=>?_⟩
   refine lc_list (K:=K) (a:=rl) (xs:=intV x) (fun i H'=>Same H H' ∧ H' D = some (.lst (((x.take i).map Vbbraf.isCard).map V.bl))) ⟨same_new hD _,upd_same⟩ (fun i H' _ ⟨sm,_⟩=>SqL.of (sm _ _ hrl)) (fun i y H' hi ⟨sm,hl⟩=>?_) (fun H' ⟨sm,hl⟩=>?_)
   ·obtain ⟨c,hc,rfl⟩:=intV_at hi
    have hlen:(((x.take i).map Vbbraf.isCard).map V.bl).length < sizeLine:=by
     rw [List.length_map,List.length_map,List.length_take]
     exact small1000 (by omega)
    have fin:∀ b:Bool,b = Vbbraf.isCard c → ∃ acc,H' D = some (.lst acc) ∧ acc.length < sizeLine ∧ (Same H (upd H' D (.lst (acc ++ [V.bl b]))) ∧ upd H' D (.lst (acc ++ [V.bl b])) D = some (.lst (((x.take (i + 1)).map Vbbraf.isCard).map V.bl))):=fun b e=>by
     refine ⟨_,hl,hlen,fun b' o z=>?_,?_⟩
     ·rw [upd_ne (ne_of_none z hD)]
      exact sm _ _ z
     ·rw [upd_same,take_snoc hc,List.map_append,List.map_append,e]
      rfl
    refine ⟨rfl,_,rfl,_,_,rfl,rfl,_,rfl,?_⟩
    refine ifD (fun ge=>?_) fun nge=>?_
    ·refine ⟨_,_,rfl,rfl,?_⟩
     refine fin _ ?_
     unfold Vbbraf.isCard Vbbraf.within
     rw [decide_eq_true ge,Bool.true_and]
    ·refine fin _ ?_
     unfold Vbbraf.isCard Vbbraf.within
     rw [decide_eq_false nge,Bool.false_and]
   ·rw [intV_len,List.take_length] at hl
    refine ⟨D,_,rfl,SqL.of hl,?_⟩
    have:=k H' sm
    unfold rowOk at this
    rw [decide_eq_true (by omega),Bool.true_and] at this
    rw [List.all_map]
    exact this
  ·have:=k H (Same.refl H)
   unfold rowOk at this
   rw [decide_eq_false (by omega),Bool.false_and] at this
   exact this
def numsOk (ns:List Int) (ts:List Nat):Bool:=(ns.zip ts).all fun z=>decide (0 ≤ z.1) && decide (z.1 ≤ (z.2:Int))
def inR (a:Nat) (ns:List Int) (xs:List (List Int)):Bool:=numsOk ns (tops a) && xs.all (rowOk (longest a))
def sp_in_range (A:Adr):Sp:=fun vs H Q _=>∃ (r nl rl:Addr) (a e:Nat) (ns:List Int) (xs:List (List Int)) (as:List Addr),vs = [.ref r] ∧ CallAt A H r a ns xs e nl rl as ∧ a < 15 ∧ ns.length = (tops a).length ∧ xs.length = nrows a ∧ (∀ x ∈ xs,x.length ≤ 100) ∧ ∀ H':Hp,Same H H' → Q (.bl (inR a ns xs)) H'
theorem numsOk_no {ns:List Int} {ts:List Nat} {i:Nat} {x:Int} {y:Nat} (h1:ns[i]? = some x) (h2:ts[i]? = some y) (h:¬ (0 ≤ x ∧ x ≤ (y:Int))):numsOk ns ts = false:=by
 unfold numsOk
 rw [List.all_eq_false]
 refine ⟨(x,y),List.mem_of_getElem? (i:=i) ?_,?_⟩
 ·rw [List.getElem?_zip_eq_some]
  exact ⟨h1,h2⟩
 ·simp
  intro z
  omega
theorem numsOk_yes {ns:List Int} {ts:List Nat} (hl:ns.length = ts.length) (h:∀ (i:Nat) (x:Int) (y:Nat),ns[i]? = some x → ts[i]? = some y → 0 ≤ x ∧ x ≤ ((y:Nat):Int)):numsOk ns ts = true:=by
 unfold numsOk
 rw [List.all_eq_true]
 rintro ⟨x,y⟩ hm
 obtain ⟨i,hi,e⟩:=List.getElem_of_mem hm
 have e':(ns.zip ts)[i]? = some (x,y):=by rw [List.getElem?_eq_getElem hi,e]
 rw [List.getElem?_zip_eq_some] at e'
 have:=h i x y e'.1 e'.2
 simp
 omega
theorem ok_in_range (T:Txt K mg A):FnOk P w K mg base CX0 2 A.f_in_range A.d_in_range ["call"] (sp_in_range A):=by
 have G_row_in_range:=ok_row_in_range (P:=P) (w:=w) (base:=base) T
 refine T.F_in_range.ok sc_in_range (fun vs H Q E h=>?_) (fun cdv A' outer s H vs Q E hr h=>?_)
 ·obtain ⟨r,nl,rl,a,e,ns,xs,as,rfl,_⟩:=h
  rfl
 ·obtain ⟨r,nl,rl,a,e,ns,xs,as,rfl,hC,a15,hns,hxs,hx100,k⟩:=h
  obtain ⟨dx,fs,h1,h2,h3,h4,h5,h6,h7,h8⟩:=id hC
  obtain ⟨f,tt,hf,hff,htt⟩:=forms_at (K:=K) (H:=H) T a15
  have keepT:∀ {H':Hp} {q:Addr} {ys:List V},Same H H' → SqT K H q ys → SqT K H' q ys:=fun {H' q ys} sm h=>by
   rcases h with (h | ⟨o,h⟩) | h
   ·exact .inl (.inl (sm _ _ h))
   ·exact .inl (.inr ⟨o,sm _ _ h⟩)
   ·exact .inr h
  have tl3:(tops a).length ≤ 3:=by
   have:a = 0 ∨ a = 1 ∨ a = 2 ∨ a = 3 ∨ a = 4 ∨ a = 5 ∨ a = 6 ∨ a = 7 ∨ a = 8 ∨ a = 9 ∨ a = 10 ∨ a = 11 ∨ a = 12 ∨ a = 13 ∨ a = 14:=by omega
   rcases this with e | e | e | e | e | e | e | e | e | e | e | e | e | e | e <;> subst e <;> decide
  have nr4:nrows a ≤ 4:=by
   have:a = 0 ∨ a = 1 ∨ a = 2 ∨ a = 3 ∨ a = 4 ∨ a = 5 ∨ a = 6 ∨ a = 7 ∨ a = 8 ∨ a = 9 ∨ a = 10 ∨ a = 11 ∨ a = 12 ∨ a = 13 ∨ a = 14:=by omega
   rcases this with e | e | e | e | e | e | e | e | e | e | e | e | e | e | e <;> subst e <;> decide
  refine ⟨_,(pss_cons (ps_set (i:=1) sc_in_range.nd rfl (by first | exact Or.inl rfl | exact Or.inr rfl) (pe_ix ix_tup (pe_glob (v:=V.ref A.t_FORMS) rfl T.m_FORMS rfl) (pe_fld (pv 0) rfl) (fun _ _=>rfl))) (pss_cons (ps_for PassesOwn.never rfl (pi_zipT rfl T.z_zip (pa_cons (pe_fld (pv 0) rfl) (pa_cons (pe_ix ix_tup (pv 1) pe_int (fun _ _=>rfl)) pa_nil))) (pg_tup rfl (pgs_cons (pg_name (i:=2) sc_in_range.nd rfl (by first | exact Or.inl rfl | exact Or.inr rfl)) (pgs_cons (pg_name (i:=3) sc_in_range.nd rfl (by first | exact Or.inl rfl | exact Or.inr rfl)) pgs_nil))) (pss_one (ps_if (pt_not (pt_chain op_le op_le pe_int (pv 2) (pv 3))) (pss_one (ps_ret pe_bl)) pss_nil))) (pss_one (ps_ret (pe_callB (cr_all rfl) (by rfl) T.z_all bt_all (pa_cons (pe_lc rfl sc_in_range.nd (pi_list (pe_fld (pv 0) rfl)) (blkOk_by (own:=[("row",4)]) (by show blkC ["call","form","number","top","row"] (defScope s_in_range) _ _ = true; decide +kernel)) (fun _ _ _ _ _=>(pg_name (i:=4) sc_in_range.nd rfl (by first | exact Or.inl rfl | exact Or.inr rfl))) (fun _ _ _ _ _=>pts_nil) (fun _ _ _ _ _=>(pe_call G_row_in_range (hr.mono (by decide)) rfl T.m_row_in_range T.F_row_in_range.kp T.b_row_in_range .nil pass0 (pa_cons (pv 4) (pa_cons (pe_ix (ix_tupK (K:=K) rfl) (pv 1) pe_int (fun _ _=>rfl)) pa_nil))))) pa_nil)))))),?_⟩
  refine ⟨_,rfl,r,_,dx,fs,_,rfl,h1,T.c_Call,T.n_Call_number,h2,A.t_FORMS,_,_,_,rfl,rfl,.inr T.q_FORMS,hf,?_⟩
  refine ⟨_,rfl,r,_,dx,fs,_,rfl,h1,T.c_Call,T.n_Call_numbers,h3,_,rfl,f,_,_,_,rfl,rfl,hff,(show atI _ ((0:Nat):Int) = some _ from atI_nat rfl),nl,tt,_,_,rfl,SqL.of h6,htt,?_⟩
  refine for_zipT (K:=K) (a:=nl) (b:=tt) (xs:=intV ns) (ys:=nints (tops a)) (by rw [intV_len,ints_len,hns]; exact Nat.le_refl _) (fun i σ H'=>(∃ v2 v3 v4:Option V,σ = [some (.ref r),some (.ref f),v2,v3,v4]) ∧ Same H H' ∧ ∀ j x y,j < i → ns[j]? = some x → (tops a)[j]? = some y → 0 ≤ x ∧ x ≤ ((y:Nat):Int)) ⟨⟨none,none,none,rfl⟩,Same.refl H,fun j x y hj=>absurd hj (by omega)⟩ (fun i σ H' _ ⟨_,sm,_⟩=>⟨SqL.of (sm _ _ h6),keepT sm htt⟩) ?_ ?_
  ·rintro i x y σ H' tp hi hj ⟨⟨v2,v3,v4,rfl⟩,sm,hall⟩ htp
   obtain ⟨u,hu,rfl⟩:=intV_at hi
   obtain ⟨v,hv,rfl⟩:=ints_at hj
   have st:=same_new htp (.tup [V.int u,V.int (v:Int)])
   refine ⟨tp,_,rfl,SqT.of upd_same,rfl,_,_,rfl,_,_,rfl,rfl,?_⟩
   refine ⟨_,rfl,_,_,rfl,rfl,_,rfl,?_⟩
   refine ifD (fun ge=>?_) fun nge=>?_
   ·refine ⟨_,rfl,_,_,rfl,rfl,_,rfl,?_⟩
    by_cases le:u ≤ (v:Int)
    ·rw [decide_eq_true le]
     refine iteF ⟨⟨_,_,_,rfl⟩,sm.trans st,fun j x y hj' e1 e2=>?_⟩
     by_cases z:j = i
     ·subst z
      rw [hu] at e1
      rw [hv] at e2
      cases e1
      cases e2
      exact ⟨ge,le⟩
     ·exact hall j x y (by omega) e1 e2
    ·rw [decide_eq_false le]
     refine iteT ?_
     have:=k _ (sm.trans st)
     unfold inR at this
     rw [numsOk_no hu hv (by omega),Bool.false_and] at this
     exact this
   ·refine ⟨_,rfl,iteT ?_⟩
    have:=k _ (sm.trans st)
    unfold inR at this
    rw [numsOk_no hu hv (by omega),Bool.false_and] at this
    exact this
  ·rintro σ H1 ⟨⟨v2,v3,v4,rfl⟩,s1,hall⟩
   have hnum:numsOk ns (tops a) = true:=numsOk_yes hns fun i x y e1 e2=>hall i x y (by rw [intV_len]; exact (List.getElem?_eq_some_iff.mp e1).1) e1 e2
   refine ⟨_,rfl,r,_,dx,fs,_,rfl,s1 _ _ h1,T.c_Call,T.n_Call_rows,h4,rl,rfl,⟨_,SqL.of (s1 _ _ h7)⟩,fun D hD=>?_⟩
   refine lc_list (K:=K) (a:=rl) (xs:=as.map V.ref) (fun i H'=>Same H1 H' ∧ H' D = some (.lst (((xs.take i).map (rowOk (longest a))).map V.bl))) ⟨same_new hD _,upd_same⟩ (fun i H' _ ⟨sm,_⟩=>SqL.of (sm _ _ (s1 _ _ h7))) (fun i y H' hi ⟨sm,hl⟩=>?_) (fun H' ⟨sm,hl⟩=>?_)
   ·obtain ⟨b,hb,rfl⟩:∃ b,as[i]? = some b ∧ y = V.ref b:=by
     rw [List.getElem?_map] at hi
     cases e:as[i]? with
     | none=>rw [e] at hi; cases hi
     | some b=>rw [e] at hi; exact ⟨b,rfl,(Option.some.inj hi).symm⟩
    have hilt:=(List.getElem?_eq_some_iff.mp hb).1
    obtain ⟨x,hx⟩:∃ x,xs[i]? = some x:=⟨_,List.getElem?_eq_getElem (by rw [← h8.1]; exact hilt)⟩
    obtain ⟨b',w1,w2⟩:=h8.2 i x hx
    rw [hb] at w1
    cases w1
    have s01:=s1.trans sm
    refine ⟨rfl,_,rfl,_,rfl,f,_,_,_,rfl,rfl,keepT s01 hff,(show atI _ ((2:Nat):Int) = some _ from atI_nat rfl),b,x,longest a,rfl,s01 _ _ w2,hx100 x (List.mem_of_getElem? hx),fun H2 s2=>?_⟩
    refine ⟨_,s2 _ _ hl,?_,fun b' o z=>?_,?_⟩
    ·rw [List.length_map,List.length_map,List.length_take]
     exact small1000 (by omega)
    ·rw [upd_ne (ne_of_none z hD)]
     exact s2 _ _ (sm _ _ z)
    ·rw [upd_same,take_snoc hx,List.map_append,List.map_append]
     rfl
   ·rw [List.length_map,h8.1,List.take_length] at hl
    refine ⟨D,_,rfl,SqL.of hl,?_⟩
    have:=k H' (s1.trans sm)
    unfold inR at this
    rw [hnum,Bool.true_and] at this
    rw [List.all_map]
    exact this
def Keep (A:Adr) (e pl:Addr) (H H':Hp):Prop:=∀ b o,H b = some o → b ≠ e → b ≠ pl → b ≠ A.p_worst_card → b ≠ A.p_best_order → H' b = some o
theorem Same.keep {A:Adr} {e pl:Addr} {H H':Hp} (s:Same H H'):Keep A e pl H H':=fun b o q _ _ _ _=>s b o q
structure DeskT (A:Adr) (H:Hp) (e pl:Addr) (S:Vbbrag.State) (d:Deal) (l:List Nat) (m:MP):Prop where
 at_:EndAt A H e pl d l m S.play S.claim
 ok:DealOk d
 reach:Reach d l m S.play
 cl:ClOk d m S.claim
 wt:WorstT A H
 bt:BestT A H
theorem DeskT.same {A:Adr} {H H':Hp} {e pl:Addr} {S:Vbbrag.State} {d:Deal} {l:List Nat} {m:MP} (h:DeskT A H e pl S d l m) (s:Same H H'):DeskT A H' e pl S d l m:=⟨h.at_.same s,h.ok,h.reach,h.cl,h.wt.same s,h.bt.same s⟩
theorem DeskT.rel {A:Adr} {H:Hp} {e pl:Addr} {S:Vbbrag.State} {d:Deal} {l:List Nat} {m:MP} (h:DeskT A H e pl S d l m):Rel d m S.play.now:=(h.reach.held h.ok).rel
def sp_desk (A:Adr) (a:Nat):Sp:=fun vs H Q _=>∃ (e pl nl rl:Addr) (as:List Addr) (S:Vbbrag.State) (d:Deal) (l:List Nat) (m:MP) (ns:List Int) (xs:List (List Int)),vs = [.ref e,.ref nl,.ref rl] ∧ DeskT A H e pl S d l m ∧ H nl = some (.lst (intV ns)) ∧ H rl = some (.lst (as.map V.ref)) ∧ RowsAt H as xs ∧
 ns.length = (tops a).length ∧ xs.length = nrows a ∧ inR a ns xs = true ∧ ∀ (H':Hp) (r pl':Addr) (d':Deal) (l':List Nat) (m':MP),Keep A e pl H H' → (pl' = pl ∨ H pl' = none) → DeskT A H' e pl' (Vbbrag.stepRows S (((a:Int) :: ns) :: xs)).1 d' l' m' → H' r = some (.lst (intV (Vbbrag.stepRows S (((a:Int) :: ns) :: xs)).2)) → Q (.ref r) H'
theorem intV_nats {l:List Int} (h:∀ c ∈ l,0 ≤ c):intV l = nints (Vbbrag.nats l):=by
 unfold intV nints Vbbrag.nats
 rw [List.map_map]
 refine List.map_congr_left fun x hx=>?_
 show V.int x = V.int ((x.toNat:Nat):Int)
 rw [Int.toNat_of_nonneg (h x hx)]
theorem intV_yes (l:List Nat):intV (0 :: l.map fun (n:Nat)=>(n:Int)) = .int 0 :: nints l:=by
 unfold intV nints
 rw [List.map_cons,List.map_map]
 rfl
theorem isCard_iff {c:Int}:Vbbraf.isCard c = true ↔ 0 ≤ c ∧ c ≤ 51:=by
 unfold Vbbraf.isCard Vbbraf.within
 rw [Bool.and_eq_true,decide_eq_true_iff,decide_eq_true_iff]
theorem rowOk_iff {lg:Nat} {x:List Int}:rowOk lg x = true ↔ x.length ≤ lg ∧ ∀ c ∈ x,0 ≤ c ∧ c ≤ 51:=by
 unfold rowOk
 rw [Bool.and_eq_true,decide_eq_true_iff,List.all_eq_true]
 exact and_congr Iff.rfl (forall_congr' fun c=>imp_congr Iff.rfl isCard_iff)
def sp_cards_told:Sp:=fun vs H Q _=>∃ (cl:Addr) (ys:List V),vs = [.ref cl] ∧ H cl = some (.lst ys) ∧ ys.length ≤ 1000 ∧ ∀ (r:Addr) (H':Hp),Same H H' → H' r = some (.lst (.int (ys.length:Int) :: ys)) → Q (.ref r) H'
theorem ok_cards_told (T:Txt K mg A):FnOk P w K mg base CX0 1 A.f_cards_told A.d_cards_told ["cards"] sp_cards_told:=by
 refine T.F_cards_told.ok sc_cards_told (fun vs H Q E h=>?_) (fun cdv A' outer s H vs Q E hr h=>?_)
 ·obtain ⟨cl,ys,rfl,_⟩:=h
  rfl
 ·obtain ⟨cl,ys,rfl,hcl,hl,k⟩:=h
  refine ⟨_,(pss_one (ps_ret (pe_op op_cat (pe_lst (pa_cons (pe_callB call_len_seq (by rfl) T.z_len bt_len (pa_cons (pv 0) pa_nil)) pa_nil)) (pv 0)))),?_⟩
  refine ⟨_,rfl,cl,_,rfl,.inl (SqL.of hcl),(by show 1 ≤ sizeLine; decide),fun q hq=>?_⟩
  have sq:=same_new hq (.lst [.int (ys.length:Int)])
  refine ⟨_,rfl,q,cl,_,_,rfl,rfl,upd_same,sq _ _ hcl,?_,fun r hr'=>?_⟩
  ·show 1 + ys.length ≤ sizeLine
   have:=small1000 (Nat.le_refl 1000)
   omega
  ·exact k r _ (sq.trans (same_new hr' _)) upd_same
def sp_tt (A:Adr):Sp:=fun vs H Q _=>∃ (e pl:Addr) (d:Deal) (l:List Nat) (m:MP) (s:Vbbraf.State) (cl:Option Vbbrag.Claim),vs = [.ref e] ∧ EndAt A H e pl d l m s cl ∧ ∀ (r:Addr) (H':Hp),Same H H' → H' r = some (.lst (.int 0 :: nints [m.seat,s.won,s.lost])) → Q (.ref r) H'
theorem ok_turn_and_tricks (T:Txt K mg A):FnOk P w K mg base CX0 1 A.f_turn_and_tricks A.d_turn_and_tricks ["ending"] (sp_tt A):=by
 refine T.F_turn_and_tricks.ok sc_turn_and_tricks (fun vs H Q E h=>?_) (fun cdv A' outer s H vs Q E hr h=>?_)
 ·obtain ⟨e,pl,d,l,m,s,cl,rfl,_⟩:=h
  rfl
 ·obtain ⟨e,pl,d,l,m,st,cl,rfl,hE,k⟩:=h
  obtain ⟨dx,dd,po,wo,cv,fs,h1,h2,h3,h4,h5,h6,h7,h8,h9,h10,h11,h12⟩:=id hE
  obtain ⟨dd',pdx,pfs,hd,hp,l1,l2,l3,l4,l5,l6,l7⟩:=id h10
  refine ⟨_,(pss_one (ps_ret (pe_lst (pa_cons pe_int (pa_cons (pe_fld (pe_fld (pv 0) rfl) rfl) (pa_cons (pe_ix ix_tup (pe_fld (pv 0) rfl) pe_int (fun _ _=>rfl)) (pa_cons (pe_ix ix_tup (pe_fld (pv 0) rfl) pe_int (fun _ _=>rfl)) pa_nil))))))),?_⟩
  refine ⟨_,rfl,e,_,dx,fs,_,rfl,h1,T.c_Ending,T.n_Ending_position,h5,po,_,pdx,pfs,_,rfl,hp,T.c_Position,T.n_Position_seat,l3,?_⟩
  refine ⟨_,rfl,e,_,dx,fs,_,rfl,h1,T.c_Ending,T.n_Ending_won,h6,wo,_,_,_,rfl,rfl,SqT.of h11,(show atI _ ((0:Nat):Int) = some _ from atI_nat rfl),?_⟩
  refine ⟨_,rfl,e,_,dx,fs,_,rfl,h1,T.c_Ending,T.n_Ending_won,h6,wo,_,_,_,rfl,rfl,SqT.of h11,(show atI _ ((1:Nat):Int) = some _ from atI_nat rfl),(by show 4 ≤ sizeLine; decide),fun r hr'=>?_⟩
  exact k r _ (same_new hr' _) upd_same
def handsR (xs:List (List Int)):Bool:=(xs.all fun x=>x.length == (xs.getD 0 []).length) && decide xs.flatten.Nodup
def sp_hands:Sp:=fun vs H Q _=>∃ (rl:Addr) (as:List Addr) (xs:List (List Int)),vs = [.ref rl] ∧ H rl = some (.lst (as.map V.ref)) ∧ RowsAt H as xs ∧ xs.length = 4 ∧ (∀ x ∈ xs,x.length ≤ 100) ∧ ∀ H':Hp,Same H H' → Q (.bl (handsR xs)) H'
theorem flat_take {α:Type} {xs:List (List α)} {i:Nat} {x:List α} (h:xs[i]? = some x):(xs.take (i + 1)).flatten = (xs.take i).flatten ++ x:=by
 rw [take_snoc h,List.flatten_append]
 simp
theorem flat_len100:∀ {xs:List (List Int)},(∀ x ∈ xs,x.length ≤ 100) → xs.flatten.length ≤ xs.length * 100
 | [],_=>Nat.zero_le _
 | a :: r,h=>by
  rw [List.flatten_cons,List.length_append,List.length_cons,Nat.succ_mul]
  have h1:=h a (by simp)
  have h2:=flat_len100 (xs:=r) fun x hx=>h x (by simp [hx])
  omega
theorem ok_hands_are_right (T:Txt K mg A):FnOk P w K mg base CX0 1 A.f_hands_are_right A.d_hands_are_right ["hands"] sp_hands:=by
 refine T.F_hands_are_right.ok sc_hands_are_right (fun vs H Q E h=>?_) (fun cdv A' outer s H vs Q E hr h=>?_)
 ·obtain ⟨rl,as,xs,rfl,_⟩:=h
  rfl
 ·obtain ⟨rl,as,xs,rfl,hrl,hR,h4,h100,k⟩:=h
  obtain ⟨x0,hx0⟩:∃ x0,xs[0]? = some x0:=⟨_,List.getElem?_eq_getElem (by omega)⟩
  obtain ⟨b0,hb0,hbx0⟩:=hR.2 0 x0 hx0
  have hg0:xs.getD 0 [] = x0:=by simp [List.getD,hx0]
  have hat0:atI (as.map V.ref) ((0:Nat):Int) = some (.ref b0):=atI_nat (by rw [List.getElem?_map,hb0]; rfl)
  refine ⟨_,(pss_cons (ps_set (i:=1) sc_hands_are_right.nd rfl (by first | exact Or.inl rfl | exact Or.inr rfl) (pe_lst pa_nil)) (pss_cons (ps_for PassesOwn.never rfl (pi_list (pv 0)) (pg_name (i:=2) sc_hands_are_right.nd rfl (by first | exact Or.inl rfl | exact Or.inr rfl)) (pss_cons (ps_if (pt_cmpR op_ne (pe_callB call_len_seq (by rfl) T.z_len bt_len (pa_cons (pv 2) pa_nil)) (pe_callB call_len_seq (by rfl) T.z_len bt_len (pa_cons (pe_ix ix_list (pv 0) pe_int (fun _ _=>rfl)) pa_nil)) (nomark _)) (pss_one (ps_ret pe_bl)) pss_nil) (pss_one (ps_expr (pe_bm PySem.F.plainAttrs_list PySem.F.slot_list_extend PySem.F.type_list_extend mt_extend (pv 1) (pa_cons (pv 2) pa_nil)))))) (pss_one (ps_ret (pe_cmpR op_eq (pe_callB call_lenS (by rfl) T.z_len bt_len (pa_cons (pe_callTy (cr_set rfl) (by rfl) T.z_set bt_set (pa_cons (pv 1) pa_nil)) pa_nil)) (pe_callB call_len_seq (by rfl) T.z_len bt_len (pa_cons (pv 1) pa_nil)) (nomark _)))))),?_⟩
  refine ⟨Nat.zero_le _,fun D hD=>?_⟩
  refine ⟨_,rfl,rl,rfl,⟨_,SqL.of (same_new hD _ _ _ hrl)⟩,?_⟩
  refine for_list (K:=K) (a:=rl) (xs:=as.map V.ref) (fun i σ H'=>(∃ v,σ = [some (.ref rl),some (.ref D),v]) ∧ Same H H' ∧ H' D = some (.lst (intV (xs.take i).flatten)) ∧ ∀ (j:Nat) (x:List Int),j < i → xs[j]? = some x → x.length = x0.length) ⟨⟨none,rfl⟩,same_new hD _,upd_same,fun j x hj=>absurd hj (by omega)⟩ (fun i σ H' _ ⟨_,sm,_⟩=>SqL.of (sm _ _ hrl)) ?_ ?_
  ·rintro i y σ H' hi ⟨⟨v,rfl⟩,sm,hd,hall⟩
   obtain ⟨b,hb,rfl⟩:∃ b,as[i]? = some b ∧ y = V.ref b:=by
    rw [List.getElem?_map] at hi
    cases e:as[i]? with
    | none=>rw [e] at hi; cases hi
    | some b=>rw [e] at hi; exact ⟨b,rfl,(Option.some.inj hi).symm⟩
   have hilt:=(List.getElem?_eq_some_iff.mp hb).1
   obtain ⟨x,hx⟩:∃ x,xs[i]? = some x:=⟨_,List.getElem?_eq_getElem (by rw [← hR.1]; exact hilt)⟩
   obtain ⟨b',w1,w2⟩:=hR.2 i x hx
   rw [hb] at w1
   cases w1
   refine ⟨_,rfl,b,_,rfl,.inl (SqL.of (sm _ _ w2)),_,rfl,rl,_,_,_,rfl,rfl,SqL.of (sm _ _ hrl),hat0,b0,_,rfl,.inl (SqL.of (sm _ _ hbx0)),rfl,_,rfl,?_⟩
   rw [intV_len,intV_len]
   refine ifIN (fun ne=>?_) fun eq=>?_
   ·have:=k H' sm
    unfold handsR at this
    have hf:(xs.all fun x=>x.length == (xs.getD 0 []).length) = false:=by
     rw [List.all_eq_false]
     refine ⟨x,List.mem_of_getElem? hx,?_⟩
     rw [hg0]
     simp
     omega
    rw [hf,Bool.false_and] at this
    exact this
   ·have hfl:=flat_len100 (xs:=xs.take i) fun x hx=>h100 x (List.mem_of_mem_take hx)
    rw [List.length_take] at hfl
    have hxl:=h100 x (List.mem_of_getElem? hx)
    refine ⟨_,rfl,.inl ⟨rfl,_,SqL.of hd⟩,_,rfl,D,b,_,_,rfl,rfl,hd,sm _ _ w2,?_,⟨_,rfl⟩,fun b' o z=>?_,?_,fun j z hj hz=>?_⟩
    ·rw [intV_len,intV_len]
     have:=small1000 (Nat.le_refl 1000)
     omega
    ·rw [upd_ne (ne_of_none z hD)]
     exact sm _ _ z
    ·rw [upd_same,flat_take hx]
     unfold intV
     rw [List.map_append]
    ·by_cases q:j = i
     ·subst q
      rw [hx] at hz
      cases hz
      omega
     ·exact hall j z (by omega) hz
  ·rintro σ H' ⟨⟨v,rfl⟩,sm,hd,hall⟩
   rw [List.length_map,hR.1,List.take_length] at hd
   have hfl:=flat_len100 h100
   refine ⟨_,rfl,D,xs.flatten,rfl,SqL.of hd,by omega,fun p S n hp hn=>?_⟩
   have st:=same_new hp (.set S n)
   refine ⟨p,S,n,rfl,upd_same,?_⟩
   refine ⟨_,rfl,D,_,rfl,.inl (SqL.of (st _ _ hd)),rfl,?_⟩
   have:=k _ (sm.trans st)
   unfold handsR at this
   have ha:(xs.all fun x=>x.length == (xs.getD 0 []).length) = true:=by
    rw [List.all_eq_true]
    intro x hx
    obtain ⟨j,hj,ej⟩:=List.getElem_of_mem hx
    rw [hg0]
    have:=hall j x (by rw [List.length_map,hR.1]; exact hj) (by rw [List.getElem?_eq_getElem hj,ej])
    simp
    omega
   rw [ha,Bool.true_and] at this
   have e:decide (V.int ((n:Nat):Int) = V.int (((intV xs.flatten).length:Nat):Int)) = decide xs.flatten.Nodup:=by
    rw [intV_len]
    refine decide_eq_decide.mpr ?_
    rw [← hn]
    constructor
    ·intro z
     injection z with z
     omega
    ·intro z
     rw [z]
   show Q (.bl (decide (V.int ((n:Nat):Int) = V.int (((intV xs.flatten).length:Nat):Int)))) _
   rw [e]
   exact this
theorem nums1 {a:Int} {t:Nat} (h:numsOk [a] [t] = true):∃ n:Nat,a = (n:Int) ∧ n ≤ t:=by
 unfold numsOk at h
 simp at h
 exact ⟨a.toNat,by omega,by omega⟩
theorem nums2 {a b:Int} {t u:Nat} (h:numsOk [a,b] [t,u] = true):∃ n k:Nat,a = (n:Int) ∧ b = (k:Int) ∧ n ≤ t ∧ k ≤ u:=by
 unfold numsOk at h
 simp at h
 exact ⟨a.toNat,b.toNat,by omega,by omega,by omega,by omega⟩
theorem nums3 {a b c:Int} {t u v:Nat} (h:numsOk [a,b,c] [t,u,v] = true):∃ n k q:Nat,a = (n:Int) ∧ b = (k:Int) ∧ c = (q:Int) ∧ n ≤ t ∧ k ≤ u ∧ q ≤ v:=by
 unfold numsOk at h
 simp at h
 exact ⟨a.toNat,b.toNat,c.toNat,by omega,by omega,by omega,by omega,by omega,by omega⟩
theorem within_nat {n lo hi:Nat}:Vbbrag.within (n:Int) (lo:Int) (hi:Int) = decide (lo ≤ n ∧ n ≤ hi):=by
 unfold Vbbrag.within
 rw [Bool.eq_iff_iff,Bool.and_eq_true,decide_eq_true_iff,decide_eq_true_iff,decide_eq_true_iff]
 omega
theorem words_yes {s w:Nat} {l:List Int} (hs:s ≤ 1) (hw:w ≤ 2) (hl:rowOk 16 l = true):Vbbrag.wordsIn (s:Int) (w:Int) l = true:=by
 have h:=rowOk_iff.mp hl
 have a1:Vbbrag.within (s:Int) 0 1 = true:=(within_nat (lo:=0) (hi:=1)).trans (decide_eq_true ⟨by omega,hs⟩)
 have a2:Vbbrag.within (w:Int) 0 2 = true:=(within_nat (lo:=0) (hi:=2)).trans (decide_eq_true ⟨by omega,hw⟩)
 unfold Vbbrag.wordsIn
 rw [a1,a2,decide_eq_true h.1]
 simp
 intro x hx
 exact isCard_iff.mpr (h.2 x hx)
theorem row1 {H:Hp} {as:List Addr} {x:List Int} (h:RowsAt H as [x]):∃ b,atI (as.map V.ref) ((0:Nat):Int) = some (.ref b) ∧ H b = some (.lst (intV x)):=by
 obtain ⟨b,h1,h2⟩:=h.2 0 x rfl
 exact ⟨b,atI_nat (by rw [List.getElem?_map,h1]; rfl),h2⟩
theorem at0 {z:Int} {l:List Int}:atI (intV (z :: l)) ((0:Nat):Int) = some (.int z):=atI_nat rfl
theorem at1 {z y:Int} {l:List Int}:atI (intV (z :: y :: l)) ((1:Nat):Int) = some (.int y):=atI_nat rfl
theorem at2 {z y x:Int} {l:List Int}:atI (intV (z :: y :: x :: l)) ((2:Nat):Int) = some (.int x):=atI_nat rfl
theorem rowOk_nn {lg:Nat} {x:List Int} (h:rowOk lg x = true):intV x = nints (Vbbrag.nats x):=intV_nats fun c hc=>((rowOk_iff.mp h).2 c hc).1
theorem nats_len (l:List Int):(Vbbrag.nats l).length = l.length:=List.length_map _
theorem ok_turn (T:Txt K mg A):FnOk P w K mg base CX0 3 A.f_turn A.d_turn ["ending","numbers","rows"] (sp_desk A 3):=by
 have G_turn_and_tricks:=ok_turn_and_tricks (P:=P) (w:=w) (base:=base) T
 have G_cards_told:=ok_cards_told (P:=P) (w:=w) (base:=base) T
 have G_may_play:=ok_may_play (P:=P) (w:=w) (base:=base) T
 refine T.F_turn.ok sc_turn (fun vs H Q E h=>?_) (fun cdv A' outer s H vs Q E hr h=>?_)
 ·obtain ⟨e,pl,nl,rl,as,S,d,l,m,ns,xs,rfl,_⟩:=h
  rfl
 ·obtain ⟨e,pl,nl,rl,as,S,d,l,m,ns,xs,rfl,D,hnl,hrl,hR,hns,hxs,hin,k⟩:=h
  obtain rfl:=len0 hns
  obtain rfl:=len0 hxs
  obtain ⟨dx,dd,po,wo,cv,fs,h1,h2,h3,h4,h5,h6,h7,h8,h9,h10,h11,h12⟩:=id D.at_
  refine ⟨_,(pss_cons (ps_if (pt_cmp (pc_notN (pe_fld (pv 0) rfl))) (pss_one (ps_ret (pe_lst (pa_cons (pe_gint rfl T.g_CLAIM_THERE) pa_nil)))) pss_nil) (pss_one (ps_ret (pe_op op_cat (pe_call G_turn_and_tricks (hr.mono (by decide)) rfl T.m_turn_and_tricks T.F_turn_and_tricks.kp T.b_turn_and_tricks .nil pass0 (pa_cons (pv 0) pa_nil)) (pe_call G_cards_told (hr.mono (by decide)) rfl T.m_cards_told T.F_cards_told.kp T.b_cards_told .nil pass0 (pa_cons (pe_call G_may_play (hr.mono (by decide)) rfl T.m_may_play T.F_may_play.kp T.b_may_play .nil pass0 (pa_cons (pe_fld (pv 0) rfl) pa_nil)) pa_nil)))))),?_⟩
  refine ⟨_,rfl,e,_,dx,fs,_,rfl,h1,T.c_Ending,T.n_Ending_claim,h7,_,rfl,?_⟩
  cases hcl:S.claim with
  | some c=>
   rw [hcl] at h12
   obtain ⟨ca,cx,gs,rfl,_⟩:=h12
   refine ifN (fun _=>?_) fun z=>nomatch z
   refine ⟨(by show 1 ≤ sizeLine; decide),fun r hr'=>?_⟩
   have es:Vbbrag.stepRows S ((((3:Nat):Int) :: []) :: []) = (S,[-8]):=by
    show (if S.claim.isSome = true then Vbbrag.no S 8 else _) = _
    rw [hcl]
    rfl
   rw [es] at k
   have sm:=same_new hr' (.lst [.int (-8)])
   exact k _ r pl d l m (Same.keep sm) (.inl rfl) (D.same sm) upd_same
  | none=>
   rw [hcl] at h12
   have hcv:cv = .non:=h12
   subst hcv
   refine ifN (fun z=>absurd rfl z) fun _=>?_
   refine ⟨_,rfl,e,pl,d,l,m,S.play,S.claim,rfl,D.at_,fun r1 H1 s1 hr1=>?_⟩
   refine ⟨_,rfl,e,_,dx,fs,_,rfl,s1 _ _ h1,T.c_Ending,T.n_Ending_position,h5,po,d,m,rfl,h10.same s1,D.ok.len,D.rel.seat4,deal4 D.ok,fun r2 H2 s2 hr2=>?_⟩
   have ml:=may_len D.ok D.rel.seat4
   refine ⟨r2,_,rfl,hr2,by rw [ints_len]; omega,fun r3 H3 s3 hr3=>?_⟩
   refine ⟨r1,r3,_,_,rfl,rfl,s3 _ _ (s2 _ _ hr1),hr3,?_,fun r4 hr4=>?_⟩
   ·show 4 + ((nints (may d m)).length + 1) ≤ sizeLine
    rw [ints_len]
    exact Nat.le_of_lt (small1000 (by omega))
   ·have s4:=same_new hr4 (.lst ((.int 0 :: nints [m.seat,S.play.won,S.play.lost]) ++ (.int (((nints (may d m)).length:Nat):Int) :: nints (may d m))))
    have sm:=((s1.trans s2).trans s3).trans s4
    have es:Vbbrag.stepRows S ((((3:Nat):Int) :: []) :: []) = (S,0 :: (m.seat :: S.play.won :: S.play.lost :: (may d m).length :: may d m).map fun (n:Nat)=>(n:Int)):=by
     show (if S.claim.isSome = true then Vbbrag.no S 8 else (⟨(Vbbraf.step S.play .turn).1,none⟩,(Vbbraf.step S.play .turn).2)) = _
     rw [hcl,if_neg (by decide)]
     show ((⟨S.play,none⟩:Vbbrag.State),0 :: (Vbbraf.turnOf S.play.now :: S.play.won :: S.play.lost :: (Vbbraf.legal S.play.now).length :: Vbbraf.legal S.play.now).map fun (n:Nat)=>(n:Int)) = _
     rw [D.rel.turn,D.rel.legal,← hcl]
    rw [es] at k
    refine k _ r4 pl d l m (Same.keep sm) (.inl rfl) (D.same sm) ?_
    rw [upd_same,intV_yes,ints_len]
    rfl
theorem ok_score (T:Txt K mg A):FnOk P w K mg base CX0 4 A.f_score A.d_score ["ending","numbers","rows"] (sp_desk A 11):=by
 have G_score_of:=ok_score_of (P:=P) (w:=w) (base:=base) T
 refine T.F_score.ok sc_score (fun vs H Q E h=>?_) (fun cdv A' outer s H vs Q E hr h=>?_)
 ·obtain ⟨e,pl,nl,rl,as,S,d,l,m,ns,xs,rfl,_⟩:=h
  rfl
 ·obtain ⟨e,pl,nl,rl,as,S,d,l,m,ns,xs,rfl,D,hnl,hrl,hR,hns,hxs,hin,k⟩:=h
  obtain rfl:=len0 hns
  obtain rfl:=len0 hxs
  obtain ⟨dx,dd,po,wo,cv,fs,h1,h2,h3,h4,h5,h6,h7,h8,h9,h10,h11,h12⟩:=id D.at_
  have es:Vbbrag.stepRows S ((((11:Nat):Int) :: []) :: []) = (S,0 :: ([(Vbbrag.score S).1,(Vbbrag.score S).2,if S.claim.isSome = true then 1 else 0]).map fun (n:Nat)=>(n:Int)):=rfl
  rw [es] at k
  refine ⟨_,(pss_cons (ps_set (i:=3) sc_score.nd rfl (by first | exact Or.inl rfl | exact Or.inr rfl) (pe_ifExp (pt_cmp (pc_isN (pe_fld (pv 0) rfl))) pe_int pe_int)) (pss_one (ps_ret (pe_op op_cat (pe_op op_cat (pe_lst (pa_cons pe_int pa_nil)) (pe_call G_score_of (hr.mono (by decide)) rfl T.m_score_of T.F_score_of.kp T.b_score_of .nil pass0 (pa_cons (pv 0) pa_nil))) (pe_lst (pa_cons (pv 3) pa_nil)))))),?_⟩
  refine ⟨_,rfl,e,_,dx,fs,_,rfl,h1,T.c_Ending,T.n_Ending_claim,h7,_,rfl,?_⟩
  cases hcl:S.claim with
  | some c=>
   rw [hcl] at h12
   obtain ⟨ca,cx,gs,rfl,_⟩:=h12
   refine ifD (fun z=>nomatch z) fun _=>?_
   refine ⟨(by show 1 ≤ sizeLine; decide),fun q hq=>?_⟩
   have sq:=same_new hq (.lst [.int 0])
   refine ⟨_,rfl,e,pl,d,l,m,S.play,S.claim,rfl,D.at_.same sq,D.ok,D.rel,D.cl,fun r1 H1 s1 hr1=>?_⟩
   refine ⟨q,r1,_,_,rfl,rfl,s1 _ _ upd_same,hr1,(by show 3 ≤ sizeLine; decide),fun r2 hr2=>?_⟩
   have s2:=same_new hr2 (.lst ([.int 0] ++ [.int ((Vbbrag.score ⟨S.play,S.claim⟩).1:Int),.int ((Vbbrag.score ⟨S.play,S.claim⟩).2:Int)]))
   refine ⟨_,rfl,(by show 1 ≤ sizeLine; decide),fun r3 hr3=>?_⟩
   have s3:=same_new hr3 (.lst [.int 1])
   refine ⟨r2,r3,_,_,rfl,rfl,s3 _ _ upd_same,upd_same,(by show 4 ≤ sizeLine; decide),fun r4 hr4=>?_⟩
   have s4:=same_new hr4 (.lst (([.int 0] ++ [.int ((Vbbrag.score ⟨S.play,S.claim⟩).1:Int),.int ((Vbbrag.score ⟨S.play,S.claim⟩).2:Int)]) ++ [.int 1]))
   have sm:=(((sq.trans s1).trans s2).trans s3).trans s4
   refine k _ r4 pl d l m (Same.keep sm) (.inl rfl) (D.same sm) ?_
   have ei:(if S.claim.isSome = true then 1 else 0:Nat) = 1:=by rw [hcl]; rfl
   rw [upd_same,ei]
   rfl
  | none=>
   rw [hcl] at h12
   have hcv:cv = .non:=h12
   subst hcv
   refine ifD (fun _=>?_) fun z=>absurd rfl z
   refine ⟨(by show 1 ≤ sizeLine; decide),fun q hq=>?_⟩
   have sq:=same_new hq (.lst [.int 0])
   refine ⟨_,rfl,e,pl,d,l,m,S.play,S.claim,rfl,D.at_.same sq,D.ok,D.rel,D.cl,fun r1 H1 s1 hr1=>?_⟩
   refine ⟨q,r1,_,_,rfl,rfl,s1 _ _ upd_same,hr1,(by show 3 ≤ sizeLine; decide),fun r2 hr2=>?_⟩
   have s2:=same_new hr2 (.lst ([.int 0] ++ [.int ((Vbbrag.score ⟨S.play,S.claim⟩).1:Int),.int ((Vbbrag.score ⟨S.play,S.claim⟩).2:Int)]))
   refine ⟨_,rfl,(by show 1 ≤ sizeLine; decide),fun r3 hr3=>?_⟩
   have s3:=same_new hr3 (.lst [.int 0])
   refine ⟨r2,r3,_,_,rfl,rfl,s3 _ _ upd_same,upd_same,(by show 4 ≤ sizeLine; decide),fun r4 hr4=>?_⟩
   have s4:=same_new hr4 (.lst (([.int 0] ++ [.int ((Vbbrag.score ⟨S.play,S.claim⟩).1:Int),.int ((Vbbrag.score ⟨S.play,S.claim⟩).2:Int)]) ++ [.int 0]))
   have sm:=(((sq.trans s1).trans s2).trans s3).trans s4
   refine k _ r4 pl d l m (Same.keep sm) (.inl rfl) (D.same sm) ?_
   have ei:(if S.claim.isSome = true then 1 else 0:Nat) = 0:=by rw [hcl]; rfl
   rw [upd_same,ei]
   rfl
theorem ok_account (T:Txt K mg A):FnOk P w K mg base CX0 42 A.f_account A.d_account ["ending","numbers","rows"] (sp_desk A 12):=by
 have G_account_of:=ok_account_of (P:=P) (w:=w) (base:=base) T
 refine T.F_account.ok sc_account (fun vs H Q E h=>?_) (fun cdv A' outer s H vs Q E hr h=>?_)
 ·obtain ⟨e,pl,nl,rl,as,S,d,l,m,ns,xs,rfl,_⟩:=h
  rfl
 ·obtain ⟨e,pl,nl,rl,as,S,d,l,m,ns,xs,rfl,D,hnl,hrl,hR,hns,hxs,hin,k⟩:=h
  obtain rfl:=len0 hns
  obtain rfl:=len0 hxs
  have es:Vbbrag.stepRows S ((((12:Nat):Int) :: []) :: []) = (S,0 :: (Vbbrag.accountOf S).map fun (n:Nat)=>(n:Int)):=rfl
  rw [es] at k
  refine ⟨_,(pss_one (ps_ret (pe_op op_cat (pe_lst (pa_cons pe_int pa_nil)) (pe_call G_account_of (hr.mono (by decide)) rfl T.m_account_of T.F_account_of.kp T.b_account_of .nil pass0 (pa_cons (pv 0) pa_nil))))),?_⟩
  refine ⟨(by show 1 ≤ sizeLine; decide),fun q hq=>?_⟩
  have sq:=same_new hq (.lst [.int 0])
  refine ⟨_,rfl,e,pl,d,l,m,S.play,S.claim,rfl,D.at_.same sq,D.ok,D.reach,D.cl,fun r1 H1 s1 hr1=>?_⟩
  have hl:(Vbbrag.accountOf ⟨S.play,S.claim⟩).length ≤ 100:=by
   unfold Vbbrag.accountOf
   cases S.claim <;> exact (by show 7 ≤ 100; decide)
  refine ⟨q,r1,_,_,rfl,rfl,s1 _ _ upd_same,hr1,?_,fun r2 hr2=>?_⟩
  ·rw [ints_len]
   show 1 + _ ≤ sizeLine
   exact Nat.le_of_lt (small1000 (by omega))
  ·have s2:=same_new hr2 (.lst ([.int 0] ++ nints (Vbbrag.accountOf ⟨S.play,S.claim⟩)))
   have sm:=(sq.trans s1).trans s2
   refine k _ r2 pl d l m (Same.keep sm) (.inl rfl) (D.same sm) ?_
   rw [upd_same,intV_yes]
   rfl
theorem mlets_len {d:Deal} (O:DealOk d) {m:MP} (s4:m.seat < 4) (wd:Vbbrag.Words):(mlets wd d m).length ≤ 4:=by
 have h:=may_len O s4
 unfold mlets
 split
 ·split
  ·show 1 ≤ 4
   decide
  ·exact Nat.le_trans (pare_len _ _) h
 ·exact h
theorem desk_fin {A:Adr} {H H3:Hp} {e pl r:Addr} {S:Vbbrag.State} {d:Deal} {l:List Nat} {m:MP} {vs ys:List V} {Q:V → Hp → Prop} (D:DeskT A H e pl S d l m) (s3:Same H H3) (hr':H3 r = none)
  (k:∀ (H':Hp) (r pl':Addr) (d':Deal) (l':List Nat) (m':MP),Keep A e pl H H' → (pl' = pl ∨ H pl' = none) → DeskT A H' e pl' S d' l' m' → H' r = some (.lst ys) → Q (.ref r) H') (eo:vs = ys):Q (.ref r) (upd H3 r (.lst vs)):=by
 have s4:=s3.trans (same_new hr' (.lst vs))
 refine k _ r pl d l m (Same.keep s4) (.inl rfl) (D.same s4) ?_
 rw [upd_same,eo]
theorem in2 {a:Nat} {x y:Int} {l:List Int} (ht:tops a = [1,2]) (hl:longest a = 16) (h:inR a [x,y] [l] = true):∃ s v:Nat,x = (s:Int) ∧ y = (v:Int) ∧ s ≤ 1 ∧ v ≤ 2 ∧ rowOk 16 l = true:=by
 unfold inR at h
 rw [ht,hl,Bool.and_eq_true] at h
 obtain ⟨s,v,e1,e2,h1,h2⟩:=nums2 h.1
 exact ⟨s,v,e1,e2,h1,h2,by simpa using h.2⟩
theorem in3 {a:Nat} {x y z:Int} {l:List Int} (ht:tops a = [1,4,2]) (hl:longest a = 16) (h:inR a [x,y,z] [l] = true):∃ s n v:Nat,x = (s:Int) ∧ y = (n:Int) ∧ z = (v:Int) ∧ s ≤ 1 ∧ n ≤ 4 ∧ v ≤ 2 ∧ rowOk 16 l = true:=by
 unfold inR at h
 rw [ht,hl,Bool.and_eq_true] at h
 obtain ⟨s,n,v,e1,e2,e3,h1,h2,h3⟩:=nums3 h.1
 exact ⟨s,n,v,e1,e2,e3,h1,h2,h3,by simpa using h.2⟩
theorem capL {d:Deal} {m:MP} {p:Vbbraf.Pos} (O:DealOk d) (R:Rel d m p):([]:List (List Key × V)).length + cap (mheld d m) ≤ lim:=by
 have:=cap_le (R.held16 O)
 unfold lim
 simp
 omega
theorem ok_judge (T:Txt K mg A):FnOk P w K mg base CX0 39 A.f_judge A.d_judge ["ending","numbers","rows"] (sp_desk A 4):=by
 have G_judged:=ok_jj (P:=P) (w:=w) (base:=base) T 16
 have G_Judging_init:=ok_Judging_init (P:=P) (w:=w) (base:=base) T
 have G_Statement_init:=ok_Statement_init (P:=P) (w:=w) (base:=base) T
 refine T.F_judge.ok sc_judge (fun vs H Q E h=>?_) (fun cdv A' outer s H vs Q E hr h=>?_)
 ·obtain ⟨e,pl,nl,rl,as,S,d,l,m,ns,xs,rfl,_⟩:=h
  rfl
 ·obtain ⟨e,pl,nl,rl,as,S,d,l,m,ns,xs,rfl,D,hnl,hrl,hR,hns,hxs,hin,k⟩:=h
  obtain ⟨y,z,rfl⟩:=len2 hns
  obtain ⟨x,rfl⟩:=len1 hxs
  obtain ⟨sd,wy,rfl,rfl,l1,l2,hx⟩:=in2 rfl rfl hin
  obtain ⟨b,hb,hbx⟩:=row1 hR
  rw [rowOk_nn hx] at hbx
  obtain ⟨dx,dd,po,wo,cv,fs,h1,h2,h3,h4,h5,h6,h7,h8,h9,h10,h11,h12⟩:=id D.at_
  have R:=D.rel
  have O:=D.ok
  have es:Vbbrag.stepRows S ((((4:Nat):Int) :: [(sd:Int),(wy:Int)]) :: [x]) = (S,0 :: ([J ⟨sd,wy,Vbbrag.nats x⟩ d m]).map fun (n:Nat)=>(n:Int)):=by
   show (if Vbbrag.wordsIn (sd:Int) (wy:Int) x = false then Vbbrag.no S 1 else Vbbrag.yes S [Vbbrag.judged ⟨sd,wy,Vbbrag.nats x⟩ S.play.now]) = _
   rw [words_yes l1 l2 hx,if_neg (by decide),R.judged O]
   rfl
  rw [es] at k
  refine ⟨_,(pss_cons (ps_set (i:=3) sc_judge.nd rfl (by first | exact Or.inl rfl | exact Or.inr rfl) (pe_make T.M_Judging G_Judging_init (hr.mono (by decide)) rfl T.m_Judging T.b_Judging_init .nil pass0 (pa_cons (pe_make T.M_Statement G_Statement_init (hr.mono (by decide)) rfl T.m_Statement T.b_Statement_init .nil pass0 (pa_cons (pe_ix ix_list (pv 1) pe_int (fun _ _=>rfl)) (pa_cons (pe_ix ix_list (pv 1) pe_int (fun _ _=>rfl)) (pa_cons (pe_ix ix_list (pv 2) pe_int (fun _ _=>rfl)) pa_nil)))) pa_nil))) (pss_one (ps_ret (pe_lst (pa_cons pe_int (pa_cons (pe_call G_judged (hr.mono (by decide)) rfl T.m_judged T.F_judged.kp T.b_judged .nil pass0 (pa_cons (pv 3) (pa_cons (pe_fld (pv 0) rfl) pa_nil))) pa_nil)))))),?_⟩
  refine ⟨_,rfl,nl,_,_,_,rfl,rfl,SqL.of hnl,at0,_,rfl,nl,_,_,_,rfl,rfl,SqL.of hnl,at1,_,rfl,rl,_,_,_,rfl,rfl,SqL.of hrl,hb,?_⟩
  intro sx sdx nsx nsdx nes
  refine ⟨sx,sdx,_,_,_,rfl,upd_same,fun H1 fs1 g1 a1 a2 a3 k1=>⟨rfl,?_⟩⟩
  intro j jdx nj njdx nej
  refine ⟨j,jdx,_,rfl,upd_same,fun H2 gs kn g2 b1 b2 nkj nk hk k2=>⟨rfl,?_⟩⟩
  obtain ⟨sm,n0,hj⟩:=made_ju (A:=A) (wd:=⟨sd,wy,Vbbrag.nats x⟩) nsx nsdx hbx g1 a1 a2 a3 k1 nj njdx g2 b1 b2 nk hk k2
  refine ⟨_,rfl,_,rfl,e,_,dx,fs,_,rfl,sm _ _ h1,T.c_Ending,T.n_Ending_position,h5,j,kn,po,⟨sd,wy,Vbbrag.nats x⟩,d,m,S.play.now,[],rfl,hj,hk,Memo.nil _ _,h10.same sm,O,R,R.held16 O,capL O R,fun H3 kvs3 b3 _ _ _=>?_⟩
  have s3:=But.new sm n0 b3
  refine ⟨(by show 2 ≤ sizeLine; decide),fun r hr'=>?_⟩
  exact desk_fin D s3 hr' k rfl
theorem ok_lets (T:Txt K mg A):FnOk P w K mg base CX0 4 A.f_lets A.d_lets ["ending","numbers","rows"] (sp_desk A 13):=by
 have G_cards_let:=ok_cards_let (P:=P) (w:=w) (base:=base) T
 have G_cards_told:=ok_cards_told (P:=P) (w:=w) (base:=base) T
 have G_Statement_init:=ok_Statement_init (P:=P) (w:=w) (base:=base) T
 refine T.F_lets.ok sc_lets (fun vs H Q E h=>?_) (fun cdv A' outer s H vs Q E hr h=>?_)
 ·obtain ⟨e,pl,nl,rl,as,S,d,l,m,ns,xs,rfl,_⟩:=h
  rfl
 ·obtain ⟨e,pl,nl,rl,as,S,d,l,m,ns,xs,rfl,D,hnl,hrl,hR,hns,hxs,hin,k⟩:=h
  obtain ⟨y,z,rfl⟩:=len2 hns
  obtain ⟨x,rfl⟩:=len1 hxs
  obtain ⟨sd,wy,rfl,rfl,l1,l2,hx⟩:=in2 rfl rfl hin
  obtain ⟨b,hb,hbx⟩:=row1 hR
  rw [rowOk_nn hx] at hbx
  obtain ⟨dx,dd,po,wo,cv,fs,h1,h2,h3,h4,h5,h6,h7,h8,h9,h10,h11,h12⟩:=id D.at_
  have R:=D.rel
  have O:=D.ok
  have es:Vbbrag.stepRows S ((((13:Nat):Int) :: [(sd:Int),(wy:Int)]) :: [x]) = (S,0 :: ((mlets ⟨sd,wy,Vbbrag.nats x⟩ d m).length :: mlets ⟨sd,wy,Vbbrag.nats x⟩ d m).map fun (n:Nat)=>(n:Int)):=by
   show (if Vbbrag.wordsIn (sd:Int) (wy:Int) x = false then Vbbrag.no S 1 else Vbbrag.yes S (Vbbrag.counted (Vbbrag.lets ⟨sd,wy,Vbbrag.nats x⟩ S.play.now))) = _
   rw [words_yes l1 l2 hx,if_neg (by decide),R.lets]
   rfl
  rw [es] at k
  refine ⟨_,(pss_cons (ps_set (i:=3) sc_lets.nd rfl (by first | exact Or.inl rfl | exact Or.inr rfl) (pe_make T.M_Statement G_Statement_init (hr.mono (by decide)) rfl T.m_Statement T.b_Statement_init .nil pass0 (pa_cons (pe_ix ix_list (pv 1) pe_int (fun _ _=>rfl)) (pa_cons (pe_ix ix_list (pv 1) pe_int (fun _ _=>rfl)) (pa_cons (pe_ix ix_list (pv 2) pe_int (fun _ _=>rfl)) pa_nil))))) (pss_one (ps_ret (pe_op op_cat (pe_lst (pa_cons pe_int pa_nil)) (pe_call G_cards_told (hr.mono (by decide)) rfl T.m_cards_told T.F_cards_told.kp T.b_cards_told .nil pass0 (pa_cons (pe_call G_cards_let (hr.mono (by decide)) rfl T.m_cards_let T.F_cards_let.kp T.b_cards_let .nil pass0 (pa_cons (pv 3) (pa_cons (pe_fld (pv 0) rfl) pa_nil))) pa_nil)))))),?_⟩
  refine ⟨_,rfl,nl,_,_,_,rfl,rfl,SqL.of hnl,at0,_,rfl,nl,_,_,_,rfl,rfl,SqL.of hnl,at1,_,rfl,rl,_,_,_,rfl,rfl,SqL.of hrl,hb,?_⟩
  intro sx sdx nsx nsdx nes
  refine ⟨sx,sdx,_,_,_,rfl,upd_same,fun H1 fs1 g1 a1 a2 a3 k1=>⟨rfl,?_⟩⟩
  have sm1:Same H H1:=made_same nsx nsdx k1
  refine ⟨(by show 1 ≤ sizeLine; decide),fun q hq=>?_⟩
  have sq:=same_new hq (.lst [.int 0])
  have s2:=sm1.trans sq
  have hst:StAt A (upd H1 q (.lst [.int 0])) sx ⟨sd,wy,Vbbrag.nats x⟩:=⟨sdx,b,fs1,sq _ _ g1,a1,a2,a3,s2 _ _ hbx⟩
  refine ⟨_,rfl,_,rfl,e,_,dx,fs,_,rfl,s2 _ _ h1,T.c_Ending,T.n_Ending_position,h5,sx,po,⟨sd,wy,Vbbrag.nats x⟩,d,m,rfl,hst,h10.same s2,O,R.seat4,fun r3 H3 s3 hr3=>?_⟩
  have ml:(mlets ⟨sd,wy,Vbbrag.nats x⟩ d m).length ≤ 4:=mlets_len O R.seat4 _
  refine ⟨r3,_,rfl,hr3,by rw [ints_len]; omega,fun r4 H4 s4 hr4=>?_⟩
  refine ⟨q,r4,_,_,rfl,rfl,s4 _ _ (s3 _ _ upd_same),hr4,?_,fun r5 hr5=>?_⟩
  ·show 1 + ((nints _).length + 1) ≤ sizeLine
   rw [ints_len]
   exact Nat.le_of_lt (small1000 (by omega))
  ·refine desk_fin D ((s2.trans s3).trans s4) hr5 k ?_
   rw [intV_yes,ints_len]
   rfl
theorem ok_sure (T:Txt K mg A):FnOk P w K mg base CX0 40 A.f_sure A.d_sure ["ending","numbers","rows"] (sp_desk A 8):=by
 have G_sure_for:=ok_sure_for (P:=P) (w:=w) (base:=base) T
 have G_value:=ok_value (P:=P) (w:=w) (base:=base) T
 have G_Valuing_init:=ok_Valuing_init (P:=P) (w:=w) (base:=base) T
 refine T.F_sure.ok sc_sure (fun vs H Q E h=>?_) (fun cdv A' outer s H vs Q E hr h=>?_)
 ·obtain ⟨e,pl,nl,rl,as,S,d,l,m,ns,xs,rfl,_⟩:=h
  rfl
 ·obtain ⟨e,pl,nl,rl,as,S,d,l,m,ns,xs,rfl,D,hnl,hrl,hR,hns,hxs,hin,k⟩:=h
  obtain ⟨y,rfl⟩:=len1 hns
  obtain rfl:=len0 hxs
  obtain ⟨sd,rfl,l1⟩:∃ n:Nat,y = (n:Int) ∧ n ≤ 1:=nums1 (by unfold inR at hin; exact (Bool.and_eq_true _ _ ▸ hin).1)
  obtain ⟨dx,dd,po,wo,cv,fs,h1,h2,h3,h4,h5,h6,h7,h8,h9,h10,h11,h12⟩:=id D.at_
  have R:=D.rel
  have O:=D.ok
  have es:Vbbrag.stepRows S ((((8:Nat):Int) :: [(sd:Int)]) :: []) = (S,0 :: ([J ⟨sd,0,[]⟩ d m,VS sd d m]).map fun (n:Nat)=>(n:Int)):=by
   show (if Vbbrag.within (sd:Int) 0 1 = false then Vbbrag.no S 1 else Vbbrag.yes S [Vbbrag.judged ⟨sd,0,[]⟩ S.play.now,Vbbrag.valueFor sd S.play.now]) = _
   rw [show Vbbrag.within (sd:Int) 0 1 = true from (within_nat (lo:=0) (hi:=1)).trans (decide_eq_true ⟨by omega,l1⟩),if_neg (by decide),R.judged O,R.valueFor O]
   rfl
  rw [es] at k
  refine ⟨_,(pss_cons (ps_set (i:=3) sc_sure.nd rfl (by first | exact Or.inl rfl | exact Or.inr rfl) (pe_ix ix_list (pv 1) pe_int (fun _ _=>rfl))) (pss_cons (ps_set (i:=4) sc_sure.nd rfl (by first | exact Or.inl rfl | exact Or.inr rfl) (pe_fld (pv 0) rfl)) (pss_one (ps_ret (pe_lst (pa_cons pe_int (pa_cons (pe_call G_sure_for (hr.mono (by decide)) rfl T.m_sure_for T.F_sure_for.kp T.b_sure_for .nil pass0 (pa_cons (pv 4) (pa_cons (pv 3) pa_nil))) (pa_cons (pe_call G_value (hr.mono (by decide)) rfl T.m_value T.F_value.kp T.b_value .nil pass0 (pa_cons (pe_make0 T.M_Valuing G_Valuing_init (hr.mono (by decide)) rfl T.m_Valuing T.b_Valuing_init .nil pass0) (pa_cons (pv 4) (pa_cons (pv 3) pa_nil)))) pa_nil)))))))),?_⟩
  refine ⟨_,rfl,nl,_,_,_,rfl,rfl,SqL.of hnl,at0,?_⟩
  refine ⟨_,rfl,e,_,dx,fs,_,rfl,h1,T.c_Ending,T.n_Ending_position,h5,?_⟩
  refine ⟨_,rfl,_,rfl,po,d,m,S.play.now,sd,rfl,h10,O,R,fun H1 s1=>?_⟩
  intro j jdx nj njdx nej
  refine ⟨j,jdx,rfl,upd_same,fun H2 gs kn g1 a1 nkj nk hk k1=>⟨rfl,?_⟩⟩
  have nk0:H1 kn = none:=by
   have z:=nk
   rw [upd_ne nkj] at z
   by_cases e2:kn = jdx
   ·rw [e2,upd_same] at z
    cases z
   ·rw [upd_ne e2] at z
    exact z
  have s2:Same H1 H2:=fun b o q=>by
   rw [k1 b (ne_of_none q nj) (ne_of_none q nk0),upd_ne (ne_of_none q nj),upd_ne (ne_of_none q njdx)]
   exact q
  have sm:=s1.trans s2
  refine ⟨_,rfl,_,rfl,j,kn,po,d,m,S.play.now,[],sd,rfl,by omega,⟨jdx,gs,g1,a1⟩,hk,VMemo.nil d,h10.same sm,O,R,capL O R,fun H3 kvs3 b3 _ _ _=>?_⟩
  have s3:=But.new sm (s1.free nk0) b3
  refine ⟨(by show 3 ≤ sizeLine; decide),fun r hr'=>?_⟩
  exact desk_fin D s3 hr' k rfl
theorem lam_but2 {H H':Hp} {e pl C dx q:Addr} {fs:List (Str × V)} {xs:List V} {ps:PySem.Pos} {qn:Str} (h:LamT H q ps qn) (he:H e = some (.ins C dx fs)) (hl:H pl = some (.lst xs)) (b:But2 e pl H H'):LamT H' q ps qn:=
 h.to (fun _ z=>b _ _ z (ne_of z he (fun y=>nomatch y)) (ne_of z hl (fun y=>nomatch y))) fun _ _ _ z=>b _ _ z (ne_of z he (fun y=>nomatch y)) (ne_of z hl (fun y=>nomatch y))
theorem But2.keep {A:Adr} {e pl:Addr} {H H':Hp} (s:But2 e pl H H'):Keep A e pl H H':=fun b o q n1 n2 _ _=>s b o q n1 n2
theorem ButE.two {e pl:Addr} {H H':Hp} (s:ButE e H H'):But2 e pl H H':=fun b o q n _=>s b o q n
theorem But2.then {e pl:Addr} {H H1 H2:Hp} (a:But2 e pl H H1) (s:Same H1 H2):But2 e pl H H2:=fun b o q n1 n2=>s b o (a b o q n1 n2)
theorem set_claim {A:Adr} {H:Hp} {e pl dx:Addr} {d:Deal} {l:List Nat} {m:MP} {st:Vbbraf.State} {cl cl':Option Vbbrag.Claim} {v:V} {fs:List (Str × V)} (hE:EndAt A H e pl d l m st cl) (h1:H e = some (.ins A.c_Ending dx fs)) (hv:ClAt A H v cl'):EndAt A (upd H e (.ins A.c_Ending dx (putF "claim" v fs))) e pl d l m st cl':=by
 obtain ⟨dx',dd,po,wo,cv,fs',g1,h2,h3,h4,h5,h6,h7,h8,h9,h10,h11,h12⟩:=hE
 rw [h1] at g1
 cases g1
 have ek:EK 0 fs:=.inr h2
 have b:But2 e pl H (upd H e (.ins A.c_Ending dx (putF "claim" v fs))):=fun b o q n _=>by rw [upd_ne n]; exact q
 refine ⟨dx,dd,po,wo,v,_,upd_same,(keys_old (by rw [h2]; decide +kernel)).trans h2,(lk_miss (by decide +kernel)).trans h3,(lk_miss (by decide +kernel)).trans h4,(lk_miss (by decide +kernel)).trans h5,(lk_miss (by decide +kernel)).trans h6,lk_hit,h8.e h1 ek h9 b,?_,h10.e h1 ek h9 b,?_,hv.e h1 ek h9 b⟩
 ·rw [upd_ne (ne_of h9 h1 (fun z=>nomatch z))]
  exact h9
 ·rw [upd_ne (ne_of h11 h1 (fun z=>nomatch z))]
  exact h11
theorem ok_withdraw (T:Txt K mg A):FnOk P w K mg base CX0 1 A.f_withdraw A.d_withdraw ["ending","numbers","rows"] (sp_desk A 6):=by
 refine T.F_withdraw.ok sc_withdraw (fun vs H Q E h=>?_) (fun cdv A' outer s H vs Q E hr h=>?_)
 ·obtain ⟨e,pl,nl,rl,as,S,d,l,m,ns,xs,rfl,_⟩:=h
  rfl
 ·obtain ⟨e,pl,nl,rl,as,S,d,l,m,ns,xs,rfl,D,hnl,hrl,hR,hns,hxs,hin,k⟩:=h
  obtain rfl:=len0 hns
  obtain rfl:=len0 hxs
  obtain ⟨dx,dd,po,wo,cv,fs,h1,h2,h3,h4,h5,h6,h7,h8,h9,h10,h11,h12⟩:=id D.at_
  have e0:Vbbrag.stepRows S ((((6:Nat):Int) :: []) :: []) = if S.claim.isNone = true then Vbbrag.no S 4 else Vbbrag.yes ⟨S.play,none⟩ []:=rfl
  refine ⟨_,(pss_cons (ps_if (pt_cmp (pc_isN (pe_fld (pv 0) rfl))) (pss_one (ps_ret (pe_lst (pa_cons (pe_gint rfl T.g_NO_CLAIM) pa_nil)))) pss_nil) (pss_cons (ps_fld (pv 0) pe_non rfl) (pss_one (ps_ret (pe_lst (pa_cons pe_int pa_nil)))))),?_⟩
  refine ⟨_,rfl,e,_,dx,fs,_,rfl,h1,T.c_Ending,T.n_Ending_claim,h7,_,rfl,?_⟩
  cases hcl:S.claim with
  | none=>
   rw [hcl] at h12
   have hcv:cv = .non:=h12
   subst hcv
   rw [hcl,if_pos (show (none:Option Vbbrag.Claim).isNone = true from rfl)] at e0
   rw [e0] at k
   refine ifD (fun _=>?_) fun z=>absurd rfl z
   refine ⟨(by show 1 ≤ sizeLine; decide),fun r hr'=>?_⟩
   exact desk_fin D (Same.refl H) hr' k rfl
  | some c=>
   rw [hcl] at h12
   obtain ⟨ca,cx,gs,rfl,_⟩:=h12
   rw [hcl,if_neg (show ¬ (some c).isNone = true from Bool.false_ne_true)] at e0
   rw [e0] at k
   refine ifD (fun z=>nomatch z) fun _=>?_
   have ek:EK 0 fs:=.inr h2
   refine ⟨_,rfl,e,_,dx,_,rfl,h1,T.c_Ending,T.n_Ending_claim,ek.len,?_⟩
   have hE2:=set_claim (cl':=none) (v:=.non) D.at_ h1 rfl
   have b:But2 e pl H (upd H e (.ins A.c_Ending dx (putF "claim" .non fs))):=fun b o q n _=>by rw [upd_ne n]; exact q
   refine ⟨(by show 1 ≤ sizeLine; decide),fun r hr'=>?_⟩
   have s2:=same_new hr' (.lst [.int 0])
   refine k _ r pl d l m (b.then s2).keep (.inl rfl) ⟨hE2.same s2,D.ok,D.reach,(fun c z=>nomatch z),lam_but2 D.wt h1 h9 (b.then s2),lam_but2 D.bt h1 h9 (b.then s2)⟩ upd_same
theorem step_play (S:Vbbrag.State) (c:Nat) (h:c ≤ 51) (hcl:S.claim = none):Vbbrag.stepRows S ((((1:Nat):Int) :: [(c:Int)]) :: []) =
  if Vbbraf.held S.play.now = 0 then Vbbrag.no S 3 else if (Vbbraf.handOf S.play.now (Vbbraf.turnOf S.play.now)).contains c = false then Vbbrag.no S 4 else if (Vbbraf.legal S.play.now).contains c = false then Vbbrag.no S 5
  else Vbbrag.yes ⟨Vbbraf.playedBy S.play c,none⟩ [Vbbraf.turnOf (Vbbraf.playedBy S.play c).now,(Vbbraf.playedBy S.play c).won,(Vbbraf.playedBy S.play c).lost]:=by
 have hi:Vbbraf.isCard (c:Int) = true:=isCard_iff.mpr (by omega)
 have eS:(⟨S.play,none⟩:Vbbrag.State) = S:=by rw [← hcl]
 show (if Vbbraf.isCard (c:Int) = false then Vbbrag.no S 1 else if S.claim.isSome = true then Vbbrag.no S 8 else (⟨(Vbbraf.step S.play (.play (c:Int))).1,none⟩,(Vbbraf.step S.play (.play (c:Int))).2)) = _
 have e:Vbbraf.step S.play (.play (c:Int)) = if Vbbraf.held S.play.now = 0 then Vbbraf.no S.play 3 else if (Vbbraf.handOf S.play.now (Vbbraf.turnOf S.play.now)).contains c = false then Vbbraf.no S.play 4 else if (Vbbraf.legal S.play.now).contains c = false then Vbbraf.no S.play 5
  else Vbbraf.yes (Vbbraf.playedBy S.play c) [Vbbraf.turnOf (Vbbraf.playedBy S.play c).now,(Vbbraf.playedBy S.play c).won,(Vbbraf.playedBy S.play c).lost]:=by
  show (if Vbbraf.isCard (c:Int) = false then Vbbraf.no S.play 1 else _) = _
  rw [hi,if_neg (by decide)]
  rfl
 rw [e,hi,hcl,if_neg (by decide),if_neg (by decide)]
 split
 ·show ((⟨S.play,none⟩:Vbbrag.State),_) = _
  rw [eS]
  rfl
 split
 ·show ((⟨S.play,none⟩:Vbbrag.State),_) = _
  rw [eS]
  rfl
 split
 ·show ((⟨S.play,none⟩:Vbbrag.State),_) = _
  rw [eS]
  rfl
 rfl
theorem ok_play (T:Txt K mg A):FnOk P w K mg base CX0 6 A.f_play A.d_play ["ending","numbers","rows"] (sp_desk A 1):=by
 have G_hand_of:=ok_hand_of (P:=P) (w:=w) (base:=base) T
 have G_may_play:=ok_may_play (P:=P) (w:=w) (base:=base) T
 have G_put_card:=ok_put_card (P:=P) (w:=w) (base:=base) T
 have G_turn_and_tricks:=ok_turn_and_tricks (P:=P) (w:=w) (base:=base) T
 refine T.F_play.ok sc_play (fun vs H Q E h=>?_) (fun cdv A' outer s H vs Q E hr h=>?_)
 ·obtain ⟨e,pl,nl,rl,as,S,d,l,m,ns,xs,rfl,_⟩:=h
  rfl
 ·obtain ⟨e,pl,nl,rl,as,S,d,l,m,ns,xs,rfl,D,hnl,hrl,hR,hns,hxs,hin,k⟩:=h
  obtain ⟨y,rfl⟩:=len1 hns
  obtain rfl:=len0 hxs
  obtain ⟨c,rfl,l1⟩:∃ n:Nat,y = (n:Int) ∧ n ≤ 51:=nums1 (by unfold inR at hin; exact (Bool.and_eq_true _ _ ▸ hin).1)
  obtain ⟨dx,dd,po,wo,cv,fs,h1,h2,h3,h4,h5,h6,h7,h8,h9,h10,h11,h12⟩:=id D.at_
  obtain ⟨dd',pdx,pfs,hd,hp,q1,q2,q3,q4,q5,q6,q7⟩:=id h10
  have R:=D.rel
  have O:=D.ok
  refine ⟨_,(pss_cons (ps_set (i:=3) sc_play.nd rfl (by first | exact Or.inl rfl | exact Or.inr rfl) (pe_ix ix_list (pv 1) pe_int (fun _ _=>rfl))) (pss_cons (ps_set (i:=4) sc_play.nd rfl (by first | exact Or.inl rfl | exact Or.inr rfl) (pe_fld (pv 0) rfl)) (pss_cons (ps_if (pt_cmp (pc_notN (pe_fld (pv 0) rfl))) (pss_one (ps_ret (pe_lst (pa_cons (pe_gint rfl T.g_CLAIM_THERE) pa_nil)))) pss_nil) (pss_cons (ps_if (pt_cmpR op_eq (pe_fld (pv 4) rfl) pe_int (nomark _)) (pss_one (ps_ret (pe_lst (pa_cons (pe_gint rfl T.g_NO_CARDS) pa_nil)))) pss_nil) (pss_cons (ps_if (pt_cmpR op_notIn_seq (pv 3) (pe_call G_hand_of (hr.mono (by decide)) rfl T.m_hand_of T.F_hand_of.kp T.b_hand_of .nil pass0 (pa_cons (pv 4) (pa_cons (pe_fld (pv 4) rfl) pa_nil))) (by with_unfolding_all rfl)) (pss_one (ps_ret (pe_lst (pa_cons (pe_gint rfl T.g_CARD_NOT_THERE) pa_nil)))) pss_nil) (pss_cons (ps_if (pt_cmpR op_notIn_seq (pv 3) (pe_call G_may_play (hr.mono (by decide)) rfl T.m_may_play T.F_may_play.kp T.b_may_play .nil pass0 (pa_cons (pv 4) pa_nil)) (by with_unfolding_all rfl)) (pss_one (ps_ret (pe_lst (pa_cons (pe_gint rfl T.g_SUIT_NOT_FOLLOWED) pa_nil)))) pss_nil) (pss_cons (ps_expr (pe_call G_put_card (hr.mono (by decide)) rfl T.m_put_card T.F_put_card.kp T.b_put_card .nil pass0 (pa_cons (pv 0) (pa_cons (pv 3) pa_nil)))) (pss_one (ps_ret (pe_call G_turn_and_tricks (hr.mono (by decide)) rfl T.m_turn_and_tricks T.F_turn_and_tricks.kp T.b_turn_and_tricks .nil pass0 (pa_cons (pv 0) pa_nil))))))))))),?_⟩
  refine ⟨_,rfl,nl,_,_,_,rfl,rfl,SqL.of hnl,at0,?_⟩
  refine ⟨_,rfl,e,_,dx,fs,_,rfl,h1,T.c_Ending,T.n_Ending_position,h5,?_⟩
  refine ⟨_,rfl,e,_,dx,fs,_,rfl,h1,T.c_Ending,T.n_Ending_claim,h7,_,rfl,?_⟩
  cases hcl:S.claim with
  | some cc=>
   have es:Vbbrag.stepRows S ((((1:Nat):Int) :: [(c:Int)]) :: []) = (S,[-8]):=by
    show (if Vbbraf.isCard (c:Int) = false then Vbbrag.no S 1 else if S.claim.isSome = true then Vbbrag.no S 8 else _) = _
    rw [show Vbbraf.isCard (c:Int) = true from isCard_iff.mpr (by omega),hcl,if_neg (by decide),if_pos (show (some cc).isSome = true from rfl)]
    rfl
   rw [es] at k
   rw [hcl] at h12
   obtain ⟨ca,cx,gs,rfl,_⟩:=h12
   refine ifN (fun _=>?_) fun z=>nomatch z
   refine ⟨(by show 1 ≤ sizeLine; decide),fun r hr'=>?_⟩
   exact desk_fin D (Same.refl H) hr' k rfl
  | none=>
   have es:=step_play S c l1 hcl
   rw [R.held,R.turn,R.handOf,R.legal] at es
   rw [hcl] at h12
   have hcv:cv = .non:=h12
   subst hcv
   refine ifN (fun z=>absurd rfl z) fun _=>?_
   refine ⟨_,rfl,po,_,pdx,pfs,_,rfl,hp,T.c_Position,T.n_Position_left,q2,rfl,_,rfl,?_⟩
   refine ifI (fun z=>?_) fun z=>?_
   ·have h0:=(left_zero O R).mp (by omega)
    rw [if_pos h0] at es
    rw [es] at k
    refine ⟨(by show 1 ≤ sizeLine; decide),fun r hr'=>?_⟩
    exact desk_fin D (Same.refl H) hr' k rfl
   have h0:¬ mheld d m = 0:=fun q=>z (by have:=(left_zero O R).mpr q; omega)
   rw [if_neg h0] at es
   refine ⟨_,rfl,_,rfl,_,rfl,po,_,pdx,pfs,_,rfl,hp,T.c_Position,T.n_Position_seat,q3,?_⟩
   refine ⟨po,d,m,m.seat,rfl,h10,O.len,R.seat4,deal4 O,fun r1 H1 s1 hr1=>?_⟩
   refine ⟨r1,_,rfl,.inl (SqL.of hr1),rfl,ints_flat _,_,rfl,?_⟩
   rw [if_pos rfl,inV_ints]
   cases hc1:(hand d m m.seat).contains c with
   | false=>
    rw [if_pos hc1] at es
    rw [es] at k
    refine iteT ⟨(by show 1 ≤ sizeLine; decide),fun r hr'=>?_⟩
    exact desk_fin D s1 hr' k rfl
   | true=>
    rw [hc1,if_neg (by decide)] at es
    refine iteF ?_
    refine ⟨_,rfl,_,rfl,po,d,m,rfl,h10.same s1,O.len,R.seat4,deal4 O,fun r2 H2 s2 hr2=>?_⟩
    refine ⟨r2,_,rfl,.inl (SqL.of hr2),rfl,ints_flat _,_,rfl,?_⟩
    rw [if_pos rfl,inV_ints]
    have s12:=s1.trans s2
    cases hc2:(may d m).contains c with
    | false=>
     rw [if_pos hc2] at es
     rw [es] at k
     refine iteT ⟨(by show 1 ≤ sizeLine; decide),fun r hr'=>?_⟩
     exact desk_fin D s12 hr' k rfl
    | true=>
     rw [hc2,if_neg (by decide)] at es
     rw [es] at k
     have hm:c ∈ may d m:=by simpa using hc2
     refine iteF ?_
     have l16:=D.reach.len16 O
     refine ⟨_,rfl,_,rfl,e,pl,d,l,m,S.play,S.claim,c,rfl,D.at_.same s12,O,R,hm,by omega,fun H3 b3 hE3=>?_⟩
     rw [hcl] at hE3
     have rc:=Reach.play D.reach hm
     refine ⟨_,rfl,e,pl,d,_,_,_,none,rfl,hE3,fun r4 H4 s4 hr4=>?_⟩
     have b4:But2 e pl H H4:=fun b o q n1 n2=>s4 b o (b3 b o (s12 b o q) n1 n2)
     refine k _ r4 pl d _ _ b4.keep (.inl rfl) ⟨hE3.same s4,O,rc,(fun c z=>nomatch z),lam_but2 D.wt h1 h9 b4,lam_but2 D.bt h1 h9 b4⟩ ?_
     rw [hr4,(rc.held O).rel.turn]
     rfl
theorem ok_back (T:Txt K mg A):FnOk P w K mg base CX0 7 A.f_back A.d_back ["ending","numbers","rows"] (sp_desk A 2):=by
 have G_take_card_back:=ok_take_card_back (P:=P) (w:=w) (base:=base) T
 have G_turn_and_tricks:=ok_turn_and_tricks (P:=P) (w:=w) (base:=base) T
 refine T.F_back.ok sc_back (fun vs H Q E h=>?_) (fun cdv A' outer s H vs Q E hr h=>?_)
 ·obtain ⟨e,pl,nl,rl,as,S,d,l,m,ns,xs,rfl,_⟩:=h
  rfl
 ·obtain ⟨e,pl,nl,rl,as,S,d,l,m,ns,xs,rfl,D,hnl,hrl,hR,hns,hxs,hin,k⟩:=h
  obtain rfl:=len0 hns
  obtain rfl:=len0 hxs
  obtain ⟨dx,dd,po,wo,cv,fs,h1,h2,h3,h4,h5,h6,h7,h8,h9,h10,h11,h12⟩:=id D.at_
  have R:=D.rel
  have O:=D.ok
  have hH:=D.reach.held O
  refine ⟨_,(pss_cons (ps_if (pt_cmp (pc_notN (pe_fld (pv 0) rfl))) (pss_one (ps_ret (pe_lst (pa_cons (pe_gint rfl T.g_CLAIM_THERE) pa_nil)))) pss_nil) (pss_cons (ps_if (pt_cmpR op_eq (pe_callB call_len_seq (by rfl) T.z_len bt_len (pa_cons (pe_fld (pv 0) rfl) pa_nil)) pe_int (nomark _)) (pss_one (ps_ret (pe_lst (pa_cons (pe_gint rfl T.g_NO_CARDS) pa_nil)))) pss_nil) (pss_cons (ps_expr (pe_call G_take_card_back (hr.mono (by decide)) rfl T.m_take_card_back T.F_take_card_back.kp T.b_take_card_back .nil pass0 (pa_cons (pv 0) pa_nil))) (pss_one (ps_ret (pe_call G_turn_and_tricks (hr.mono (by decide)) rfl T.m_turn_and_tricks T.F_turn_and_tricks.kp T.b_turn_and_tricks .nil pass0 (pa_cons (pv 0) pa_nil))))))),?_⟩
  refine ⟨_,rfl,e,_,dx,fs,_,rfl,h1,T.c_Ending,T.n_Ending_claim,h7,_,rfl,?_⟩
  have e0:Vbbrag.stepRows S ((((2:Nat):Int) :: []) :: []) = if S.claim.isSome = true then Vbbrag.no S 8 else (⟨(Vbbraf.step S.play .back).1,none⟩,(Vbbraf.step S.play .back).2):=rfl
  cases hcl:S.claim with
  | some cc=>
   rw [hcl,if_pos (show (some cc).isSome = true from rfl)] at e0
   rw [e0] at k
   rw [hcl] at h12
   obtain ⟨ca,cx,gs,rfl,_⟩:=h12
   refine ifN (fun _=>?_) fun z=>nomatch z
   refine ⟨(by show 1 ≤ sizeLine; decide),fun r hr'=>?_⟩
   exact desk_fin D (Same.refl H) hr' k rfl
  | none=>
   rw [hcl,if_neg (by decide)] at e0
   have eS:(⟨S.play,none⟩:Vbbrag.State) = S:=by rw [← hcl]
   rw [hcl] at h12
   have hcv:cv = .non:=h12
   subst hcv
   refine ifN (fun z=>absurd rfl z) fun _=>?_
   refine ⟨_,rfl,e,_,dx,fs,_,rfl,h1,T.c_Ending,T.n_Ending_played,h4,pl,_,rfl,.inl (SqL.of h9),rfl,_,rfl,?_⟩
   rw [ints_len]
   by_cases hl:l = []
   ·have e1:Vbbraf.step S.play .back = Vbbraf.no S.play 3:=by
     show (if S.play.played.isEmpty = true then Vbbraf.no S.play 3 else _) = _
     rw [hH.played,hl,if_pos (show ([]:List Nat).isEmpty = true from rfl)]
    rw [e1] at e0
    have e2:Vbbrag.stepRows S ((((2:Nat):Int) :: []) :: []) = (S,[-3]):=e0.trans (by rw [← eS]; rfl)
    rw [e2] at k
    refine ifI (fun _=>?_) fun z=>absurd (by rw [hl]; rfl) z
    refine ⟨(by show 1 ≤ sizeLine; decide),fun r hr'=>?_⟩
    exact desk_fin D (Same.refl H) hr' k rfl
   ·have lp:=List.length_pos_iff.mpr hl
    have e1:Vbbraf.step S.play .back = Vbbraf.yes (l.dropLast.foldl Vbbraf.playedBy (Vbbraf.dealt (firstP d))) [Vbbraf.turnOf (l.dropLast.foldl Vbbraf.playedBy (Vbbraf.dealt (firstP d))).now,(l.dropLast.foldl Vbbraf.playedBy (Vbbraf.dealt (firstP d))).won,(l.dropLast.foldl Vbbraf.playedBy (Vbbraf.dealt (firstP d))).lost]:=by
     show (if S.play.played.isEmpty = true then Vbbraf.no S.play 3 else Vbbraf.yes (S.play.played.dropLast.foldl Vbbraf.playedBy (Vbbraf.dealt S.play.first)) [Vbbraf.turnOf (S.play.played.dropLast.foldl Vbbraf.playedBy (Vbbraf.dealt S.play.first)).now,(S.play.played.dropLast.foldl Vbbraf.playedBy (Vbbraf.dealt S.play.first)).won,(S.play.played.dropLast.foldl Vbbraf.playedBy (Vbbraf.dealt S.play.first)).lost]) = _
     rw [hH.played,hH.first,if_neg (by simp [hl])]
    rw [e1] at e0
    refine ifI (fun z=>absurd z (by omega)) fun _=>?_
    refine ⟨_,rfl,e,pl,d,l,m,S.play,S.claim,rfl,D.at_,O,D.reach,hl,fun H1 pl' m' s' b1 npl hE1 rc=>?_⟩
    rw [← rc.fold.2] at e0
    rw [e0] at k
    refine ⟨_,rfl,e,pl',d,_,m',s',none,rfl,hE1,fun r4 H4 s4 hr4=>?_⟩
    have b4:But2 e pl H H4:=(ButE.two b1).then s4
    refine k _ r4 pl' d _ m' b4.keep (.inr npl) ⟨hE1.same s4,O,rc,(fun c z=>nomatch z),lam_but2 D.wt h1 h9 b4,lam_but2 D.bt h1 h9 b4⟩ ?_
    rw [hr4]
    show _ = some (HO.lst (intV (0 :: ([Vbbraf.turnOf s'.now,s'.won,s'.lost]).map fun (n:Nat)=>(n:Int))))
    rw [(rc.held O).rel.turn]
    rfl
theorem wIn_len (wd:Vbbrag.Words) (d:Deal):∀ (n:Nat) (m:MP),(wIn wd d n m).length ≤ n
 | 0,_=>Nat.le_refl _
 | n + 1,m=>by
  unfold wIn
  split
  ·exact Nat.zero_le _
  ·exact Nat.succ_le_succ (wIn_len wd d n _)
theorem EndAt.y {A:Adr} {H H':Hp} {e pl:Addr} {d:Deal} {l:List Nat} {m:MP} {st:Vbbraf.State} {cl:Option Vbbrag.Claim} (h:EndAt A H e pl d l m st cl) (s:SameY H H'):EndAt A H' e pl d l m st cl:=by
 obtain ⟨dx,dd,po,wo,cv,fs,h1,h2,h3,h4,h5,h6,h7,h8,h9,h10,h11,h12⟩:=h
 refine ⟨dx,dd,po,wo,cv,fs,s _ _ h1 (fun _ z=>nomatch z) (fun _ z=>nomatch z),h2,h3,h4,h5,h6,h7,h8.y s,s _ _ h9 (fun _ z=>nomatch z) (fun _ z=>nomatch z),h10.y s,s _ _ h11 (fun _ z=>nomatch z) (fun _ z=>nomatch z),?_⟩
 cases cl with
 | none=>exact h12
 | some c=>
  obtain ⟨a,cx,gs,q1,q2,r⟩:=h12
  exact ⟨a,cx,gs,q1,s _ _ q2 (fun _ z=>nomatch z) (fun _ z=>nomatch z),r⟩
theorem ok_worst (T:Txt K mg A) (hB:base.BuiltinsAt mg A.p_worst_card) (hne:A.p_worst_card ≠ A.p_best_order):FnOk P w K mg base CX0 44 A.f_worst A.d_worst ["ending","numbers","rows"] (sp_desk A 7):=by
 have G_worst_play:=ok_worst_play (P:=P) (w:=w) (base:=base) T hB
 have G_cards_told:=ok_cards_told (P:=P) (w:=w) (base:=base) T
 have G_Judging_init:=ok_Judging_init (P:=P) (w:=w) (base:=base) T
 have G_Statement_init:=ok_Statement_init (P:=P) (w:=w) (base:=base) T
 refine T.F_worst.ok sc_worst (fun vs H Q E h=>?_) (fun cdv A' outer s H vs Q E hr h=>?_)
 ·obtain ⟨e,pl,nl,rl,as,S,d,l,m,ns,xs,rfl,_⟩:=h
  rfl
 ·obtain ⟨e,pl,nl,rl,as,S,d,l,m,ns,xs,rfl,D,hnl,hrl,hR,hns,hxs,hin,k⟩:=h
  obtain ⟨y,z,rfl⟩:=len2 hns
  obtain ⟨x,rfl⟩:=len1 hxs
  obtain ⟨sd,wy,rfl,rfl,l1,l2,hx⟩:=in2 rfl rfl hin
  obtain ⟨b,hb,hbx⟩:=row1 hR
  rw [rowOk_nn hx] at hbx
  obtain ⟨dx,dd,po,wo,cv,fs,h1,h2,h3,h4,h5,h6,h7,h8,h9,h10,h11,h12⟩:=id D.at_
  have R:=D.rel
  have O:=D.ok
  have es:Vbbrag.stepRows S ((((7:Nat):Int) :: [(sd:Int),(wy:Int)]) :: [x]) = (S,0 :: ((W ⟨sd,wy,Vbbrag.nats x⟩ d m).length :: W ⟨sd,wy,Vbbrag.nats x⟩ d m).map fun (n:Nat)=>(n:Int)):=by
   show (if Vbbrag.wordsIn (sd:Int) (wy:Int) x = false then Vbbrag.no S 1 else Vbbrag.yes S (Vbbrag.counted (Vbbrag.worst ⟨sd,wy,Vbbrag.nats x⟩ S.play.now))) = _
   rw [words_yes l1 l2 hx,if_neg (by decide),R.worst O]
   rfl
  rw [es] at k
  have wl:(W ⟨sd,wy,Vbbrag.nats x⟩ d m).length ≤ 16:=Nat.le_trans (wIn_len _ _ _ _) (R.held16 O)
  refine ⟨_,(pss_cons (ps_set (i:=3) sc_worst.nd rfl (by first | exact Or.inl rfl | exact Or.inr rfl) (pe_make T.M_Judging G_Judging_init (hr.mono (by decide)) rfl T.m_Judging T.b_Judging_init .nil pass0 (pa_cons (pe_make T.M_Statement G_Statement_init (hr.mono (by decide)) rfl T.m_Statement T.b_Statement_init .nil pass0 (pa_cons (pe_ix ix_list (pv 1) pe_int (fun _ _=>rfl)) (pa_cons (pe_ix ix_list (pv 1) pe_int (fun _ _=>rfl)) (pa_cons (pe_ix ix_list (pv 2) pe_int (fun _ _=>rfl)) pa_nil)))) pa_nil))) (pss_one (ps_ret (pe_op op_cat (pe_lst (pa_cons pe_int pa_nil)) (pe_call G_cards_told (hr.mono (by decide)) rfl T.m_cards_told T.F_cards_told.kp T.b_cards_told .nil pass0 (pa_cons (pe_call G_worst_play (hr.mono (by decide)) rfl T.m_worst_play T.F_worst_play.kp T.b_worst_play .nil pass0 (pa_cons (pv 3) (pa_cons (pe_fld (pv 0) rfl) pa_nil))) pa_nil)))))),?_⟩
  refine ⟨_,rfl,nl,_,_,_,rfl,rfl,SqL.of hnl,at0,_,rfl,nl,_,_,_,rfl,rfl,SqL.of hnl,at1,_,rfl,rl,_,_,_,rfl,rfl,SqL.of hrl,hb,?_⟩
  intro sx sdx nsx nsdx nes
  refine ⟨sx,sdx,_,_,_,rfl,upd_same,fun H1 fs1 g1 a1 a2 a3 k1=>⟨rfl,?_⟩⟩
  intro j jdx nj njdx nej
  refine ⟨j,jdx,_,rfl,upd_same,fun H2 gs kn g2 b1 b2 nkj nk hk k2=>⟨rfl,?_⟩⟩
  obtain ⟨sm,n0,hj⟩:=made_ju (A:=A) (wd:=⟨sd,wy,Vbbrag.nats x⟩) nsx nsdx hbx g1 a1 a2 a3 k1 nj njdx g2 b1 b2 nk hk k2
  refine ⟨(by show 1 ≤ sizeLine; decide),fun q hq=>?_⟩
  have sq:=same_new hq (.lst [.int 0])
  have s3:=sm.trans sq
  have hk3:=sq _ _ hk
  obtain ⟨ps0,hP0,_⟩:=id (D.wt.same s3)
  have hsc:([]:List (List Key × V)).length + sc (mheld d m) ≤ lim:=by
   have:=sc_le (R.held16 O)
   unfold lim
   simp
   omega
  refine ⟨_,rfl,_,rfl,e,_,dx,fs,_,rfl,s3 _ _ h1,T.c_Ending,T.n_Ending_position,h5,j,kn,po,⟨sd,wy,Vbbrag.nats x⟩,d,m,S.play.now,[],rfl,hj.x sq.x,hk3,Memo.nil _ _,h10.same s3,O,R,D.wt.same s3,hsc,fun H4 r4 b4 wt4 hr4=>?_⟩
  have y4:=b4.y hk3 hP0
  refine ⟨r4,_,rfl,hr4,by rw [ints_len]; omega,fun r5 H5 s5 hr5=>?_⟩
  have hq5:=s5 _ _ (y4 _ _ (upd_same:upd H2 q (.lst [.int 0]) q = _) (fun _ z=>nomatch z) (fun _ z=>nomatch z))
  refine ⟨q,r5,_,_,rfl,rfl,hq5,hr5,?_,fun r6 hr6=>?_⟩
  ·show 1 + ((nints _).length + 1) ≤ sizeLine
   rw [ints_len]
   exact Nat.le_of_lt (small1000 (by omega))
  ·have s6:=s5.trans (same_new hr6 (.lst ([.int 0] ++ (.int (((nints (W ⟨sd,wy,Vbbrag.nats x⟩ d m)).length:Nat):Int) :: nints (W ⟨sd,wy,Vbbrag.nats x⟩ d m)))))
   have bt4:BestT A H4:=(D.bt.same s3).to (fun _ z=>b4 _ _ z (ne_of z hk3 (fun y=>nomatch y)) (Ne.symm hne)) fun _ _ _ z=>y4 _ _ z (fun _ y=>nomatch y) (fun _ y=>nomatch y)
   refine k _ r6 pl d l m (fun b o q0 n1 n2 n3 n4=>s6 _ _ (b4 _ _ (s3 _ _ q0) (ne_of_none q0 n0) n3)) (.inl rfl) ⟨((D.at_.same s3).y y4).same s6,O,D.reach,D.cl,wt4.same s6,bt4.same s6⟩ ?_
   rw [upd_same,intV_yes,ints_len]
   rfl
theorem made_wo {A:Adr} {H H1:Hp} {j jx kn po:Addr} {gs:List (Str × V)} {side way:Nat} (nj:H j = none) (njx:H jx = none) (h1:H1 j = some (.ins A.c_Wording jx gs)) (b0:gs.lookup ("position":Str) = some (.ref po)) (b1:gs.lookup ("side":Str) = some (.int (side:Int))) (b2:gs.lookup ("way":Str) = some (.int (way:Int))) (b3:gs.lookup ("known":Str) = some (.ref kn))
  (nkj:kn ≠ j) (nk:upd (upd H jx (.own j)) j (.ins A.c_Wording jx []) kn = none) (k1:∀ b,b ≠ j → b ≠ kn → H1 b = upd (upd H jx (.own j)) j (.ins A.c_Wording jx []) b):Same H H1 ∧ H kn = none ∧ WoAt A H1 j kn po side way:=by
 have nk0:H kn = none:=by
  have z:=nk
  rw [upd_ne nkj] at z
  by_cases e2:kn = jx
  ·rw [e2,upd_same] at z
   cases z
  ·rw [upd_ne e2] at z
   exact z
 have s2:Same H H1:=fun b o q=>by
  rw [k1 b (ne_of_none q nj) (ne_of_none q nk0),upd_ne (ne_of_none q nj),upd_ne (ne_of_none q njx)]
  exact q
 exact ⟨s2,nk0,jx,gs,h1,b0,b1,b2,b3⟩
theorem Rel.needed {d:Deal} {m:MP} {p:Vbbraf.Pos} (O:DealOk d) (R:Rel d m p) (side way:Nat) (cs:List Nat) (n:Nat):Vbbrag.shortest ⟨side,way,cs⟩ n p = needed side way d m cs n:=by
 unfold Vbbrag.shortest Cc.needed
 refine find_congr fun c _=>?_
 show decide (n ≤ Vbbrag.judged ⟨side,way,cs.take c⟩ p) = _
 rw [R.judged O]
theorem step_shortest (S:Vbbrag.State) {sd n wy:Nat} {x:List Int} (l1:sd ≤ 1) (l2:n ≤ 4) (l3:wy ≤ 2) (hx:rowOk 16 x = true):Vbbrag.stepRows S ((((9:Nat):Int) :: [(sd:Int),(n:Int),(wy:Int)]) :: [x]) =
  match Vbbrag.shortest ⟨sd,wy,Vbbrag.nats x⟩ n S.play.now with
   | none=>Vbbrag.no S 7
   | some n=>Vbbrag.yes S [n]:=by
 show (if (Vbbrag.wordsIn (sd:Int) (wy:Int) x && Vbbrag.within (n:Int) 0 4) = false then Vbbrag.no S 1 else match Vbbrag.shortest ⟨sd,wy,Vbbrag.nats x⟩ n S.play.now with
   | none=>Vbbrag.no S 7
   | some n=>Vbbrag.yes S [n]) = _
 rw [words_yes l1 l3 hx,show Vbbrag.within (n:Int) 0 4 = true from (within_nat (lo:=0) (hi:=4)).trans (decide_eq_true ⟨by omega,l2⟩),if_neg (by decide)]
theorem ok_shortest (T:Txt K mg A):FnOk P w K mg base CX0 41 A.f_shortest A.d_shortest ["ending","numbers","rows"] (sp_desk A 9):=by
 have G_Wording_init:=ok_Wording_init (P:=P) (w:=w) (base:=base) T
 have G_cards_needed:=ok_cards_needed (P:=P) (w:=w) (base:=base) T
 refine T.F_shortest.ok sc_shortest (fun vs H Q E h=>?_) (fun cdv A' outer s H vs Q E hr h=>?_)
 ·obtain ⟨e,pl,nl,rl,as,S,d,l,m,ns,xs,rfl,_⟩:=h
  rfl
 ·obtain ⟨e,pl,nl,rl,as,S,d,l,m,ns,xs,rfl,D,hnl,hrl,hR,hns,hxs,hin,k⟩:=h
  obtain ⟨y,z,v,rfl⟩:=len3 hns
  obtain ⟨x,rfl⟩:=len1 hxs
  obtain ⟨sd,n,wy,rfl,rfl,rfl,l1,l2,l3,hx⟩:=in3 rfl rfl hin
  obtain ⟨b,hb,hbx⟩:=row1 hR
  rw [rowOk_nn hx] at hbx
  obtain ⟨dx,dd,po,wo,cv,fs,h1,h2,h3,h4,h5,h6,h7,h8,h9,h10,h11,h12⟩:=id D.at_
  have R:=D.rel
  have O:=D.ok
  have es:=step_shortest S l1 l2 l3 hx
  rw [R.needed O] at es
  refine ⟨_,(pss_cons (ps_set (i:=3) sc_shortest.nd rfl (by first | exact Or.inl rfl | exact Or.inr rfl) (pe_make T.M_Wording G_Wording_init (hr.mono (by decide)) rfl T.m_Wording T.b_Wording_init .nil pass0 (pa_cons (pe_fld (pv 0) rfl) (pa_cons (pe_ix ix_list (pv 1) pe_int (fun _ _=>rfl)) (pa_cons (pe_ix ix_list (pv 1) pe_int (fun _ _=>rfl)) pa_nil))))) (pss_cons (ps_set (i:=4) sc_shortest.nd rfl (by first | exact Or.inl rfl | exact Or.inr rfl) (pe_call G_cards_needed (hr.mono (by decide)) rfl T.m_cards_needed T.F_cards_needed.kp T.b_cards_needed .nil pass0 (pa_cons (pv 3) (pa_cons (pe_ix ix_list (pv 2) pe_int (fun _ _=>rfl)) (pa_cons (pe_ix ix_list (pv 1) pe_int (fun _ _=>rfl)) pa_nil))))) (pss_cons (ps_if (pt_cmp (pc_isN (pv 4))) (pss_one (ps_ret (pe_lst (pa_cons (pe_gint rfl T.g_NEVER_ENOUGH) pa_nil)))) pss_nil) (pss_one (ps_ret (pe_lst (pa_cons pe_int (pa_cons (pv 4) pa_nil)))))))),?_⟩
  refine ⟨_,rfl,e,_,dx,fs,_,rfl,h1,T.c_Ending,T.n_Ending_position,h5,_,rfl,nl,_,_,_,rfl,rfl,SqL.of hnl,at0,_,rfl,nl,_,_,_,rfl,rfl,SqL.of hnl,at2,?_⟩
  intro j jdx nj njdx nej
  refine ⟨j,jdx,_,_,_,rfl,upd_same,fun H1 gs kn g1 b0 b1 b2 b3 nkj nk hk k1=>⟨rfl,?_⟩⟩
  obtain ⟨sm,n0,hw⟩:=made_wo nj njdx g1 b0 b1 b2 b3 nkj nk k1
  have hx16:=(rowOk_iff.mp hx).1
  refine ⟨_,rfl,_,rfl,rl,_,_,_,rfl,rfl,SqL.of (sm _ _ hrl),hb,_,rfl,nl,_,_,_,rfl,rfl,SqL.of (sm _ _ hnl),at1,?_⟩
  refine ⟨j,kn,po,b,sd,wy,d,m,S.play.now,[],_,n,rfl,hw,hk,RMemo.nil _ _ _ _,h10.same sm,O,R,by omega,sm _ _ hbx,by rw [nats_len]; omega,by simp,fun H2 b2=>?_⟩
  have s2:=But.new sm n0 b2
  refine ⟨fun nn hn=>?_,fun hn=>?_⟩
  ·rw [hn] at es
   rw [es] at k
   refine ⟨_,rfl,_,rfl,ifD (fun z=>nomatch z) fun _=>?_⟩
   refine ⟨_,rfl,(by show 2 ≤ sizeLine; decide),fun r hr'=>?_⟩
   exact desk_fin D s2 hr' k rfl
  ·rw [hn] at es
   rw [es] at k
   refine ⟨_,rfl,_,rfl,ifD (fun _=>?_) fun z=>absurd rfl z⟩
   refine ⟨(by show 1 ≤ sizeLine; decide),fun r hr'=>?_⟩
   exact desk_fin D s2 hr' k rfl
theorem nats_nodup {x:List Int} (h:∀ c ∈ x,0 ≤ c):(Vbbrag.nats x).Nodup ↔ x.Nodup:=by
 unfold Vbbrag.nats List.Nodup
 rw [List.pairwise_map]
 constructor
 ·exact fun q=>q.imp fun z e=>z (by rw [e])
 ·exact fun q=>q.imp_of_mem fun {a b} ha hb z e=>z (by have:=h a ha; have:=h b hb; omega)
theorem step_order (S:Vbbrag.State) {sd wy:Nat} {x:List Int} (l1:sd ≤ 1) (l2:wy ≤ 2) (hx:rowOk 16 x = true):Vbbrag.stepRows S ((((10:Nat):Int) :: [(sd:Int),(wy:Int)]) :: [x]) =
  if 4 < x.length ∨ Vbbraf.noneTwice (Vbbrag.nats x) = false then Vbbrag.no S 6
  else Vbbrag.yes S ((Vbbrag.bestOrder sd wy S.play.now (Vbbrag.orders x.length (Vbbraf.sorted (Vbbrag.nats x))) (Vbbraf.sorted (Vbbrag.nats x),0)).2 :: Vbbrag.counted (Vbbrag.bestOrder sd wy S.play.now (Vbbrag.orders x.length (Vbbraf.sorted (Vbbrag.nats x))) (Vbbraf.sorted (Vbbrag.nats x),0)).1):=by
 show (if Vbbrag.wordsIn (sd:Int) (wy:Int) x = false then Vbbrag.no S 1 else _) = _
 rw [words_yes l1 l2 hx,if_neg (by decide)]
 rfl
theorem ok_order (T:Txt K mg A) (hB:base.BuiltinsAt mg A.p_best_order) (hne:A.p_worst_card ≠ A.p_best_order):FnOk P w K mg base CX0 43 A.f_order A.d_order ["ending","numbers","rows"] (sp_desk A 10):=by
 have G_best_order:=ok_best_order (P:=P) (w:=w) (base:=base) T hB
 have G_cards_told:=ok_cards_told (P:=P) (w:=w) (base:=base) T
 have G_judged_with_row:=ok_judged_with_row (P:=P) (w:=w) (base:=base) T
 have G_Wording_init:=ok_Wording_init (P:=P) (w:=w) (base:=base) T
 refine T.F_order.ok sc_order (fun vs H Q E h=>?_) (fun cdv A' outer s H vs Q E hr h=>?_)
 ·obtain ⟨e,pl,nl,rl,as,S,d,l,m,ns,xs,rfl,_⟩:=h
  rfl
 ·obtain ⟨e,pl,nl,rl,as,S,d,l,m,ns,xs,rfl,D,hnl,hrl,hR,hns,hxs,hin,k⟩:=h
  obtain ⟨y,z,rfl⟩:=len2 hns
  obtain ⟨x,rfl⟩:=len1 hxs
  obtain ⟨sd,wy,rfl,rfl,l1,l2,hx⟩:=in2 rfl rfl hin
  obtain ⟨b,hb,hbi⟩:=row1 hR
  have hbx:=hbi
  rw [rowOk_nn hx] at hbx
  obtain ⟨dx,dd,po,wo,cv,fs,h1,h2,h3,h4,h5,h6,h7,h8,h9,h10,h11,h12⟩:=id D.at_
  have R:=D.rel
  have O:=D.ok
  have es:=step_order S l1 l2 hx
  have hx16:=(rowOk_iff.mp hx).1
  have nd:=nats_nodup (x:=x) fun c hc=>((rowOk_iff.mp hx).2 c hc).1
  refine ⟨_,(pss_cons (ps_set (i:=3) sc_order.nd rfl (by first | exact Or.inl rfl | exact Or.inr rfl) (pe_ix ix_list (pv 2) pe_int (fun _ _=>rfl))) (pss_cons (ps_if (PW.pt (pw_or (pt_cmpR op_gt (pe_callB call_len_seq (by rfl) T.z_len bt_len (pa_cons (pv 3) pa_nil)) (pe_gint rfl T.g_MOST_TO_ORDER) (nomark _)) (pw_or1 (pt_cmpR op_ne (pe_callB call_lenS (by rfl) T.z_len bt_len (pa_cons (pe_callTy (cr_set rfl) (by rfl) T.z_set bt_set (pa_cons (pv 3) pa_nil)) pa_nil)) (pe_callB call_len_seq (by rfl) T.z_len bt_len (pa_cons (pv 3) pa_nil)) (nomark _))))) (pss_one (ps_ret (pe_lst (pa_cons (pe_gint rfl T.g_NOT_TO_BE_ORDERED) pa_nil)))) pss_nil) (pss_cons (ps_set (i:=4) sc_order.nd rfl (by first | exact Or.inl rfl | exact Or.inr rfl) (pe_make T.M_Wording G_Wording_init (hr.mono (by decide)) rfl T.m_Wording T.b_Wording_init .nil pass0 (pa_cons (pe_fld (pv 0) rfl) (pa_cons (pe_ix ix_list (pv 1) pe_int (fun _ _=>rfl)) (pa_cons (pe_ix ix_list (pv 1) pe_int (fun _ _=>rfl)) pa_nil))))) (pss_cons (ps_set (i:=5) sc_order.nd rfl (by first | exact Or.inl rfl | exact Or.inr rfl) (pe_call G_best_order (hr.mono (by decide)) rfl T.m_best_order T.F_best_order.kp T.b_best_order .nil pass0 (pa_cons (pv 4) (pa_cons (pv 3) pa_nil)))) (pss_one (ps_ret (pe_op op_cat (pe_lst (pa_cons pe_int (pa_cons (pe_call G_judged_with_row (hr.mono (by decide)) rfl T.m_judged_with_row T.F_judged_with_row.kp T.b_judged_with_row .nil pass0 (pa_cons (pv 4) (pa_cons (pv 5) pa_nil))) pa_nil))) (pe_call G_cards_told (hr.mono (by decide)) rfl T.m_cards_told T.F_cards_told.kp T.b_cards_told .nil pass0 (pa_cons (pv 5) pa_nil))))))))),?_⟩
  refine ⟨_,rfl,rl,_,_,_,rfl,rfl,SqL.of hrl,hb,?_⟩
  refine ⟨_,rfl,b,_,rfl,.inl (SqL.of hbi),_,_,rfl,rfl,_,rfl,?_⟩
  rw [intV_len]
  refine ifD (fun gt=>?_) fun ngt=>?_
  ·rw [if_pos (Or.inl (by omega))] at es
   rw [es] at k
   refine iteT ⟨(by show 1 ≤ sizeLine; decide),fun r hr'=>?_⟩
   exact desk_fin D (Same.refl H) hr' k rfl
  have x4:x.length ≤ 4:=by omega
  refine ⟨_,rfl,b,x,rfl,SqL.of hbi,by omega,fun p ST n hp hn=>?_⟩
  have st:=same_new hp (.set ST n)
  refine ⟨p,ST,n,rfl,upd_same,?_⟩
  refine ⟨_,rfl,b,_,rfl,.inl (SqL.of (st _ _ hbi)),rfl,_,rfl,?_⟩
  rw [intV_len]
  refine ifIN (fun ne=>?_) fun eq=>?_
  ·have hno:Vbbraf.noneTwice (Vbbrag.nats x) = false:=by
    cases q:Vbbraf.noneTwice (Vbbrag.nats x) with
    | false=>rfl
    | true=>exact absurd (by rw [hn.mpr (nd.mp ((noneTwice_iff _).mp q))]) ne
   rw [if_pos (Or.inr hno)] at es
   rw [es] at k
   refine ⟨(by show 1 ≤ sizeLine; decide),fun r hr'=>?_⟩
   exact desk_fin D st hr' k rfl
  have hnd:(Vbbrag.nats x).Nodup:=nd.mpr (hn.mp (by omega))
  have hyes:=(noneTwice_iff _).mpr hnd
  rw [if_neg (by rw [hyes]; simp; omega)] at es
  refine ⟨_,rfl,e,_,dx,fs,_,rfl,st _ _ h1,T.c_Ending,T.n_Ending_position,h5,_,rfl,nl,_,_,_,rfl,rfl,SqL.of (st _ _ hnl),at0,_,rfl,nl,_,_,_,rfl,rfl,SqL.of (st _ _ hnl),at1,?_⟩
  intro j jdx nj njdx nej
  refine ⟨j,jdx,_,_,_,rfl,upd_same,fun H1 gs kn g1 b0 b1 b2 b3 nkj nk hk k1=>⟨rfl,?_⟩⟩
  obtain ⟨sm1,n01,hw⟩:=made_wo nj njdx g1 b0 b1 b2 b3 nkj nk k1
  have sm:=st.trans sm1
  have n0:=st.free n01
  obtain ⟨ps0,hP0,_⟩:=id (D.bt.same sm)
  refine ⟨_,rfl,_,rfl,j,kn,po,b,sd,wy,d,m,S.play.now,[],_,rfl,hw,hk,RMemo.nil _ _ _ _,by simp,h10.same sm,O,R,by omega,sm _ _ hbx,hnd,by rw [nats_len]; exact x4,D.bt.same sm,fun H4 kvs4 r4 bb hbest hlen b4 bt4 hk4 M4 l4 hr4=>?_⟩
  rw [nats_len] at hbest hlen
  rw [hbest] at es
  rw [es] at k
  have y4:=b4.y hk hP0
  have hw4:=hw.y y4
  refine ⟨_,rfl,_,rfl,j,kn,po,r4,sd,wy,d,m,S.play.now,kvs4,bb,rfl,hw4,hk4,M4,(h10.same sm).y y4,O,R,by omega,hr4,by omega,?_,fun H5 kvs5 b5 hk5 M5 l5=>?_⟩
  ·have:([]:List (List Key × V)).length = 0:=rfl
   omega
  refine ⟨(by show 2 ≤ sizeLine; decide),fun q hq=>?_⟩
  have sq:=same_new hq (.lst [.int 0,.int ((J ⟨sd,wy,bb⟩ d m:Nat):Int)])
  have hr5:=sq _ _ (b5 _ _ hr4 (ne_of hr4 hk4 (fun z=>nomatch z)))
  refine ⟨_,rfl,r4,_,rfl,hr5,by rw [ints_len]; omega,fun r7 H7 s7 hr7=>?_⟩
  refine ⟨q,r7,_,_,rfl,rfl,s7 _ _ upd_same,hr7,?_,fun r8 hr8=>?_⟩
  ·show 2 + ((nints _).length + 1) ≤ sizeLine
   rw [ints_len]
   exact Nat.le_of_lt (small1000 (by omega))
  ·have s8:=(sq.trans s7).trans (same_new hr8 (.lst ([.int 0,.int ((J ⟨sd,wy,bb⟩ d m:Nat):Int)] ++ (.int (((nints bb).length:Nat):Int) :: nints bb))))
   have wt4:WorstT A H4:=(D.wt.same sm).to (fun _ z=>b4 _ _ z (ne_of z hk (fun y=>nomatch y)) hne) fun _ _ _ z=>y4 _ _ z (fun _ y=>nomatch y) (fun _ y=>nomatch y)
   have hE4:=(D.at_.same sm).y y4
   have y5:SameY H4 H5:=fun b o e n1 n2=>b5 b o e fun z=>by rw [z,hk4] at e; cases e; exact n1 _ rfl
   refine k _ r8 pl d l m (fun b o q0 n1 n2 n3 n4=>s8 _ _ (b5 _ _ (b4 _ _ (sm _ _ q0) (ne_of_none q0 n0) n4) (ne_of_none q0 n0))) (.inl rfl) ⟨(hE4.y y5).same s8,O,D.reach,D.cl,(wt4.but hk4 b5).same s8,(bt4.but hk4 b5).same s8⟩ ?_
   rw [upd_same,ints_len]
   show _ = some (HO.lst (intV (0 :: (J ⟨sd,wy,bb⟩ d m :: bb.length :: bb).map fun (n:Nat)=>(n:Int))))
   rw [intV_yes]
   rfl
theorem step_claim (S:Vbbrag.State) {sd n wy:Nat} {x:List Int} (l1:sd ≤ 1) (l2:n ≤ 4) (l3:wy ≤ 2) (hx:rowOk 16 x = true):Vbbrag.stepRows S ((((5:Nat):Int) :: [(sd:Int),(n:Int),(wy:Int)]) :: [x]) =
  if S.claim.isSome = true then Vbbrag.no S 8 else if Vbbraf.held S.play.now = 0 then Vbbrag.no S 3 else if Vbbraf.toCome S.play.now < n then Vbbrag.no S 2
  else Vbbrag.yes ⟨S.play,some ⟨sd,n,Vbbrag.judged ⟨sd,wy,Vbbrag.nats x⟩ S.play.now,Vbbrag.judged ⟨sd,0,[]⟩ S.play.now,max (min n (Vbbrag.judged ⟨sd,wy,Vbbrag.nats x⟩ S.play.now)) (Vbbrag.judged ⟨sd,0,[]⟩ S.play.now)⟩⟩ [Vbbrag.judged ⟨sd,wy,Vbbrag.nats x⟩ S.play.now,Vbbrag.judged ⟨sd,0,[]⟩ S.play.now,max (min n (Vbbrag.judged ⟨sd,wy,Vbbrag.nats x⟩ S.play.now)) (Vbbrag.judged ⟨sd,0,[]⟩ S.play.now)]:=by
 show (if (Vbbrag.wordsIn (sd:Int) (wy:Int) x && Vbbrag.within (n:Int) 0 4) = false then Vbbrag.no S 1 else _) = _
 rw [words_yes l1 l3 hx,show Vbbrag.within (n:Int) 0 4 = true from (within_nat (lo:=0) (hi:=4)).trans (decide_eq_true ⟨by omega,l2⟩),if_neg (by decide)]
 rfl
theorem ok_claim (T:Txt K mg A):FnOk P w K mg base CX0 40 A.f_claim A.d_claim ["ending","numbers","rows"] (sp_desk A 5):=by
 have G_judged:=ok_jj (P:=P) (w:=w) (base:=base) T 16
 have G_Judging_init:=ok_Judging_init (P:=P) (w:=w) (base:=base) T
 have G_Statement_init:=ok_Statement_init (P:=P) (w:=w) (base:=base) T
 have G_Claim_init:=ok_Claim_init (P:=P) (w:=w) (base:=base) T
 have G_tricks_of_rest:=ok_tricks_of_rest (P:=P) (w:=w) (base:=base) T
 have G_sure_for:=ok_sure_for (P:=P) (w:=w) (base:=base) T
 refine T.F_claim.ok sc_claim (fun vs H Q E h=>?_) (fun cdv A' outer s H vs Q E hr h=>?_)
 ·obtain ⟨e,pl,nl,rl,as,S,d,l,m,ns,xs,rfl,_⟩:=h
  rfl
 ·obtain ⟨e,pl,nl,rl,as,S,d,l,m,ns,xs,rfl,D,hnl,hrl,hR,hns,hxs,hin,k⟩:=h
  obtain ⟨y,z,v,rfl⟩:=len3 hns
  obtain ⟨x,rfl⟩:=len1 hxs
  obtain ⟨sd,n,wy,rfl,rfl,rfl,l1,l2,l3,hx⟩:=in3 rfl rfl hin
  obtain ⟨b,hb,hbx⟩:=row1 hR
  rw [rowOk_nn hx] at hbx
  obtain ⟨dx,dd,po,wo,cv,fs,h1,h2,h3,h4,h5,h6,h7,h8,h9,h10,h11,h12⟩:=id D.at_
  obtain ⟨dd',pdx,pfs,hd,hp,q1,q2,q3,q4,q5,q6,q7⟩:=id h10
  have R:=D.rel
  have O:=D.ok
  have es:=step_claim S l1 l2 l3 hx
  rw [R.held,R.come,R.judged O,R.judged O] at es
  refine ⟨_,(pss_cons (ps_set (i:=3) sc_claim.nd rfl (by first | exact Or.inl rfl | exact Or.inr rfl) (pe_ix ix_list (pv 1) pe_int (fun _ _=>rfl))) (pss_cons (ps_set (i:=4) sc_claim.nd rfl (by first | exact Or.inl rfl | exact Or.inr rfl) (pe_ix ix_list (pv 1) pe_int (fun _ _=>rfl))) (pss_cons (ps_set (i:=5) sc_claim.nd rfl (by first | exact Or.inl rfl | exact Or.inr rfl) (pe_fld (pv 0) rfl)) (pss_cons (ps_if (pt_cmp (pc_notN (pe_fld (pv 0) rfl))) (pss_one (ps_ret (pe_lst (pa_cons (pe_gint rfl T.g_CLAIM_THERE) pa_nil)))) pss_nil) (pss_cons (ps_if (pt_cmpR op_eq (pe_fld (pv 5) rfl) pe_int (nomark _)) (pss_one (ps_ret (pe_lst (pa_cons (pe_gint rfl T.g_NO_CARDS) pa_nil)))) pss_nil) (pss_cons (ps_if (pt_cmpR op_gt (pv 4) (pe_call G_tricks_of_rest (hr.mono (by decide)) rfl T.m_tricks_of_rest T.F_tricks_of_rest.kp T.b_tricks_of_rest .nil pass0 (pa_cons (pv 5) pa_nil)) (nomark _)) (pss_one (ps_ret (pe_lst (pa_cons (pe_gint rfl T.g_TOO_MANY_CLAIMED) pa_nil)))) pss_nil) (pss_cons (ps_set (i:=6) sc_claim.nd rfl (by first | exact Or.inl rfl | exact Or.inr rfl) (pe_call G_judged (hr.mono (by decide)) rfl T.m_judged T.F_judged.kp T.b_judged .nil pass0 (pa_cons (pe_make T.M_Judging G_Judging_init (hr.mono (by decide)) rfl T.m_Judging T.b_Judging_init .nil pass0 (pa_cons (pe_make T.M_Statement G_Statement_init (hr.mono (by decide)) rfl T.m_Statement T.b_Statement_init .nil pass0 (pa_cons (pv 3) (pa_cons (pe_ix ix_list (pv 1) pe_int (fun _ _=>rfl)) (pa_cons (pe_ix ix_list (pv 2) pe_int (fun _ _=>rfl)) pa_nil)))) pa_nil)) (pa_cons (pv 5) pa_nil)))) (pss_cons (ps_set (i:=7) sc_claim.nd rfl (by first | exact Or.inl rfl | exact Or.inr rfl) (pe_call G_sure_for (hr.mono (by decide)) rfl T.m_sure_for T.F_sure_for.kp T.b_sure_for .nil pass0 (pa_cons (pv 5) (pa_cons (pv 3) pa_nil)))) (pss_cons (ps_set (i:=8) sc_claim.nd rfl (by first | exact Or.inl rfl | exact Or.inr rfl) (pe_callB (call_max2 rfl) (by rfl) T.z_max bt_max (pa_cons (pe_callB (call_min2 rfl) (by rfl) T.z_min bt_min (pa_cons (pv 4) (pa_cons (pv 6) pa_nil))) (pa_cons (pv 7) pa_nil)))) (pss_cons (ps_fld (pv 0) (pe_make T.M_Claim G_Claim_init (hr.mono (by decide)) rfl T.m_Claim T.b_Claim_init .nil pass0 (pa_cons (pv 3) (pa_cons (pv 4) (pa_cons (pv 6) (pa_cons (pv 7) (pa_cons (pv 8) pa_nil)))))) rfl) (pss_one (ps_ret (pe_lst (pa_cons pe_int (pa_cons (pv 6) (pa_cons (pv 7) (pa_cons (pv 8) pa_nil))))))))))))))))),?_⟩
  refine ⟨_,rfl,nl,_,_,_,rfl,rfl,SqL.of hnl,at0,?_⟩
  refine ⟨_,rfl,nl,_,_,_,rfl,rfl,SqL.of hnl,at1,?_⟩
  refine ⟨_,rfl,e,_,dx,fs,_,rfl,h1,T.c_Ending,T.n_Ending_position,h5,?_⟩
  refine ⟨_,rfl,e,_,dx,fs,_,rfl,h1,T.c_Ending,T.n_Ending_claim,h7,_,rfl,?_⟩
  cases hcl:S.claim with
  | some cc=>
   rw [hcl,if_pos (show (some cc).isSome = true from rfl)] at es
   rw [es] at k
   rw [hcl] at h12
   obtain ⟨ca,cx,gs,rfl,_⟩:=h12
   refine ifN (fun _=>?_) fun z=>nomatch z
   refine ⟨(by show 1 ≤ sizeLine; decide),fun r hr'=>?_⟩
   exact desk_fin D (Same.refl H) hr' k rfl
  | none=>
   rw [hcl,if_neg (by decide)] at es
   rw [hcl] at h12
   have hcv:cv = .non:=h12
   subst hcv
   refine ifN (fun z=>absurd rfl z) fun _=>?_
   refine ⟨_,rfl,po,_,pdx,pfs,_,rfl,hp,T.c_Position,T.n_Position_left,q2,rfl,_,rfl,?_⟩
   refine ifI (fun z=>?_) fun z=>?_
   ·have h0:=(left_zero O R).mp (by omega)
    rw [if_pos h0] at es
    rw [es] at k
    refine ⟨(by show 1 ≤ sizeLine; decide),fun r hr'=>?_⟩
    exact desk_fin D (Same.refl H) hr' k rfl
   have h0:¬ mheld d m = 0:=fun q=>z (by have:=(left_zero O R).mpr q; omega)
   rw [if_neg h0] at es
   refine ⟨_,rfl,_,rfl,po,d,m,S.play.now,rfl,h10,O,R,fun H1 s1=>?_⟩
   refine ⟨_,_,rfl,rfl,_,rfl,?_⟩
   refine ifD (fun lt=>?_) fun nlt=>?_
   ·rw [if_pos (by omega)] at es
    rw [es] at k
    refine ⟨(by show 1 ≤ sizeLine; decide),fun r hr'=>?_⟩
    exact desk_fin D s1 hr' k rfl
   rw [if_neg (by omega)] at es
   rw [es] at k
   refine ⟨_,rfl,_,rfl,nl,_,_,_,rfl,rfl,SqL.of (s1 _ _ hnl),at2,_,rfl,rl,_,_,_,rfl,rfl,SqL.of (s1 _ _ hrl),hb,?_⟩
   intro sx sdx nsx nsdx nes
   refine ⟨sx,sdx,_,_,_,rfl,upd_same,fun H2 fs1 g1 a1 a2 a3 k1=>⟨rfl,?_⟩⟩
   intro j jdx nj njdx nej
   refine ⟨j,jdx,_,rfl,upd_same,fun H3 gs kn g2 b1 b2 nkj nk hk k2=>⟨rfl,?_⟩⟩
   obtain ⟨sm1,n01,hj⟩:=made_ju (A:=A) (wd:=⟨sd,wy,Vbbrag.nats x⟩) nsx nsdx (s1 _ _ hbx) g1 a1 a2 a3 k1 nj njdx g2 b1 b2 nk hk k2
   have sm:=s1.trans sm1
   have n0:=s1.free n01
   refine ⟨_,rfl,j,kn,po,⟨sd,wy,Vbbrag.nats x⟩,d,m,S.play.now,[],rfl,hj,hk,Memo.nil _ _,h10.same sm,O,R,R.held16 O,capL O R,fun H4 kvs4 b4 _ _ _=>?_⟩
   have s4:=But.new sm n0 b4
   refine ⟨_,rfl,_,rfl,po,d,m,S.play.now,sd,rfl,h10.same s4,O,R,fun H5 s5'=>?_⟩
   have s5:=s4.trans s5'
   refine ⟨_,rfl,_,rfl,_,_,rfl,_,rfl,_,_,rfl,?_⟩
   have em:(if ((J ⟨sd,0,[]⟩ d m:Nat):Int) > (if ((J ⟨sd,wy,Vbbrag.nats x⟩ d m:Nat):Int) < (n:Int) then ((J ⟨sd,wy,Vbbrag.nats x⟩ d m:Nat):Int) else (n:Int)) then ((J ⟨sd,0,[]⟩ d m:Nat):Int) else (if ((J ⟨sd,wy,Vbbrag.nats x⟩ d m:Nat):Int) < (n:Int) then ((J ⟨sd,wy,Vbbrag.nats x⟩ d m:Nat):Int) else (n:Int))) = ((max (min n (J ⟨sd,wy,Vbbrag.nats x⟩ d m)) (J ⟨sd,0,[]⟩ d m):Nat):Int):=by
    split <;> split <;> omega
   rw [em]
   have hJ:=R.J_le O (w:=⟨sd,wy,Vbbrag.nats x⟩) (by show sd < 2; omega)
   have hU:=R.J_le O (w:=⟨sd,0,[]⟩) (by show sd < 2; omega)
   refine ⟨_,rfl,_,rfl,_,rfl,_,rfl,_,rfl,?_⟩
   intro cx cdx ncx ncdx nec
   refine ⟨cx,cdx,_,_,_,_,_,rfl,upd_same,fun H6 fs6 c1 c2 c3 c4 c5 c6 k6=>⟨rfl,?_⟩⟩
   have s6:=s5.trans (made_same ncx ncdx k6)
   have ek:EK 0 fs:=.inr h2
   refine ⟨_,rfl,e,_,dx,_,rfl,s6 _ _ h1,T.c_Ending,T.n_Ending_claim,ek.len,?_⟩
   have hC:ClAt A H6 (.ref cx) (some ⟨sd,n,J ⟨sd,wy,Vbbrag.nats x⟩ d m,J ⟨sd,0,[]⟩ d m,max (min n (J ⟨sd,wy,Vbbrag.nats x⟩ d m)) (J ⟨sd,0,[]⟩ d m)⟩):=⟨cx,cdx,fs6,rfl,c1,c2,c3,c4,c5,c6⟩
   have hE7:=set_claim (D.at_.same s6) (s6 _ _ h1) hC
   have b7:But2 e pl H (upd H6 e (.ins A.c_Ending dx (putF "claim" (.ref cx) fs))):=fun b o q n _=>by rw [upd_ne n]; exact s6 _ _ q
   refine ⟨_,rfl,_,rfl,_,rfl,(by show 4 ≤ sizeLine; decide),fun r hr'=>?_⟩
   have s8:=same_new hr' (.lst [.int 0,.int ((J ⟨sd,wy,Vbbrag.nats x⟩ d m:Nat):Int),.int ((J ⟨sd,0,[]⟩ d m:Nat):Int),.int ((max (min n (J ⟨sd,wy,Vbbrag.nats x⟩ d m)) (J ⟨sd,0,[]⟩ d m):Nat):Int)])
   refine k _ r pl d l m (b7.then s8).keep (.inl rfl) ⟨hE7.same s8,D.ok,D.reach,(fun c z=>?_),lam_but2 D.wt h1 h9 (b7.then s8),lam_but2 D.bt h1 h9 (b7.then s8)⟩ upd_same
   have z':some _ = some c:=z
   cases z'
   refine ⟨by show sd < 2; omega,?_⟩
   show max (min n _) _ ≤ VS sd d m
   have e1:J ⟨sd,wy,Vbbrag.nats x⟩ d m ≤ VS sd d m:=hJ
   have e2:J ⟨sd,0,[]⟩ d m ≤ VS sd d m:=hU
   omega
section
variable {X:Cx}
theorem call_tuple_ofK (e:X.K = K):CallR X (.type "tuple") (fun xs H Q=>∃ p ys,xs = [.ref p] ∧ ((SqL K H p ys ∧ ∀ l,H l = none → Q (.ref l) (upd H l (.tup ys))) ∨ (SqT K H p ys ∧ Q (.ref p) H))):=by
 subst e
 exact call_tuple_of
end
def claimTold:Option Vbbrag.Claim → List Nat
 | none=>[0]
 | some c=>[1,c.side,c.k,c.judged,c.sure,c.award]
def sp_claim_told (A:Adr):Sp:=fun vs H Q _=>∃ (cv:V) (cl:Option Vbbrag.Claim),vs = [cv] ∧ ClAt A H cv cl ∧ ∀ (r:Addr) (H':Hp),Same H H' → H' r = some (.lst (nints (claimTold cl))) → Q (.ref r) H'
theorem ok_claim_told (T:Txt K mg A):FnOk P w K mg base CX0 1 A.f_claim_told A.d_claim_told ["made"] (sp_claim_told A):=by
 refine T.F_claim_told.ok sc_claim_told (fun vs H Q E h=>?_) (fun cdv A' outer s H vs Q E hr h=>?_)
 ·obtain ⟨cv,cl,rfl,_⟩:=h
  rfl
 ·obtain ⟨cv,cl,rfl,hC,k⟩:=h
  refine ⟨_,(pss_cons (ps_if (pt_cmp (pc_isN (pv 0))) (pss_one (ps_ret (pe_lst (pa_cons pe_int pa_nil)))) pss_nil) (pss_one (ps_ret (pe_lst (pa_cons pe_int (pa_cons (pe_fld (pv 0) rfl) (pa_cons (pe_fld (pv 0) rfl) (pa_cons (pe_fld (pv 0) rfl) (pa_cons (pe_fld (pv 0) rfl) (pa_cons (pe_fld (pv 0) rfl) pa_nil)))))))))),?_⟩
  refine ⟨_,rfl,_,rfl,?_⟩
  cases cl with
  | none=>
   have hcv:cv = .non:=hC
   subst hcv
   refine ifD (fun _=>?_) fun z=>absurd rfl z
   refine ⟨(by show 1 ≤ sizeLine; decide),fun r hr'=>?_⟩
   exact k r _ (same_new hr' _) upd_same
  | some c=>
   obtain ⟨a,dx,fs,rfl,h1,c1,c2,c3,c4,c5⟩:=hC
   refine ifD (fun z=>nomatch z) fun _=>?_
   refine ⟨_,rfl,a,_,dx,fs,_,rfl,h1,T.c_Claim,T.n_Claim_side,c1,_,rfl,a,_,dx,fs,_,rfl,h1,T.c_Claim,T.n_Claim_tricks,c2,_,rfl,a,_,dx,fs,_,rfl,h1,T.c_Claim,T.n_Claim_judged,c3,_,rfl,a,_,dx,fs,_,rfl,h1,T.c_Claim,T.n_Claim_sure,c4,_,rfl,a,_,dx,fs,_,rfl,h1,T.c_Claim,T.n_Claim_awarded,c5,(by show 6 ≤ sizeLine; decide),fun r hr'=>?_⟩
   exact k r _ (same_new hr' _) upd_same
theorem cut_from (l:List Nat) {n:Nat} (h:n ≤ l.length):cutV (nints l) (some ((l.length:Int) - (n:Int))) none = nints (l.drop (l.length - n)):=by
 unfold cutV nints
 rw [List.length_map]
 have e:HT.sIx l.length 0 (some ((l.length:Int) - (n:Int))) = l.length - n:=by
  show (if (l.length:Int) - (n:Int) < 0 then _ else min ((l.length:Int) - (n:Int)).toNat l.length) = _
  rw [if_neg (by omega)]
  omega
 rw [e]
 show ((l.map _).drop _).take (l.length - (l.length - n)) = _
 rw [← List.map_drop,List.take_of_length_le (by rw [List.length_map,List.length_drop]; omega)]
def tN (d:Deal) (m:MP) (p:Vbbraf.Pos) (i:Nat):List Nat:=0 :: d.trump :: p.leader :: ((List.range i).flatMap fun s=>Vbbrag.counted (hand d m s))
theorem tN_next (d:Deal) (m:MP) (p:Vbbraf.Pos) (i:Nat):tN d m p (i + 1) = tN d m p i ++ ((hand d m i).length :: hand d m i):=by
 unfold tN
 rw [List.range_succ,List.flatMap_append]
 simp [Vbbrag.counted]
theorem nints_app (l k:List Nat):nints (l ++ k) = nints l ++ nints k:=List.map_append
theorem told_cons (l:List Nat):nints (l.length :: l) = .int (((nints l).length:Nat):Int) :: nints l:=by
 rw [ints_len]
 rfl
theorem ok_told (T:Txt K mg A):FnOk P w K mg base CX0 2 A.f_told A.d_told ["ending","numbers","rows"] (sp_desk A 14):=by
 have G_claim_told:=ok_claim_told (P:=P) (w:=w) (base:=base) T
 have G_cards_told:=ok_cards_told (P:=P) (w:=w) (base:=base) T
 have G_hand_of:=ok_hand_of (P:=P) (w:=w) (base:=base) T
 have G_leader_of:=ok_leader_of (P:=P) (w:=w) (base:=base) T
 refine T.F_told.ok sc_told (fun vs H Q E h=>?_) (fun cdv A' outer s H vs Q E hr h=>?_)
 ·obtain ⟨e,pl,nl,rl,as,S,d,l,m,ns,xs,rfl,_⟩:=h
  rfl
 ·obtain ⟨e,pl,nl,rl,as,S,d,l,m,ns,xs,rfl,D,hnl,hrl,hR,hns,hxs,hin,k⟩:=h
  obtain rfl:=len0 hns
  obtain rfl:=len0 hxs
  obtain ⟨dx,dd,po,wo,cv,fs,h1,h2,h3,h4,h5,h6,h7,h8,h9,h10,h11,h12⟩:=id D.at_
  obtain ⟨dd',pdx,pfs,hd,hp,q1,q2,q3,q4,q5,q6,q7⟩:=id h10
  obtain ⟨ddx,hx,dfs,hs,d1,d2,d3,d4,d5,d6⟩:=id hd
  have R:=D.rel
  have O:=D.ok
  have hH:=D.reach.held O
  have l16:=D.reach.len16 O
  obtain ⟨htr,hcnt⟩:=D.reach.trick O
  have es:Vbbrag.stepRows S ((((14:Nat):Int) :: []) :: []) = (S,(tN d m S.play.now 4 ++ (((l.drop (l.length - m.count)).length :: l.drop (l.length - m.count)) ++ ((l.length :: l) ++ claimTold S.claim))).map fun (n:Nat)=>(n:Int)):=by
   show Vbbrag.yes S (S.play.now.trump :: S.play.now.leader :: ((S.play.now.hands.flatMap Vbbrag.counted) ++ (Vbbrag.counted S.play.now.trick ++ (Vbbrag.counted S.play.played ++ (match S.claim with
    | none=>[0]
    | some c=>[1,c.side,c.k,c.judged,c.sure,c.award]))))) = _
   rw [R.trump,R.hands4 O,htr,hH.played]
   cases S.claim <;> rfl
  rw [es] at k
  refine ⟨_,(pss_cons (ps_set (i:=3) sc_told.nd rfl (by first | exact Or.inl rfl | exact Or.inr rfl) (pe_fld (pv 0) rfl)) (pss_cons (ps_set (i:=4) sc_told.nd rfl (by first | exact Or.inl rfl | exact Or.inr rfl) (pe_fld (pv 0) rfl)) (pss_cons (ps_set (i:=5) sc_told.nd rfl (by first | exact Or.inl rfl | exact Or.inr rfl) (pe_lst (pa_cons pe_int (pa_cons (pe_fld (pe_fld (pv 3) rfl) rfl) (pa_cons (pe_call G_leader_of (hr.mono (by decide)) rfl T.m_leader_of T.F_leader_of.kp T.b_leader_of .nil pass0 (pa_cons (pv 3) pa_nil)) pa_nil))))) (pss_cons (ps_for PassesOwn.never rfl (pi_range1 rfl T.z_range (pa_cons (pe_gint rfl T.g_SEATS) pa_nil)) (pg_name (i:=6) sc_told.nd rfl (by first | exact Or.inl rfl | exact Or.inr rfl)) (pss_one (ps_expr (pe_bm PySem.F.plainAttrs_list PySem.F.slot_list_extend PySem.F.type_list_extend mt_extend (pv 5) (pa_cons (pe_call G_cards_told (hr.mono (by decide)) rfl T.m_cards_told T.F_cards_told.kp T.b_cards_told .nil pass0 (pa_cons (pe_call G_hand_of (hr.mono (by decide)) rfl T.m_hand_of T.F_hand_of.kp T.b_hand_of .nil pass0 (pa_cons (pv 3) (pa_cons (pv 6) pa_nil))) pa_nil)) pa_nil))))) (pss_cons (ps_expr (pe_bm PySem.F.plainAttrs_list PySem.F.slot_list_extend PySem.F.type_list_extend mt_extend (pv 5) (pa_cons (pe_call G_cards_told (hr.mono (by decide)) rfl T.m_cards_told T.F_cards_told.kp T.b_cards_told .nil pass0 (pa_cons (pe_slice sl_list (pv 4) (po_some (pe_op op_sub (pe_callB call_len_seq (by rfl) T.z_len bt_len (pa_cons (pv 4) pa_nil)) (pe_fld (pv 3) rfl))) po_none) pa_nil)) pa_nil))) (pss_cons (ps_expr (pe_bm PySem.F.plainAttrs_list PySem.F.slot_list_extend PySem.F.type_list_extend mt_extend (pv 5) (pa_cons (pe_call G_cards_told (hr.mono (by decide)) rfl T.m_cards_told T.F_cards_told.kp T.b_cards_told .nil pass0 (pa_cons (pv 4) pa_nil)) pa_nil))) (pss_one (ps_ret (pe_op op_cat (pv 5) (pe_call G_claim_told (hr.mono (by decide)) rfl T.m_claim_told T.F_claim_told.kp T.b_claim_told .nil pass0 (pa_cons (pe_fld (pv 0) rfl) pa_nil))))))))))),?_⟩
  refine ⟨_,rfl,e,_,dx,fs,_,rfl,h1,T.c_Ending,T.n_Ending_position,h5,?_⟩
  refine ⟨_,rfl,e,_,dx,fs,_,rfl,h1,T.c_Ending,T.n_Ending_played,h4,?_⟩
  refine ⟨_,rfl,po,_,pdx,pfs,_,rfl,hp,T.c_Position,T.n_Position_deal,q1,dd',_,ddx,dfs,_,rfl,d1,T.c_Deal,T.n_Deal_trump,d3,_,rfl,po,d,m,S.play.now,rfl,h10,R,(by show 3 ≤ sizeLine; decide),fun F hF=>?_⟩
  have sF:=same_new hF (.lst [.int 0,.int (d.trump:Int),.int (S.play.now.leader:Int)])
  refine ⟨_,rfl,(by decide),(by decide),?_⟩
  refine for_range (lo:=0) (n:=4) (fun i σ H'=>(∃ v,σ = [some (.ref e),some (.ref nl),some (.ref rl),some (.ref po),some (.ref pl),some (.ref F),v]) ∧ Same H H' ∧ H' F = some (.lst (nints (tN d m S.play.now i))) ∧ (tN d m S.play.now i).length ≤ 3 + 5 * i) ⟨⟨none,rfl⟩,sF,upd_same,(by show 3 ≤ 3 + 5 * 0; decide)⟩ ?_ ?_
  ·rintro i σ H' hi ⟨⟨v,rfl⟩,sm,hf,hl⟩
   refine ⟨_,rfl,.inl ⟨rfl,_,SqL.of hf⟩,_,rfl,_,rfl,po,d,m,i,(by show [V.ref po,V.int (0 + (i:Int))] = _; rw [Int.zero_add]),h10.same sm,O.len,hi,deal4 O,fun r1 H1 s1 hr1=>?_⟩
   have hl4:=hand_len (d:=d) m O.len hi (deal4 O)
   refine ⟨r1,_,rfl,hr1,by rw [ints_len]; omega,fun r2 H2 s2 hr2=>?_⟩
   have hf2:=s2 _ _ (s1 _ _ hf)
   refine ⟨F,r2,_,_,rfl,rfl,hf2,hr2,?_,⟨_,rfl⟩,fun b' o z=>?_,?_,?_⟩
   ·show (nints _).length + ((nints _).length + 1) ≤ sizeLine
    rw [ints_len,ints_len]
    have:=small1000 (Nat.le_refl 1000)
    omega
   ·rw [upd_ne (ne_of_none z hF)]
    exact s2 _ _ (s1 _ _ (sm _ _ z))
   ·rw [upd_same,tN_next,nints_app,told_cons]
   ·rw [tN_next,List.length_append,List.length_cons]
    omega
  ·rintro σ H1 ⟨⟨v,rfl⟩,s1,hf,hl⟩
   have hp1:=s1 _ _ hp
   have h91:=s1 _ _ h9
   refine ⟨_,rfl,.inl ⟨rfl,_,SqL.of hf⟩,_,rfl,_,rfl,pl,_,rfl,.inl (SqL.of h91),_,rfl,po,_,pdx,pfs,_,rfl,hp1,T.c_Position,T.n_Position_count,q4,_,_,rfl,rfl,_,rfl,pl,_,rfl,SqL.of h91,fun c1 hc1=>?_⟩
   rw [ints_len,cut_from l hcnt]
   have t1:=same_new hc1 (.lst (nints (l.drop (l.length - m.count))))
   have dl:(l.drop (l.length - m.count)).length ≤ 16:=by rw [List.length_drop]; omega
   refine ⟨c1,_,rfl,upd_same,by rw [ints_len]; omega,fun r2 H2 s2 hr2=>?_⟩
   have s12:=t1.trans s2
   have hl23:(tN d m S.play.now 4).length ≤ 23:=hl
   refine ⟨F,r2,_,_,rfl,rfl,s12 _ _ hf,hr2,?_,?_⟩
   ·show (nints _).length + ((nints _).length + 1) ≤ sizeLine
    rw [ints_len,ints_len]
    have:=small1000 (Nat.le_refl 1000)
    omega
   have hF1:∀ {b:Addr} {o:HO},H b = some o → b ≠ F:=fun z=>ne_of_none z hF
   generalize hH3:upd H2 F _ = H3
   have f3:H3 F = some (.lst (nints (tN d m S.play.now 4 ++ ((l.drop (l.length - m.count)).length :: l.drop (l.length - m.count))))):=by
    rw [← hH3,upd_same,nints_app,told_cons]
   have s3:Same H H3:=fun b o z=>by
    rw [← hH3,upd_ne (hF1 z)]
    exact s12 _ _ (s1 _ _ z)
   refine ⟨_,rfl,.inl ⟨rfl,_,SqL.of f3⟩,_,rfl,pl,_,rfl,s3 _ _ h9,by rw [ints_len]; omega,fun r4 H4 s4 hr4=>?_⟩
   refine ⟨F,r4,_,_,rfl,rfl,s4 _ _ f3,hr4,?_,?_⟩
   ·show (nints _).length + ((nints _).length + 1) ≤ sizeLine
    rw [ints_len,ints_len,List.length_append,List.length_cons]
    have:=small1000 (Nat.le_refl 1000)
    omega
   generalize hH5:upd H4 F _ = H5
   have f5:H5 F = some (.lst (nints (tN d m S.play.now 4 ++ ((l.drop (l.length - m.count)).length :: l.drop (l.length - m.count)) ++ (l.length :: l)))):=by
    rw [← hH5,upd_same,nints_app _ (l.length :: l),told_cons]
   have s5:Same H H5:=fun b o z=>by
    rw [← hH5,upd_ne (hF1 z)]
    exact s4 _ _ (s3 _ _ z)
   have hC5:ClAt A H5 cv S.claim:=by
    cases hcl:S.claim with
    | none=>rw [hcl] at h12; exact h12
    | some c=>
     rw [hcl] at h12
     obtain ⟨a,cx,gs,z1,z2,r⟩:=h12
     exact ⟨a,cx,gs,z1,s5 _ _ z2,r⟩
   refine ⟨_,rfl,_,rfl,e,_,dx,fs,_,rfl,s5 _ _ h1,T.c_Ending,T.n_Ending_claim,h7,cv,S.claim,rfl,hC5,fun r6 H6 s6 hr6=>?_⟩
   have cl6:(claimTold S.claim).length ≤ 6:=by cases S.claim <;> first | exact (by show 1 ≤ 6; decide) | exact (by show 6 ≤ 6; decide)
   refine ⟨F,r6,_,_,rfl,rfl,s6 _ _ f5,hr6,?_,fun r7 hr7=>?_⟩
   ·rw [ints_len,ints_len,List.length_append,List.length_append,List.length_cons,List.length_cons]
    have:=small1000 (Nat.le_refl 1000)
    omega
   ·refine desk_fin D (s5.trans s6) hr7 k ?_
    rw [← nints_app]
    show _ = intV (List.map _ _)
    rw [List.append_assoc,List.append_assoc]
    unfold intV nints
    rw [List.map_map]
    rfl
def sortR (x:List Int):List Nat:=Vbbraf.sorted (Vbbrag.nats x)
theorem sortR_len (x:List Int):(sortR x).length = x.length:=by
 unfold sortR
 rw [(sorted_perm _).length_eq,nats_len]
theorem casts {x:List Int} (h:∀ c ∈ x,0 ≤ c):x = (Vbbrag.nats x).map fun (c:Nat)=>(c:Int):=by
 unfold Vbbrag.nats
 rw [List.map_map]
 refine (List.map_id' x).symm.trans (List.map_congr_left fun c hc=>?_)
 show c = ((c.toNat:Nat):Int)
 rw [Int.toNat_of_nonneg (h c hc)]
theorem hands_eq {a b c e:List Int} (h:∀ x ∈ [a,b,c,e],∀ y ∈ x,0 ≤ y):
  (((([a,b,c,e]:List (List Int)).map sortR).all fun h=>h.length == a.length) && Vbbraf.noneTwice ((([a,b,c,e]:List (List Int)).map sortR).flatMap fun h=>h)) = handsR [a,b,c,e]:=by
 unfold handsR
 have e1:((([a,b,c,e]:List (List Int)).map sortR).all fun h=>h.length == a.length) = (([a,b,c,e]:List (List Int)).all fun x=>x.length == (([a,b,c,e]:List (List Int)).getD 0 []).length):=by
  rw [List.all_map]
  refine congrArg (fun f=>List.all [a,b,c,e] f) (funext fun x=>?_)
  show ((sortR x).length == a.length) = _
  rw [sortR_len]
  rfl
 rw [e1]
 congr 1
 rw [Bool.eq_iff_iff,noneTwice_iff,decide_eq_true_iff]
 have p:((([a,b,c,e]:List (List Int)).map sortR).flatMap fun h=>h).Perm (Vbbrag.nats ([a,b,c,e]:List (List Int)).flatten):=by
  have q:Vbbrag.nats ([a,b,c,e]:List (List Int)).flatten = Vbbrag.nats a ++ (Vbbrag.nats b ++ (Vbbrag.nats c ++ (Vbbrag.nats e ++ []))):=by
   unfold Vbbrag.nats
   simp
  rw [q]
  show (sortR a ++ (sortR b ++ (sortR c ++ (sortR e ++ [])))).Perm _
  exact (sorted_perm _).append ((sorted_perm _).append ((sorted_perm _).append ((sorted_perm _).append (List.Perm.refl _))))
 rw [p.nodup_iff]
 refine nats_nodup fun y hy=>?_
 obtain ⟨x,hx,hxy⟩:=List.mem_flatten.mp hy
 exact h x hx y hxy
theorem step_deal (S:Vbbrag.State) {t ld:Nat} {a b c e:List Int} (ht:t ≤ 4) (hl:ld ≤ 3) (h:∀ x ∈ [a,b,c,e],rowOk 4 x = true):Vbbrag.stepRows S ((((0:Nat):Int) :: [(t:Int),(ld:Int)]) :: [a,b,c,e]) =
  if handsR [a,b,c,e] = false then Vbbrag.no S 2 else Vbbrag.yes ⟨Vbbraf.dealt ⟨([a,b,c,e]:List (List Int)).map sortR,t,ld,[]⟩,none⟩ []:=by
 have hw:(Vbbraf.within (t:Int) 0 4 && (Vbbraf.within (ld:Int) 0 3 && ([a,b,c,e]:List (List Int)).all fun r=>decide (r.length ≤ 4) && r.all Vbbraf.isCard)) = true:=by
  rw [show Vbbraf.within (t:Int) 0 4 = true from (within_nat (lo:=0) (hi:=4)).trans (decide_eq_true ⟨by omega,ht⟩),show Vbbraf.within (ld:Int) 0 3 = true from (within_nat (lo:=0) (hi:=3)).trans (decide_eq_true ⟨by omega,hl⟩)]
  show (([a,b,c,e]:List (List Int)).all (rowOk 4)) = true
  exact List.all_eq_true.mpr h
 have e1:Vbbraf.step S.play (.deal (t:Int) (ld:Int) a b c e) = if handsR [a,b,c,e] = false then Vbbraf.no S.play 2 else Vbbraf.yes (Vbbraf.dealt ⟨([a,b,c,e]:List (List Int)).map sortR,t,ld,[]⟩) []:=by
  show (if (Vbbraf.within (t:Int) 0 4 && (Vbbraf.within (ld:Int) 0 3 && ([a,b,c,e]:List (List Int)).all fun r=>decide (r.length ≤ 4) && r.all Vbbraf.isCard)) = false then Vbbraf.no S.play 1 else
   if (((([a,b,c,e]:List (List Int)).map sortR).all fun h=>h.length == a.length) && Vbbraf.noneTwice ((([a,b,c,e]:List (List Int)).map sortR).flatMap fun h=>h)) = false then Vbbraf.no S.play 2 else Vbbraf.yes (Vbbraf.dealt ⟨([a,b,c,e]:List (List Int)).map sortR,t,ld,[]⟩) []) = _
  rw [hw,if_neg (by decide),hands_eq fun x hx y hy=>((rowOk_iff.mp (h x hx)).2 y hy).1]
 show (if (Vbbraf.step S.play (.deal (t:Int) (ld:Int) a b c e)).2.head? = some 0 then (⟨(Vbbraf.step S.play (.deal (t:Int) (ld:Int) a b c e)).1,none⟩,(Vbbraf.step S.play (.deal (t:Int) (ld:Int) a b c e)).2) else (S,(Vbbraf.step S.play (.deal (t:Int) (ld:Int) a b c e)).2)) = _
 rw [e1]
 cases handsR [a,b,c,e] <;> rfl
theorem deal_right {t ld:Nat} {a b c e:List Int} (ht:t ≤ 4) (hl:ld ≤ 3) (h:∀ x ∈ [a,b,c,e],rowOk 4 x = true) (hr:handsR [a,b,c,e] = true):DealOk ⟨([a,b,c,e]:List (List Int)).map sortR,t,ld⟩:=by
 have hnn:∀ x ∈ [a,b,c,e],∀ y ∈ x,0 ≤ y:=fun x hx y hy=>((rowOk_iff.mp (h x hx)).2 y hy).1
 rw [← hands_eq hnn,Bool.and_eq_true] at hr
 obtain ⟨h1,h2⟩:=hr
 have hlen:=List.all_eq_true.mp h1
 refine deal_ok (n:=a.length) ht (by omega) ?_ ?_ ?_ (rowOk_iff.mp (h a (by simp))).1 fun z hz=>by simpa using hlen z hz
 ·intro z hz y hy
  obtain ⟨x,hx,rfl⟩:=List.mem_map.mp (show z ∈ ([a,b,c,e]:List (List Int)).map sortR from hz)
  have hy':y ∈ Vbbrag.nats x:=(sorted_perm _).mem_iff.mp hy
  obtain ⟨q,hq,rfl⟩:=List.mem_map.mp hy'
  have:=(rowOk_iff.mp (h x hx)).2 q hq
  omega
 ·intro z hz
  obtain ⟨x,hx,rfl⟩:=List.mem_map.mp (show z ∈ ([a,b,c,e]:List (List Int)).map sortR from hz)
  exact sorted_inc _
 ·have:=(noneTwice_iff _).mp h2
  simpa [List.append_assoc] using this
theorem ok_deal (T:Txt K mg A):FnOk P w K mg base CX0 6 A.f_deal A.d_deal ["ending","numbers","rows"] (sp_desk A 0):=by
 have G_hands_are_right:=ok_hands_are_right (P:=P) (w:=w) (base:=base) T
 have G_begin:=ok_begin (P:=P) (w:=w) (base:=base) T
 have G_Deal_init:=ok_Deal_init (P:=P) (w:=w) (base:=base) T
 refine T.F_deal.ok sc_deal (fun vs H Q E h=>?_) (fun cdv A' outer s H vs Q E hr h=>?_)
 ·obtain ⟨e,pl,nl,rl,as,S,d,l,m,ns,xs,rfl,_⟩:=h
  rfl
 ·obtain ⟨e,pl,nl,rl,as,S,d,l,m,ns,xs,rfl,D,hnl,hrl,hR,hns,hxs,hin,k⟩:=h
  obtain ⟨y,z,rfl⟩:=len2 hns
  obtain ⟨a,b,c,f,rfl⟩:=len4 hxs
  have hin':(numsOk [y,z] [4,3] && ([a,b,c,f]:List (List Int)).all (rowOk 4)) = true:=hin
  rw [Bool.and_eq_true] at hin'
  obtain ⟨t,ld,rfl,rfl,l1,l2⟩:=nums2 hin'.1
  have hrow:∀ x ∈ [a,b,c,f],rowOk 4 x = true:=List.all_eq_true.mp hin'.2
  obtain ⟨dx,dd,po,wo,cv,fs,h1,h2,h3,h4,h5,h6,h7,h8,h9,h10,h11,h12⟩:=id D.at_
  have es:=step_deal S l1 l2 hrow
  have h4len:∀ x ∈ [a,b,c,f],x.length ≤ 4:=fun x hx=>(rowOk_iff.mp (hrow x hx)).1
  refine ⟨_,(pss_cons (ps_if (pt_not (pt_val (pe_call G_hands_are_right (hr.mono (by decide)) rfl T.m_hands_are_right T.F_hands_are_right.kp T.b_hands_are_right .nil pass0 (pa_cons (pv 2) pa_nil)))) (pss_one (ps_ret (pe_lst (pa_cons (pe_gint rfl T.g_HANDS_NOT_RIGHT) pa_nil)))) pss_nil) (pss_cons (ps_set (i:=3) sc_deal.nd rfl (by first | exact Or.inl rfl | exact Or.inr rfl) (pe_callTy call_tuple_of (by rfl) T.z_tuple bt_tuple (pa_cons (pe_lc rfl sc_deal.nd (pi_list (pv 2)) (blkOk_by (own:=[("row",4)]) (by show blkC ["ending","numbers","rows","hands","row"] (defScope s_deal) _ _ = true; decide +kernel)) (fun _ _ _ _ _=>(pg_name (i:=4) sc_deal.nd rfl (by first | exact Or.inl rfl | exact Or.inr rfl))) (fun _ _ _ _ _=>pts_nil) (fun _ _ _ _ _=>(pe_callTy (call_tuple_ofK (K:=K) rfl) (by rfl) T.z_tuple bt_tuple (pa_cons (pe_callB (cr_sortedK (K:=K) rfl) (by rfl) T.z_sorted bt_sorted (pa_cons (pv 4) pa_nil)) pa_nil)))) pa_nil))) (pss_cons (ps_expr (pe_call G_begin (hr.mono (by decide)) rfl T.m_begin T.F_begin.kp T.b_begin .nil pass0 (pa_cons (pv 0) (pa_cons (pe_make T.M_Deal G_Deal_init (hr.mono (by decide)) rfl T.m_Deal T.b_Deal_init .nil pass0 (pa_cons (pv 3) (pa_cons (pe_ix ix_list (pv 1) pe_int (fun _ _=>rfl)) (pa_cons (pe_ix ix_list (pv 1) pe_int (fun _ _=>rfl)) pa_nil)))) pa_nil)))) (pss_one (ps_ret (pe_lst (pa_cons pe_int pa_nil))))))),?_⟩
  refine ⟨_,rfl,rl,as,[a,b,c,f],rfl,hrl,hR,rfl,fun x hx=>Nat.le_trans (h4len x hx) (by decide),fun H1 s1=>?_⟩
  refine ⟨_,rfl,?_⟩
  cases hh:handsR [a,b,c,f] with
  | false=>
   rw [hh,if_pos rfl] at es
   rw [es] at k
   refine iteT ⟨(by show 1 ≤ sizeLine; decide),fun r hr'=>?_⟩
   exact desk_fin D s1 hr' k rfl
  | true=>
   rw [hh,if_neg (by decide)] at es
   rw [es] at k
   have O:=deal_right l1 l2 hrow hh
   refine iteF ?_
   generalize hxs':([a,b,c,f]:List (List Int)) = xs at *
   refine ⟨_,rfl,rl,rfl,⟨_,SqL.of (s1 _ _ hrl)⟩,fun G hG=>?_⟩
   refine lc_list (K:=K) (a:=rl) (xs:=as.map V.ref) (fun i H'=>Same H1 H' ∧ ∃ bs:List Addr,H' G = some (.lst (bs.map V.ref)) ∧ HandsAt H' bs ((xs.take i).map sortR)) ⟨same_new hG _,[],upd_same,rfl,fun i h q=>by simp at q⟩ (fun i H' _ ⟨sm,_⟩=>SqL.of (sm _ _ (s1 _ _ hrl))) (fun i y H' hi ⟨sm,bs,hb,hH⟩=>?_) (fun H' ⟨sm,bs,hb,hH⟩=>?_)
   ·obtain ⟨q,hq,rfl⟩:∃ b,as[i]? = some b ∧ y = V.ref b:=by
     rw [List.getElem?_map] at hi
     cases e:as[i]? with
     | none=>rw [e] at hi; cases hi
     | some b=>rw [e] at hi; exact ⟨b,rfl,(Option.some.inj hi).symm⟩
    have hilt:=(List.getElem?_eq_some_iff.mp hq).1
    obtain ⟨x,hx⟩:∃ x,xs[i]? = some x:=⟨_,List.getElem?_eq_getElem (by rw [← hR.1]; exact hilt)⟩
    obtain ⟨b',w1,w2⟩:=hR.2 i x hx
    rw [hq] at w1
    cases w1
    have hxm:=List.mem_of_getElem? hx
    have hx4:=h4len x hxm
    refine ⟨rfl,_,rfl,q,x,rfl,SqL.of (sm _ _ (s1 _ _ w2)),by omega,fun ns' rs hp hsd hrs=>?_⟩
    have hnn:∀ y ∈ x,0 ≤ y:=fun y hy=>((rowOk_iff.mp (hrow x hxm)).2 y hy).1
    rw [casts hnn] at hp
    have es:=sorted_ints_is hp hsd
    subst es
    have t1:=same_new hrs (.lst (((Vbbraf.sorted (Vbbrag.nats x)).map fun (c:Nat)=>(c:Int)).map V.int))
    refine ⟨rs,_,rfl,.inl ⟨SqL.of upd_same,fun tp htp=>?_⟩⟩
    have t2:=same_new htp (.tup (((Vbbraf.sorted (Vbbrag.nats x)).map fun (c:Nat)=>(c:Int)).map V.int))
    have t12:=t1.trans t2
    have hil:i < 4:=by
     have:=(List.getElem?_eq_some_iff.mp hx).1
     have e4:xs.length = 4:=by rw [← hxs']; rfl
     omega
    have hbl:bs.length ≤ 4:=by
     rw [hH.1,List.length_map,List.length_take]
     omega
    refine ⟨_,t12 _ _ hb,?_,fun b' o z=>?_,bs ++ [tp],?_,?_,fun j h hj=>?_⟩
    ·rw [List.length_map]
     exact small1000 (by omega)
    ·rw [upd_ne (ne_of_none z hG)]
     exact t12 _ _ (sm _ _ z)
    ·rw [upd_same,List.map_append]
     rfl
    ·rw [take_snoc hx,List.map_append,List.length_append,List.length_append,hH.1]
     rfl
    ·rw [take_snoc hx,List.map_append] at hj
     by_cases q:j < bs.length
     ·rw [List.getElem?_append_left (by rw [← hH.1]; exact q)] at hj
      obtain ⟨b2,e1,e2⟩:=hH.2 j h hj
      refine ⟨b2,by rw [List.getElem?_append_left q]; exact e1,?_⟩
      rw [upd_ne (ne_of e2 hb (fun z=>nomatch z))]
      exact t12 _ _ e2
     ·rw [List.getElem?_append_right (by rw [← hH.1]; omega)] at hj
      have e0:j - ((xs.take i).map sortR).length = 0:=by
       have:=(List.getElem?_eq_some_iff.mp hj).1
       have e1:([x].map sortR).length = 1:=rfl
       omega
      rw [e0] at hj
      have hj':some (sortR x) = some h:=hj
      cases hj'
      have ej:j = bs.length:=by
       rw [hH.1]
       rw [← hH.1] at e0 ⊢
       omega
      refine ⟨tp,by rw [ej]; simp,?_⟩
      have ng:tp ≠ G:=fun z=>by rw [z,t1 _ _ hb] at htp; cases htp
      rw [upd_ne ng,upd_same,nints_ints]
      rfl
   ·rw [List.length_map,hR.1,List.take_length] at hH
    refine ⟨G,_,rfl,.inl ⟨SqL.of hb,fun hx hhx=>?_⟩⟩
    have t1:=same_new hhx (.tup (bs.map V.ref))
    have s2:=(s1.trans sm).trans t1
    refine ⟨_,rfl,_,rfl,_,rfl,nl,_,_,_,rfl,rfl,SqL.of (s2 _ _ hnl),at0,_,rfl,nl,_,_,_,rfl,rfl,SqL.of (s2 _ _ hnl),at1,?_⟩
    intro q qdx nq nqdx neq
    refine ⟨q,qdx,_,_,_,rfl,upd_same,fun H3 gs g1 a1 a2 a3 k1=>⟨rfl,?_⟩⟩
    have t3:=made_same nq nqdx k1
    have s3:=s2.trans t3
    have hD:DealAt A H3 q ⟨xs.map sortR,t,ld⟩:=⟨qdx,hx,gs,bs,g1,a1,a2,a3,t3 _ _ upd_same,hH.1,fun i h hi=>let ⟨b,e1,e2⟩:=hH.2 i h hi; ⟨b,e1,t3 _ _ (t1 _ _ e2)⟩⟩
    refine ⟨e,dx,q,⟨xs.map sortR,t,ld⟩,fs,rfl,s3 _ _ h1,.inr h2,hD,O.lt,fun H4 pl4 b4 n4 hE4=>?_⟩
    refine ⟨(by show 1 ≤ sizeLine; decide),fun r hr'=>?_⟩
    have s5:=same_new hr' (.lst [.int 0])
    have b5:But2 e pl H (upd H4 r (.lst [.int 0])):=fun b o z n1 n2=>s5 _ _ (b4 _ _ (s3 _ _ z) n1)
    exact k _ r pl4 _ [] _ b5.keep (.inr (s3.free n4)) ⟨hE4.same s5,O,Reach.start,(fun c z=>nomatch z),lam_but2 D.wt h1 h9 b5,lam_but2 D.bt h1 h9 b5⟩ upd_same
theorem numsOk1 (x:Int) (t:Nat):numsOk [x] [t] = Vbbrag.within x 0 (t:Int):=by
 show (Vbbrag.within x 0 (t:Int) && true) = _
 rw [Bool.and_true]
theorem numsOk2 (x y:Int) (t u:Nat):numsOk [x,y] [t,u] = (Vbbrag.within x 0 (t:Int) && Vbbrag.within y 0 (u:Int)):=by
 show (Vbbrag.within x 0 (t:Int) && (Vbbrag.within y 0 (u:Int) && true)) = _
 rw [Bool.and_true]
theorem numsOk3 (x y z:Int) (t u v:Nat):numsOk [x,y,z] [t,u,v] = (Vbbrag.within x 0 (t:Int) && (Vbbrag.within y 0 (u:Int) && Vbbrag.within z 0 (v:Int))):=by
 show (Vbbrag.within x 0 (t:Int) && (Vbbrag.within y 0 (u:Int) && (Vbbrag.within z 0 (v:Int) && true))) = _
 rw [Bool.and_true]
theorem words_in (s v:Int) (x:List Int):Vbbrag.wordsIn s v x = ((Vbbrag.within s 0 1 && Vbbrag.within v 0 2) && rowOk 16 x):=by
 unfold Vbbrag.wordsIn rowOk
 rw [Bool.and_assoc]
theorem inR_words {a:Nat} {s v:Int} {x:List Int} (ht:tops a = [1,2]) (hl:longest a = 16):inR a [s,v] [x] = Vbbrag.wordsIn s v x:=by
 unfold inR
 rw [ht,hl,numsOk2,words_in]
 show (_ && (rowOk 16 x && true)) = _
 rw [Bool.and_true]
 rfl
theorem inR_words3 {a:Nat} {s n v:Int} {x:List Int} (ht:tops a = [1,4,2]) (hl:longest a = 16):inR a [s,n,v] [x] = (Vbbrag.wordsIn s v x && Vbbrag.within n 0 4):=by
 unfold inR
 rw [ht,hl,numsOk3,words_in]
 show ((Vbbrag.within s 0 1 && (Vbbrag.within n 0 4 && Vbbrag.within v 0 2)) && (rowOk 16 x && true)) = _
 cases Vbbrag.within s 0 1 <;> cases Vbbrag.within n 0 4 <;> cases Vbbrag.within v 0 2 <;> cases rowOk 16 x <;> rfl
theorem cases15 {a:Nat} (h:a < 15):a = 0 ∨ a = 1 ∨ a = 2 ∨ a = 3 ∨ a = 4 ∨ a = 5 ∨ a = 6 ∨ a = 7 ∨ a = 8 ∨ a = 9 ∨ a = 10 ∨ a = 11 ∨ a = 12 ∨ a = 13 ∨ a = 14:=by omega
theorem not_in (S:Vbbrag.State) {a:Nat} {ns:List Int} {xs:List (List Int)} (h:a < 15) (hns:ns.length = (tops a).length) (hxs:xs.length = nrows a) (hin:inR a ns xs = false):Vbbrag.stepRows S (((a:Int) :: ns) :: xs) = (S,[-1]):=by
 rcases cases15 h with e | e | e | e | e | e | e | e | e | e | e | e | e | e | e <;> subst e
 ·obtain ⟨t,l,rfl⟩:=len2 hns
  obtain ⟨u,v,y,z,rfl⟩:=len4 hxs
  have e:(Vbbraf.within t 0 4 && (Vbbraf.within l 0 3 && ([u,v,y,z]:List (List Int)).all fun r=>decide (r.length ≤ 4) && r.all Vbbraf.isCard)) = false:=by
   rw [← hin]
   show _ = (numsOk [t,l] [4,3] && ([u,v,y,z]:List (List Int)).all (rowOk 4))
   rw [numsOk2,Bool.and_assoc]
   rfl
  have e1:Vbbraf.step S.play (.deal t l u v y z) = Vbbraf.no S.play 1:=by
   show (if (Vbbraf.within t 0 4 && (Vbbraf.within l 0 3 && ([u,v,y,z]:List (List Int)).all fun r=>decide (r.length ≤ 4) && r.all Vbbraf.isCard)) = false then Vbbraf.no S.play 1 else _) = _
   rw [if_pos e]
  show (if (Vbbraf.step S.play (.deal t l u v y z)).2.head? = some 0 then (⟨(Vbbraf.step S.play (.deal t l u v y z)).1,none⟩,(Vbbraf.step S.play (.deal t l u v y z)).2) else (S,(Vbbraf.step S.play (.deal t l u v y z)).2)) = _
  rw [e1]
  rfl
 ·obtain ⟨c,rfl⟩:=len1 hns
  obtain rfl:=len0 hxs
  have e:Vbbraf.isCard c = false:=by
   rw [← hin]
   show _ = (numsOk [c] [51] && true)
   rw [numsOk1,Bool.and_true]
   rfl
  show (if Vbbraf.isCard c = false then Vbbrag.no S 1 else _) = _
  rw [if_pos e]
  rfl
 ·obtain rfl:=len0 hns
  obtain rfl:=len0 hxs
  exact nomatch hin
 ·obtain rfl:=len0 hns
  obtain rfl:=len0 hxs
  exact nomatch hin
 ·obtain ⟨s,v,rfl⟩:=len2 hns
  obtain ⟨x,rfl⟩:=len1 hxs
  rw [inR_words rfl rfl] at hin
  show (if Vbbrag.wordsIn s v x = false then Vbbrag.no S 1 else _) = _
  rw [if_pos hin]
  rfl
 ·obtain ⟨s,n,v,rfl⟩:=len3 hns
  obtain ⟨x,rfl⟩:=len1 hxs
  rw [inR_words3 rfl rfl] at hin
  show (if (Vbbrag.wordsIn s v x && Vbbrag.within n 0 4) = false then Vbbrag.no S 1 else _) = _
  rw [if_pos hin]
  rfl
 ·obtain rfl:=len0 hns
  obtain rfl:=len0 hxs
  exact nomatch hin
 ·obtain ⟨s,v,rfl⟩:=len2 hns
  obtain ⟨x,rfl⟩:=len1 hxs
  rw [inR_words rfl rfl] at hin
  show (if Vbbrag.wordsIn s v x = false then Vbbrag.no S 1 else _) = _
  rw [if_pos hin]
  rfl
 ·obtain ⟨s,rfl⟩:=len1 hns
  obtain rfl:=len0 hxs
  have e:Vbbrag.within s 0 1 = false:=by
   rw [← hin]
   show _ = (numsOk [s] [1] && true)
   rw [numsOk1,Bool.and_true]
   rfl
  show (if Vbbrag.within s 0 1 = false then Vbbrag.no S 1 else _) = _
  rw [if_pos e]
  rfl
 ·obtain ⟨s,n,v,rfl⟩:=len3 hns
  obtain ⟨x,rfl⟩:=len1 hxs
  rw [inR_words3 rfl rfl] at hin
  show (if (Vbbrag.wordsIn s v x && Vbbrag.within n 0 4) = false then Vbbrag.no S 1 else _) = _
  rw [if_pos hin]
  rfl
 ·obtain ⟨s,v,rfl⟩:=len2 hns
  obtain ⟨x,rfl⟩:=len1 hxs
  rw [inR_words rfl rfl] at hin
  show (if Vbbrag.wordsIn s v x = false then Vbbrag.no S 1 else _) = _
  rw [if_pos hin]
  rfl
 ·obtain rfl:=len0 hns
  obtain rfl:=len0 hxs
  exact nomatch hin
 ·obtain rfl:=len0 hns
  obtain rfl:=len0 hxs
  exact nomatch hin
 ·obtain ⟨s,v,rfl⟩:=len2 hns
  obtain ⟨x,rfl⟩:=len1 hxs
  rw [inR_words rfl rfl] at hin
  show (if Vbbrag.wordsIn s v x = false then Vbbrag.no S 1 else _) = _
  rw [if_pos hin]
  rfl
 ·obtain rfl:=len0 hns
  obtain rfl:=len0 hxs
  exact nomatch hin
theorem ans_at (T:Txt K mg A) (hB1:base.BuiltinsAt mg A.p_worst_card) (hB2:base.BuiltinsAt mg A.p_best_order) (hne:A.p_worst_card ≠ A.p_best_order) {a:Nat} (h:a < 15):
  ∃ (f:Addr) (fd:FuncData),atI ([.ref A.f_deal,.ref A.f_play,.ref A.f_back,.ref A.f_turn,.ref A.f_judge,.ref A.f_claim,.ref A.f_withdraw,.ref A.f_worst,.ref A.f_sure,.ref A.f_shortest,.ref A.f_order,.ref A.f_score,.ref A.f_account,.ref A.f_lets,.ref A.f_told]:List V) ((a:Nat):Int) = some (.ref f) ∧
   PySem.W.keepIn K (.ref f) = true ∧ FnOk P w K mg base CX0 44 f fd ["ending","numbers","rows"] (sp_desk A a) ∧ Binds K fd ["ending","numbers","rows"] []:=by
 rcases cases15 h with e | e | e | e | e | e | e | e | e | e | e | e | e | e | e <;> subst e
 ·exact ⟨_,_,atI_nat rfl,T.F_deal.kp,(ok_deal T).mono (by decide),T.b_deal⟩
 ·exact ⟨_,_,atI_nat rfl,T.F_play.kp,(ok_play T).mono (by decide),T.b_play⟩
 ·exact ⟨_,_,atI_nat rfl,T.F_back.kp,(ok_back T).mono (by decide),T.b_back⟩
 ·exact ⟨_,_,atI_nat rfl,T.F_turn.kp,(ok_turn T).mono (by decide),T.b_turn⟩
 ·exact ⟨_,_,atI_nat rfl,T.F_judge.kp,(ok_judge T).mono (by decide),T.b_judge⟩
 ·exact ⟨_,_,atI_nat rfl,T.F_claim.kp,(ok_claim T).mono (by decide),T.b_claim⟩
 ·exact ⟨_,_,atI_nat rfl,T.F_withdraw.kp,(ok_withdraw T).mono (by decide),T.b_withdraw⟩
 ·exact ⟨_,_,atI_nat rfl,T.F_worst.kp,ok_worst T hB1 hne,T.b_worst⟩
 ·exact ⟨_,_,atI_nat rfl,T.F_sure.kp,(ok_sure T).mono (by decide),T.b_sure⟩
 ·exact ⟨_,_,atI_nat rfl,T.F_shortest.kp,(ok_shortest T).mono (by decide),T.b_shortest⟩
 ·exact ⟨_,_,atI_nat rfl,T.F_order.kp,(ok_order T hB2 hne).mono (by decide),T.b_order⟩
 ·exact ⟨_,_,atI_nat rfl,T.F_score.kp,(ok_score T).mono (by decide),T.b_score⟩
 ·exact ⟨_,_,atI_nat rfl,T.F_account.kp,(ok_account T).mono (by decide),T.b_account⟩
 ·exact ⟨_,_,atI_nat rfl,T.F_lets.kp,(ok_lets T).mono (by decide),T.b_lets⟩
 ·exact ⟨_,_,atI_nat rfl,T.F_told.kp,(ok_told T).mono (by decide),T.b_told⟩
def sp_answer (A:Adr):Sp:=fun vs H Q _=>∃ (e pl c nl rl:Addr) (a en:Nat) (as:List Addr) (S:Vbbrag.State) (d:Deal) (l:List Nat) (m:MP) (ns:List Int) (xs:List (List Int)),vs = [.ref e,.ref c] ∧ DeskT A H e pl S d l m ∧ CallAt A H c a ns xs en nl rl as ∧ a < 15 ∧
 ns.length = (tops a).length ∧ xs.length = nrows a ∧ (∀ x ∈ xs,x.length ≤ 100) ∧ ∀ (H':Hp) (r pl':Addr) (d':Deal) (l':List Nat) (m':MP),Keep A e pl H H' → (pl' = pl ∨ H pl' = none) → DeskT A H' e pl' (Vbbrag.stepRows S (((a:Int) :: ns) :: xs)).1 d' l' m' → H' r = some (.lst (intV (Vbbrag.stepRows S (((a:Int) :: ns) :: xs)).2)) → Q (.ref r) H'
theorem ok_answer (T:Txt K mg A) (hB1:base.BuiltinsAt mg A.p_worst_card) (hB2:base.BuiltinsAt mg A.p_best_order) (hne:A.p_worst_card ≠ A.p_best_order):FnOk P w K mg base CX0 47 A.f_answer A.d_answer ["ending","call"] (sp_answer A):=by
 have G_in_range:=ok_in_range (P:=P) (w:=w) (base:=base) T
 refine T.F_answer.ok sc_answer (fun vs H Q E h=>?_) (fun cdv A' outer s H vs Q E hr h=>?_)
 ·obtain ⟨e,pl,c,nl,rl,a,en,as,S,d,l,m,ns,xs,rfl,_⟩:=h
  rfl
 ·obtain ⟨e,pl,c,nl,rl,a,en,as,S,d,l,m,ns,xs,rfl,D,hC,a15,hns,hxs,hx100,k⟩:=h
  refine ⟨_,(pss_cons (ps_if (pt_not (pt_val (pe_call G_in_range (hr.mono (by decide)) rfl T.m_in_range T.F_in_range.kp T.b_in_range .nil pass0 (pa_cons (pv 1) pa_nil)))) (pss_one (ps_ret (pe_lst (pa_cons (pe_gint rfl T.g_NOT_IN_RANGE) pa_nil)))) pss_nil) (pss_cons (ps_set (i:=2) sc_answer.nd rfl (by first | exact Or.inl rfl | exact Or.inr rfl) (pe_ix ix_tup (pe_glob (v:=V.ref A.t_ANSWERERS) rfl T.m_ANSWERERS rfl) (pe_fld (pv 1) rfl) (fun _ _=>rfl))) (pss_one (ps_ret (pe_callL 2 (pa_cons (pv 0) (pa_cons (pe_fld (pv 1) rfl) (pa_cons (pe_fld (pv 1) rfl) pa_nil)))))))),?_⟩
  refine ⟨_,rfl,c,nl,rl,a,en,ns,xs,as,rfl,hC,a15,hns,hxs,hx100,fun H1 s1=>?_⟩
  refine ⟨_,rfl,?_⟩
  cases hin:inR a ns xs with
  | false=>
   rw [not_in S a15 hns hxs hin] at k
   refine iteT ⟨(by show 1 ≤ sizeLine; decide),fun r hr'=>?_⟩
   exact desk_fin D s1 hr' k rfl
  | true=>
   refine iteF ?_
   obtain ⟨f,fd,hat,kp,F,bd⟩:=ans_at (P:=P) (w:=w) T hB1 hB2 hne a15
   obtain ⟨dx,fs,h1,h2,h3,h4,h5,h6,h7,h8⟩:=hC.same s1
   refine ⟨_,rfl,c,_,dx,fs,_,rfl,h1,T.c_Call,T.n_Call_number,h2,A.t_ANSWERERS,_,_,_,rfl,rfl,.inr T.q_ANSWERERS,hat,?_⟩
   refine ⟨f,rfl,kp,?_⟩
   refine ⟨_,rfl,_,rfl,c,_,dx,fs,_,rfl,h1,T.c_Call,T.n_Call_numbers,h3,_,rfl,c,_,dx,fs,_,rfl,h1,T.c_Call,T.n_Call_rows,h4,44,fd,_,_,F,hr.mono (by decide),bd,?_⟩
   refine ⟨e,pl,nl,rl,as,S,d,l,m,ns,xs,rfl,D.same s1,h6,h7,h8,hns,hxs,hin,fun H' r pl' d' l' m' c1 c2 c3 c4=>?_⟩
   exact k H' r pl' d' l' m' (fun b o q n1 n2 n3 n4=>c1 b o (s1 b o q) n1 n2 n3 n4) (c2.imp id s1.free) c3 c4
theorem best_len {side way n:Nat} {p:Vbbraf.Pos}:∀ {L:List (List Nat)} {b:List Nat × Nat},(∀ x ∈ L,x.length ≤ n) → b.1.length ≤ n → (Vbbrag.bestOrder side way p L b).1.length ≤ n
 | [],b,_,hb=>hb
 | a :: r,b,h,hb=>by
  show (Vbbrag.bestOrder side way p r (if b.2 < Vbbrag.judged ⟨side,way,a⟩ p then (a,Vbbrag.judged ⟨side,way,a⟩ p) else b)).1.length ≤ n
  refine best_len (fun x hx=>h x (List.mem_cons_of_mem _ hx)) ?_
  split
  ·exact h a (List.mem_cons_self ..)
  ·exact hb
theorem yes_len (S:Vbbrag.State) (l:List Nat):(Vbbrag.yes S l).2.length = l.length + 1:=by
 show (0 :: l.map _).length = _
 rw [List.length_cons,List.length_map]
theorem no_len (S:Vbbrag.State) (n:Nat):(Vbbrag.no S n).2.length = 1:=rfl
theorem ans_len {A:Adr} {H:Hp} {e pl:Addr} {S:Vbbrag.State} {d:Deal} {l:List Nat} {m:MP} (D:DeskT A H e pl S d l m) {a:Nat} {ns:List Int} {xs:List (List Int)} (h:a < 15) (hns:ns.length = (tops a).length) (hxs:xs.length = nrows a):(Vbbrag.stepRows S (((a:Int) :: ns) :: xs)).2.length ≤ 100:=by
 have R:=D.rel
 have O:=D.ok
 have hH:=D.reach.held O
 cases hin:inR a ns xs with
 | false=>
  rw [not_in S h hns hxs hin]
  show 1 ≤ 100
  decide
 | true=>
  rcases cases15 h with e | e | e | e | e | e | e | e | e | e | e | e | e | e | e <;> subst e
  ·obtain ⟨y,z,rfl⟩:=len2 hns
   obtain ⟨a,b,c,f,rfl⟩:=len4 hxs
   have hin':(numsOk [y,z] [4,3] && ([a,b,c,f]:List (List Int)).all (rowOk 4)) = true:=hin
   rw [Bool.and_eq_true] at hin'
   obtain ⟨t,ld,rfl,rfl,l1,l2⟩:=nums2 hin'.1
   rw [step_deal S l1 l2 (List.all_eq_true.mp hin'.2)]
   split
   ·show 1 ≤ 100
    decide
   ·show 1 ≤ 100
    decide
  ·obtain ⟨y,rfl⟩:=len1 hns
   obtain rfl:=len0 hxs
   obtain ⟨c,rfl,l1⟩:∃ n:Nat,y = (n:Int) ∧ n ≤ 51:=nums1 (by unfold inR at hin; exact (Bool.and_eq_true _ _ ▸ hin).1)
   cases hcl:S.claim with
   | some cc=>
    have es:Vbbrag.stepRows S ((((1:Nat):Int) :: [(c:Int)]) :: []) = (S,[-8]):=by
     show (if Vbbraf.isCard (c:Int) = false then Vbbrag.no S 1 else if S.claim.isSome = true then Vbbrag.no S 8 else _) = _
     rw [show Vbbraf.isCard (c:Int) = true from isCard_iff.mpr (by omega),hcl,if_neg (by decide),if_pos (show (some cc).isSome = true from rfl)]
     rfl
    rw [es]
    show 1 ≤ 100
    decide
   | none=>
    rw [step_play S c l1 hcl]
    split
    ·show 1 ≤ 100
     decide
    split
    ·show 1 ≤ 100
     decide
    split
    ·show 1 ≤ 100
     decide
    ·show 4 ≤ 100
     decide
  ·obtain rfl:=len0 hns
   obtain rfl:=len0 hxs
   show (if S.claim.isSome = true then Vbbrag.no S 8 else (⟨(if S.play.played.isEmpty = true then Vbbraf.no S.play 3 else _).1,none⟩,(if S.play.played.isEmpty = true then Vbbraf.no S.play 3 else Vbbraf.yes (S.play.played.dropLast.foldl Vbbraf.playedBy (Vbbraf.dealt S.play.first)) [_,_,_]).2)).2.length ≤ 100
   split
   ·show 1 ≤ 100
    decide
   ·show (if S.play.played.isEmpty = true then Vbbraf.no S.play 3 else Vbbraf.yes (S.play.played.dropLast.foldl Vbbraf.playedBy (Vbbraf.dealt S.play.first)) [_,_,_]).2.length ≤ 100
    split
    ·show 1 ≤ 100
     decide
    ·show 4 ≤ 100
     decide
  ·obtain rfl:=len0 hns
   obtain rfl:=len0 hxs
   have ml:=may_len O R.seat4
   show (if S.claim.isSome = true then Vbbrag.no S 8 else (⟨S.play,none⟩,0 :: (Vbbraf.turnOf S.play.now :: S.play.won :: S.play.lost :: (Vbbraf.legal S.play.now).length :: Vbbraf.legal S.play.now).map fun (n:Nat)=>(n:Int))).2.length ≤ 100
   split
   ·show 1 ≤ 100
    decide
   ·rw [R.legal]
    show (0 :: List.map _ _).length ≤ 100
    rw [List.length_cons,List.length_map]
    show (may d m).length + 4 + 1 ≤ 100
    omega
  ·obtain ⟨y,z,rfl⟩:=len2 hns
   obtain ⟨x,rfl⟩:=len1 hxs
   show (if Vbbrag.wordsIn y z x = false then Vbbrag.no S 1 else Vbbrag.yes S [_]).2.length ≤ 100
   split
   ·show 1 ≤ 100
    decide
   ·show 2 ≤ 100
    decide
  ·obtain ⟨y,z,v,rfl⟩:=len3 hns
   obtain ⟨x,rfl⟩:=len1 hxs
   obtain ⟨sd,n,wy,rfl,rfl,rfl,l1,l2,l3,hx⟩:=in3 rfl rfl hin
   rw [step_claim S l1 l2 l3 hx]
   split
   ·show 1 ≤ 100
    decide
   split
   ·show 1 ≤ 100
    decide
   split
   ·show 1 ≤ 100
    decide
   ·show 4 ≤ 100
    decide
  ·obtain rfl:=len0 hns
   obtain rfl:=len0 hxs
   show (if S.claim.isNone = true then Vbbrag.no S 4 else Vbbrag.yes ⟨S.play,none⟩ []).2.length ≤ 100
   split
   ·show 1 ≤ 100
    decide
   ·show 1 ≤ 100
    decide
  ·obtain ⟨y,z,rfl⟩:=len2 hns
   obtain ⟨x,rfl⟩:=len1 hxs
   show (if Vbbrag.wordsIn y z x = false then Vbbrag.no S 1 else Vbbrag.yes S (Vbbrag.counted (Vbbrag.worst (Vbbrag.wordsOf y z x) S.play.now))).2.length ≤ 100
   split
   ·show 1 ≤ 100
    decide
   ·rw [yes_len,R.worst O]
    have:=wIn_len (Vbbrag.wordsOf y z x) d (mheld d m) m
    have:=R.held16 O
    show (wIn _ _ _ _).length + 1 + 1 ≤ 100
    omega
  ·obtain ⟨y,rfl⟩:=len1 hns
   obtain rfl:=len0 hxs
   show (if Vbbrag.within y 0 1 = false then Vbbrag.no S 1 else Vbbrag.yes S [_,_]).2.length ≤ 100
   split
   ·show 1 ≤ 100
    decide
   ·show 3 ≤ 100
    decide
  ·obtain ⟨y,z,v,rfl⟩:=len3 hns
   obtain ⟨x,rfl⟩:=len1 hxs
   obtain ⟨sd,n,wy,rfl,rfl,rfl,l1,l2,l3,hx⟩:=in3 rfl rfl hin
   rw [step_shortest S l1 l2 l3 hx]
   split
   ·show 1 ≤ 100
    decide
   ·show 2 ≤ 100
    decide
  ·obtain ⟨y,z,rfl⟩:=len2 hns
   obtain ⟨x,rfl⟩:=len1 hxs
   obtain ⟨sd,wy,rfl,rfl,l1,l2,hx⟩:=in2 rfl rfl hin
   have hx16:=(rowOk_iff.mp hx).1
   rw [step_order S l1 l2 hx]
   split
   ·show 1 ≤ 100
    decide
   ·rw [yes_len]
    have:=best_len (side:=sd) (way:=wy) (n:=x.length) (p:=S.play.now) (L:=Vbbrag.orders x.length (Vbbraf.sorted (Vbbrag.nats x))) (b:=(Vbbraf.sorted (Vbbrag.nats x),0)) (fun q hq=>Nat.le_of_eq (orders_len _ q hq)) (by show (Vbbraf.sorted _).length ≤ _; rw [(sorted_perm _).length_eq,nats_len]; exact Nat.le_refl _)
    show (Vbbrag.bestOrder sd wy S.play.now (Vbbrag.orders x.length (Vbbraf.sorted (Vbbrag.nats x))) (Vbbraf.sorted (Vbbrag.nats x),0)).1.length + 1 + 1 + 1 ≤ 100
    omega
  ·obtain rfl:=len0 hns
   obtain rfl:=len0 hxs
   show 4 ≤ 100
   decide
  ·obtain rfl:=len0 hns
   obtain rfl:=len0 hxs
   show (Vbbrag.yes S (Vbbrag.accountOf S)).2.length ≤ 100
   rw [yes_len]
   unfold Vbbrag.accountOf
   cases S.claim <;> exact (by show 8 ≤ 100; decide)
  ·obtain ⟨y,z,rfl⟩:=len2 hns
   obtain ⟨x,rfl⟩:=len1 hxs
   show (if Vbbrag.wordsIn y z x = false then Vbbrag.no S 1 else Vbbrag.yes S (Vbbrag.counted (Vbbrag.lets (Vbbrag.wordsOf y z x) S.play.now))).2.length ≤ 100
   split
   ·show 1 ≤ 100
    decide
   ·rw [yes_len,R.lets]
    have:=mlets_len O R.seat4 (Vbbrag.wordsOf y z x)
    show (mlets _ _ _).length + 1 + 1 ≤ 100
    omega
  ·obtain rfl:=len0 hns
   obtain rfl:=len0 hxs
   show (Vbbrag.yes S (S.play.now.trump :: S.play.now.leader :: ((S.play.now.hands.flatMap Vbbrag.counted) ++ (Vbbrag.counted S.play.now.trick ++ (Vbbrag.counted S.play.played ++ (match S.claim with
    | none=>[0]
    | some c=>[1,c.side,c.k,c.judged,c.sure,c.award])))))).2.length ≤ 100
   rw [yes_len,R.hands4 O,hH.played]
   have a0:=hand_len (d:=d) m O.len (s:=0) (by decide) (deal4 O)
   have a1:=hand_len (d:=d) m O.len (s:=1) (by decide) (deal4 O)
   have a2:=hand_len (d:=d) m O.len (s:=2) (by decide) (deal4 O)
   have a3:=hand_len (d:=d) m O.len (s:=3) (by decide) (deal4 O)
   have l16:=D.reach.len16 O
   have c3:=R.c3
   have ct:=R.cnt
   cases S.claim <;> simp [Vbbrag.counted] <;> omega
def Neg1 (l:List Int):Prop:=∃ z t,l = z :: t ∧ z ≤ 0
theorem neg_yes (S:Vbbrag.State) (l:List Nat):Neg1 (Vbbrag.yes S l).2:=⟨0,_,rfl,Int.le_refl _⟩
theorem neg_no (S:Vbbrag.State) (n:Nat):Neg1 (Vbbrag.no S n).2:=⟨-(n:Int),[],rfl,by omega⟩
theorem neg_yesf (S:Vbbraf.State) (l:List Nat):Neg1 (Vbbraf.yes S l).2:=⟨0,_,rfl,Int.le_refl _⟩
theorem neg_nof (S:Vbbraf.State) (n:Nat):Neg1 (Vbbraf.no S n).2:=⟨-(n:Int),[],rfl,by omega⟩
theorem neg_play (S:Vbbrag.State) (c:Vbbraf.Call) (h:Neg1 (Vbbraf.step S.play c).2):Neg1 (Vbbrag.onPlay S c).2:=by
 unfold Vbbrag.onPlay
 split
 ·exact neg_no _ _
 ·exact h
theorem ans_head (S:Vbbrag.State) {a:Nat} {ns:List Int} {xs:List (List Int)} (h:a < 15) (hns:ns.length = (tops a).length) (hxs:xs.length = nrows a):Neg1 (Vbbrag.stepRows S (((a:Int) :: ns) :: xs)).2:=by
 rcases cases15 h with e | e | e | e | e | e | e | e | e | e | e | e | e | e | e <;> subst e
 ·obtain ⟨t,l,rfl⟩:=len2 hns
  obtain ⟨u,v,y,z,rfl⟩:=len4 hxs
  have hd:Neg1 (Vbbraf.step S.play (.deal t l u v y z)).2:=by
   unfold Vbbraf.step
   dsimp only
   split
   ·exact neg_nof _ _
   split
   ·exact neg_nof _ _
   ·exact neg_yesf _ _
  show Neg1 (if (Vbbraf.step S.play (.deal t l u v y z)).2.head? = some 0 then (⟨(Vbbraf.step S.play (.deal t l u v y z)).1,none⟩,(Vbbraf.step S.play (.deal t l u v y z)).2) else (S,(Vbbraf.step S.play (.deal t l u v y z)).2)).2
  split
  ·exact hd
  ·exact hd
 ·obtain ⟨c,rfl⟩:=len1 hns
  obtain rfl:=len0 hxs
  show Neg1 (if Vbbraf.isCard c = false then Vbbrag.no S 1 else Vbbrag.onPlay S (.play c)).2
  split
  ·exact neg_no _ _
  ·refine neg_play _ _ ?_
   unfold Vbbraf.step
   dsimp only
   split
   ·exact neg_nof _ _
   split
   ·exact neg_nof _ _
   split
   ·exact neg_nof _ _
   split
   ·exact neg_nof _ _
   ·exact neg_yesf _ _
 ·obtain rfl:=len0 hns
  obtain rfl:=len0 hxs
  refine neg_play S .back ?_
  unfold Vbbraf.step
  dsimp only
  split
  ·exact neg_nof _ _
  ·exact neg_yesf _ _
 ·obtain rfl:=len0 hns
  obtain rfl:=len0 hxs
  exact neg_play S .turn (neg_yesf _ _)
 ·obtain ⟨y,z,rfl⟩:=len2 hns
  obtain ⟨x,rfl⟩:=len1 hxs
  show Neg1 (if Vbbrag.wordsIn y z x = false then Vbbrag.no S 1 else Vbbrag.yes S [_]).2
  split
  ·exact neg_no _ _
  ·exact neg_yes _ _
 ·obtain ⟨y,n,z,rfl⟩:=len3 hns
  obtain ⟨x,rfl⟩:=len1 hxs
  show Neg1 (if (Vbbrag.wordsIn y z x && Vbbrag.within n 0 4) = false then Vbbrag.no S 1 else if S.claim.isSome = true then Vbbrag.no S 8 else if Vbbraf.held S.play.now = 0 then Vbbrag.no S 3 else if Vbbraf.toCome S.play.now < n.toNat then Vbbrag.no S 2 else Vbbrag.yes _ _).2
  split
  ·exact neg_no _ _
  split
  ·exact neg_no _ _
  split
  ·exact neg_no _ _
  split
  ·exact neg_no _ _
  ·exact neg_yes _ _
 ·obtain rfl:=len0 hns
  obtain rfl:=len0 hxs
  show Neg1 (if S.claim.isNone = true then Vbbrag.no S 4 else Vbbrag.yes ⟨S.play,none⟩ []).2
  split
  ·exact neg_no _ _
  ·exact neg_yes _ _
 ·obtain ⟨y,z,rfl⟩:=len2 hns
  obtain ⟨x,rfl⟩:=len1 hxs
  show Neg1 (if Vbbrag.wordsIn y z x = false then Vbbrag.no S 1 else Vbbrag.yes S _).2
  split
  ·exact neg_no _ _
  ·exact neg_yes _ _
 ·obtain ⟨y,rfl⟩:=len1 hns
  obtain rfl:=len0 hxs
  show Neg1 (if Vbbrag.within y 0 1 = false then Vbbrag.no S 1 else Vbbrag.yes S _).2
  split
  ·exact neg_no _ _
  ·exact neg_yes _ _
 ·obtain ⟨y,n,z,rfl⟩:=len3 hns
  obtain ⟨x,rfl⟩:=len1 hxs
  show Neg1 (if (Vbbrag.wordsIn y z x && Vbbrag.within n 0 4) = false then Vbbrag.no S 1 else match Vbbrag.shortest (Vbbrag.wordsOf y z x) n.toNat S.play.now with
   | none=>Vbbrag.no S 7
   | some n=>Vbbrag.yes S [n]).2
  split
  ·exact neg_no _ _
  split
  ·exact neg_no _ _
  ·exact neg_yes _ _
 ·obtain ⟨y,z,rfl⟩:=len2 hns
  obtain ⟨x,rfl⟩:=len1 hxs
  show Neg1 (if Vbbrag.wordsIn y z x = false then Vbbrag.no S 1 else if 4 < x.length ∨ Vbbraf.noneTwice (Vbbrag.nats x) = false then Vbbrag.no S 6 else Vbbrag.yes S _).2
  split
  ·exact neg_no _ _
  split
  ·exact neg_no _ _
  ·exact neg_yes _ _
 ·obtain rfl:=len0 hns
  obtain rfl:=len0 hxs
  exact neg_yes S _
 ·obtain rfl:=len0 hns
  obtain rfl:=len0 hxs
  exact neg_yes S _
 ·obtain ⟨y,z,rfl⟩:=len2 hns
  obtain ⟨x,rfl⟩:=len1 hxs
  show Neg1 (if Vbbrag.wordsIn y z x = false then Vbbrag.no S 1 else Vbbrag.yes S _).2
  split
  ·exact neg_no _ _
  ·exact neg_yes _ _
 ·obtain rfl:=len0 hns
  obtain rfl:=len0 hxs
  exact neg_yes S _
theorem calls_form:∀ (f:Nat) {r:List Int} {cs:List (List (List Int))},PyFlat.calls PyVbbrag.shape f r = some cs → ∀ c ∈ cs,Form c
 | 0,[],cs,h=>by
  cases h
  exact fun c hc=>absurd hc (by simp)
 | f + 1,[],cs,h=>by
  cases h
  exact fun c hc=>absurd hc (by simp)
 | 0,p :: r,cs,h=>by cases h
 | f + 1,p :: r,cs,h=>by
  obtain ⟨f',e,c,cs',rfl,h1,_,_,h2⟩:=calls_inv (L:=p :: r) (p:=0) (Nat.zero_lt_succ _) h
  have h':(match PyFlat.call PyVbbrag.shape (p :: r) with
   | none=>none
   | some (c,t)=>match PyFlat.calls PyVbbrag.shape f t with
    | none=>none
    | some cs=>some (c :: cs):Option (List (List (List Int)))) = some (c :: cs'):=h
  rw [show PyFlat.call PyVbbrag.shape (p :: r) = some (c,(p :: r).drop e) from h1] at h'
  have h'':(match PyFlat.calls PyVbbrag.shape f ((p :: r).drop e) with
    | none=>none
    | some cs=>some (c :: cs):Option (List (List (List Int)))) = some (c :: cs'):=h'
  intro x hx
  rcases List.mem_cons.mp hx with q | q
  ·subst q
   obtain ⟨a,n,k,xs,_,b2,b3,b4,b5⟩:=call_inv (L:=p :: r) (p:=0) h1
   rw [b3]
   refine form_of b2 ?_ (rows_len b5)
   rw [List.length_take,List.length_drop]
   omega
  ·cases hf:PyFlat.calls PyVbbrag.shape f ((p :: r).drop e) with
   | none=>rw [hf] at h''; cases h''
   | some cs2=>
    rw [hf] at h''
    cases h''
    exact calls_form f hf x q
theorem asked_inv {L:List Int} (h:PyVbbrag.answers_asked L = true):∃ cs,PyFlat.calls PyVbbrag.shape L.length L = some cs ∧ cs.length ≤ 100 ∧ (∀ c ∈ cs,∀ x ∈ c.tail,x.length ≤ 100) ∧ PyVbbrag.answers L = PyFlat.told (PyFlat.played VbbragNeutral.step VbbragNeutral.start cs):=by
 cases hc:PyFlat.calls PyVbbrag.shape L.length L with
 | none=>
  have e:PyVbbrag.calls L = none:=by
   unfold PyVbbrag.calls
   rw [hc]
  unfold PyVbbrag.answers_asked at h
  rw [e] at h
  cases h
 | some cs=>
  have hf:=calls_form _ hc
  have e:PyVbbrag.calls L = some cs:=by
   unfold PyVbbrag.calls
   rw [hc]
   show some (cs.map PyVbbrag.whole) = some cs
   congr 1
   exact (List.map_congr_left fun c hm=>whole_id (hf c hm)).trans (List.map_id' cs)
  unfold PyVbbrag.answers_asked at h
  rw [e] at h
  have h':(PyFlat.atMost 100 cs && VbbragNeutral.asked cs) = true:=h
  rw [Bool.and_eq_true] at h'
  have h1:decide (cs.length ≤ 100) = true:=h'.1
  have h2:(decide (1 ≤ cs.length) && (decide (cs.length ≤ 100) && (cs.all VbbragNeutral.asked1 && decide ((cs.filter VbbragNeutral.heavy).length ≤ 6)))) = true:=h'.2
  simp only [Bool.and_eq_true] at h2
  refine ⟨cs,rfl,of_decide_eq_true h1,fun c hm x hx=>Nat.le_trans (asked_rows (hf c hm) (List.all_eq_true.mp h2.2.2.1 c hm) x hx) (by decide),?_⟩
  unfold PyVbbrag.answers
  rw [e]
theorem empty_ok:DealOk emptyD:=deal_ok (n:=0) (by decide) (by decide) (by simp) (by simp) (by simp) (by decide) (by simp)
theorem DeskT.lst {A:Adr} {H:Hp} {e pl D:Addr} {S:Vbbrag.State} {d:Deal} {l:List Nat} {m:MP} {xs:List V} (h:DeskT A H e pl S d l m) (hD:H D = some (.lst xs)) (ne:D ≠ pl) (ys:List V):DeskT A (upd H D (.lst ys)) e pl S d l m:=by
 obtain ⟨dx,dd,po,wo,cv,fs,h1,h2,h3,h4,h5,h6,h7,h8,h9,h10,h11,h12⟩:=id h.at_
 have ek:EK 0 fs:=.inr h2
 have b:But2 e D H (upd H D (.lst ys)):=fun b o q _ n=>by rw [upd_ne n]; exact q
 exact ⟨⟨dx,dd,po,wo,cv,fs,(upd_ne (ne_of h1 hD (fun z=>nomatch z))).trans h1,h2,h3,h4,h5,h6,h7,h8.e h1 ek hD b,(upd_ne (Ne.symm ne)).trans h9,h10.e h1 ek hD b,(upd_ne (ne_of h11 hD (fun z=>nomatch z))).trans h11,h12.e h1 ek hD b⟩,h.ok,h.reach,h.cl,lam_but2 h.wt h1 hD b,lam_but2 h.bt h1 hD b⟩
def placeOf (σ:L2.St):Nat:=match σ with
 | _ :: _ :: _ :: some (.int z) :: _=>z.toNat
 | _=>0
def Kp (A:Adr) (H H':Hp):Prop:=∀ b o,H b = some o → b ≠ A.p_worst_card → b ≠ A.p_best_order → H' b = some o
theorem Kp.seq {A:Adr} {H H':Hp} {a:Addr} {xs:List V} (k:Kp A H H') (wt:WorstT A H) (bt:BestT A H) (h:SqL K H a xs):SqL K H' a xs:=by
 obtain ⟨p1,e1,_⟩:=wt
 obtain ⟨p2,e2,_⟩:=bt
 rcases h with (h | ⟨o,h⟩) | h
 ·exact .inl (.inl (k _ _ h (ne_of h e1 (fun z=>nomatch z)) (ne_of h e2 (fun z=>nomatch z))))
 ·exact .inl (.inr ⟨o,k _ _ h (ne_of h e1 (fun z=>nomatch z)) (ne_of h e2 (fun z=>nomatch z))⟩)
 ·exact .inr h
theorem Kp.free {A:Adr} {H H':Hp} {a:Addr} (k:Kp A H H') (wt:WorstT A H') (bt:BestT A H') (h:H' a = none):H a = none:=by
 obtain ⟨p1,e1,_⟩:=wt
 obtain ⟨p2,e2,_⟩:=bt
 cases q:H a with
 | none=>rfl
 | some o=>
  rw [k a o q (fun z=>by rw [z,e1] at h; cases h) (fun z=>by rw [z,e2] at h; cases h)] at h
  cases h
theorem told_step {S:Vbbrag.State} {c:List (List Int)} {cs:List (List (List Int))}:PyFlat.told (PyFlat.played VbbragNeutral.step S (c :: cs)) = (((Vbbrag.stepRows S c).2.length:Nat):Int) :: ((Vbbrag.stepRows S c).2 ++ PyFlat.told (PyFlat.played VbbragNeutral.step (Vbbrag.stepRows S c).1 cs)):=by
 unfold PyFlat.told
 show List.flatMap _ (_ :: _) = _
 rw [List.flatMap_cons]
 rfl
def sp_answers (K:PySem.W.Frag) (A:Adr):Sp:=fun vs H Q _=>∃ (cl:Addr) (L:List Int),vs = [.ref cl] ∧ SqL K H cl (intV L) ∧ L.length ≤ 17000 ∧ PyVbbrag.answers_asked L = true ∧ WorstT A H ∧ BestT A H ∧ ∀ (r:Addr) (H':Hp),H' r = some (.lst (intV (PyVbbrag.answers L))) → Q (.ref r) H'
theorem ok_answers (T:Txt K mg A) (hB1:base.BuiltinsAt mg A.p_worst_card) (hB2:base.BuiltinsAt mg A.p_best_order) (hne:A.p_worst_card ≠ A.p_best_order):FnOk P w K mg base CX0 48 A.f_answers A.d_answers ["calls"] (sp_answers K A):=by
 have G_Ending_init:=ok_Ending_init (P:=P) (w:=w) (base:=base) T
 have G_call_at:=ok_call_at (P:=P) (w:=w) (base:=base) T
 have G_answer:=ok_answer (P:=P) (w:=w) (base:=base) T hB1 hB2 hne
 refine T.F_answers.ok sc_answers (fun vs H Q E h=>?_) (fun cdv A' outer s H vs Q E hr h=>?_)
 ·obtain ⟨cl,L,rfl,_⟩:=h
  rfl
 ·obtain ⟨cl,L,rfl,hcl,hL,hask,wt,bt,k⟩:=h
  obtain ⟨cs0,hcs0,hn0,hrow0,hans⟩:=asked_inv hask
  rw [hans] at k
  refine ⟨_,(pss_cons (ps_set (i:=1) sc_answers.nd rfl (by first | exact Or.inl rfl | exact Or.inr rfl) (pe_make0 T.M_Ending G_Ending_init (hr.mono (by decide)) rfl T.m_Ending T.b_Ending_init .nil pass0)) (pss_cons (ps_set (i:=2) sc_answers.nd rfl (by first | exact Or.inl rfl | exact Or.inr rfl) (pe_lst pa_nil)) (pss_cons (ps_set (i:=3) sc_answers.nd rfl (by first | exact Or.inl rfl | exact Or.inr rfl) pe_int) (pss_cons (ps_while PassesOwn.never (pt_cmpR op_lt (pv 3) (pe_callB call_len_seq (by rfl) T.z_len bt_len (pa_cons (pv 0) pa_nil)) (nomark _)) (pss_cons (ps_set (i:=4) sc_answers.nd rfl (by first | exact Or.inl rfl | exact Or.inr rfl) (pe_call G_call_at (hr.mono (by decide)) rfl T.m_call_at T.F_call_at.kp T.b_call_at .nil pass0 (pa_cons (pv 0) (pa_cons (pv 3) pa_nil)))) (pss_cons (ps_set (i:=5) sc_answers.nd rfl (by first | exact Or.inl rfl | exact Or.inr rfl) (pe_call G_answer (hr.mono (by decide)) rfl T.m_answer T.F_answer.kp T.b_answer .nil pass0 (pa_cons (pv 1) (pa_cons (pv 4) pa_nil)))) (pss_cons (ps_expr (pe_bm PySem.F.plainAttrs_list PySem.F.slot_list_append PySem.F.type_list_append mt_append (pv 2) (pa_cons (pe_callB call_len_seq (by rfl) T.z_len bt_len (pa_cons (pv 5) pa_nil)) pa_nil))) (pss_cons (ps_expr (pe_bm PySem.F.plainAttrs_list PySem.F.slot_list_extend PySem.F.type_list_extend mt_extend (pv 2) (pa_cons (pv 5) pa_nil))) (pss_one (ps_set (i:=3) sc_answers.nd rfl (by first | exact Or.inl rfl | exact Or.inr rfl) (pe_fld (pv 4) rfl)))))))) (pss_one (ps_ret (pv 2))))))),?_⟩
  intro e edx nee nedx neq
  refine ⟨e,edx,rfl,upd_same,fun H1 pl b1 npl hE1=>⟨rfl,?_⟩⟩
  have s1:Same H H1:=fun b o q=>b1 b o (by rw [upd_ne (ne_of_none q nee),upd_ne (ne_of_none q nedx)]; exact q) (ne_of_none q nee)
  have npl0:H pl = none:=by
   have z:=npl
   by_cases q:pl = e
   ·rw [q,upd_same] at z
    cases z
   ·rw [upd_ne q] at z
    by_cases q2:pl = edx
    ·rw [q2,upd_same] at z
     cases z
    ·rw [upd_ne q2] at z
     exact z
  have D1:DeskT A H1 e pl Vbbrag.start emptyD [] (startM emptyD):=⟨hE1,empty_ok,Reach.start,(fun c z=>nomatch z),wt.same s1,bt.same s1⟩
  refine ⟨Nat.zero_le _,fun D hD=>?_⟩
  have s2:=same_new hD (.lst [])
  obtain ⟨_,_,_,_,_,_,_,_,_,_,_,_,_,_,hpl1,_⟩:=id hE1
  have nDpl:D ≠ pl:=fun z=>by rw [z,hpl1] at hD; cases hD
  have hD0:H D = none:=s1.free hD
  refine while_by (fun σ H'=>∃ (p f:Nat) (pl:Addr) (S:Vbbrag.State) (d:Deal) (l:List Nat) (m:MP) (cs:List (List (List Int))) (done:List Int) (v4 v5:Option V),σ = [some (.ref cl),some (.ref e),some (.ref D),some (.int (p:Int)),v4,v5] ∧ p ≤ L.length ∧ Kp A H H' ∧ H pl = none ∧ D ≠ pl ∧ DeskT A H' e pl S d l m ∧ H' D = some (.lst (intV done)) ∧
   PyFlat.calls PyVbbrag.shape f (L.drop p) = some cs ∧ (∀ c ∈ cs,∀ x ∈ c.tail,x.length ≤ 100) ∧ done ++ PyFlat.told (PyFlat.played VbbragNeutral.step S cs) = PyFlat.told (PyFlat.played VbbragNeutral.step VbbragNeutral.start cs0) ∧ done.length + 101 * cs.length ≤ 10100 ∧ (done = [] ∨ ∃ z t,done = z :: t ∧ 0 < z))
   (fun σ _=>L.length - placeOf σ) ⟨0,L.length,pl,Vbbrag.start,emptyD,[],startM emptyD,cs0,[],none,none,rfl,Nat.zero_le _,fun b o q _ _=>s2 _ _ (s1 _ _ q),npl0,nDpl,D1.same s2,upd_same,hcs0,hrow0,rfl,by show 0 + 101 * cs0.length ≤ 10100; omega,.inl rfl⟩ ?_ ?_
  ·rintro σ H2 ⟨p,f,pl,S,d,l,m,cs,done,v4,v5,rfl,hp,kp,npH,nDp,DT,hd,hcs,hrow,heq,hlen,hsg⟩
   have hcl2:=kp.seq wt bt hcl
   refine ⟨_,rfl,_,rfl,cl,_,rfl,.inl hcl2,_,_,rfl,rfl,_,rfl,?_⟩
   rw [intV_len]
   refine ifD (fun lt=>?_) fun nlt=>?_
   ·obtain ⟨f',e0,c,cs',rfl,hc1,pe,el,hcs'⟩:=calls_inv (L:=L) (p:=p) (by omega) hcs
    refine ⟨_,rfl,_,rfl,cl,L,p,c,_,rfl,hcl2,hL,hc1,fun r H3 a en ns xs nl rl as s3 ec a15 hns hxs ht hen hC=>?_⟩
    have een:e0 = en:=by
     have:=congrArg List.length ht
     rw [List.length_drop,List.length_drop] at this
     omega
    subst een
    have hx100:∀ x ∈ xs,x.length ≤ 100:=fun x hx=>hrow c (List.mem_cons_self ..) x (by rw [ec]; exact hx)
    refine ⟨_,rfl,_,rfl,e,pl,r,nl,rl,a,e0,as,S,d,l,m,ns,xs,rfl,DT.same s3,hC,a15,hns,hxs,hx100,fun H4 r4 pl4 d4 l4 m4 kp4 hpl4 DT4 hr4=>?_⟩
    have alen:=ans_len DT a15 hns hxs
    obtain ⟨hz,ht4,eh4,hz0⟩:=ans_head S a15 hns hxs
    have heq':=heq
    rw [told_step,ec] at heq'
    generalize hS4:(Vbbrag.stepRows S (((a:Int) :: ns) :: xs)).1 = S4 at DT4 heq'
    generalize hA4:(Vbbrag.stepRows S (((a:Int) :: ns) :: xs)).2 = ans at hr4 alen eh4 heq'
    obtain ⟨ps1,eP1,_⟩:=id (DT.same s3).wt
    obtain ⟨ps2,eP2,_⟩:=id (DT.same s3).bt
    obtain ⟨ex,_,_,_,_,fse,g1,g2,_,g4,_,_,_,_,g9,_⟩:=id (DT.same s3).at_
    obtain ⟨cdx,cfs,c1,c2,_,_,c5,_⟩:=id hC
    have ek:EK 0 fse:=.inr g2
    have hd3:=s3 _ _ hd
    have hd4:=kp4 _ _ hd3 (ne_of hd3 g1 (fun z=>nomatch z)) nDp (ne_of hd3 eP1 (fun z=>nomatch z)) (ne_of hd3 eP2 (fun z=>nomatch z))
    have hr4c:=kp4 _ _ c1 (ne_end c1 c2 g1 ek (by decide +kernel)) (ne_of c1 g9 (fun z=>nomatch z)) (ne_of c1 eP1 (fun z=>nomatch z)) (ne_of c1 eP2 (fun z=>nomatch z))
    have nrD:r4 ≠ D:=fun z=>by
     rw [z,hd4] at hr4
     injection hr4 with q1
     injection q1 with q2
     have q3:done = ans:=(List.map_inj_right (fun x y z=>by injection z)).mp q2
     rcases hsg with q | ⟨z',t',q,q0⟩
     ·rw [q,eh4] at q3
      cases q3
     ·rw [q,eh4] at q3
      injection q3 with q4
      omega
    have nDp4:D ≠ pl4:=fun z=>by
     rcases hpl4 with q | q
     ·exact nDp (z.trans q)
     ·rw [← z,hd3] at q
      cases q
    refine ⟨_,rfl,.inl ⟨rfl,_,SqL.of hd4⟩,_,rfl,r4,_,rfl,.inl (SqL.of hr4),D,_,_,rfl,rfl,hd4,?_,?_⟩
    ·rw [intV_len]
     refine Nat.lt_of_lt_of_le (m:=20000) ?_ (by decide)
     rw [List.length_cons] at hlen
     omega
    generalize hH5:upd H4 D (.lst (intV done ++ [.int (((intV ans).length:Nat):Int)])) = H5
    have f5:H5 D = some (.lst (intV (done ++ [(ans.length:Int)]))):=by
     rw [← hH5,upd_same,intV_len]
     unfold intV
     rw [List.map_append]
     rfl
    have k5:∀ {b:Addr} {o:HO},H4 b = some o → b ≠ D → H5 b = some o:=fun q n=>by
     rw [← hH5,upd_ne n]
     exact q
    have DT5:DeskT A H5 e pl4 S4 d4 l4 m4:=by
     rw [← hH5]
     exact DT4.lst hd4 nDp4 _
    refine ⟨_,rfl,.inl ⟨rfl,_,SqL.of f5⟩,_,rfl,D,r4,_,_,rfl,rfl,f5,k5 hr4 nrD,?_,?_⟩
    ·rw [intV_len,intV_len,List.length_append]
     refine Nat.le_trans (m:=20000) ?_ (by decide)
     rw [List.length_cons] at hlen
     show done.length + 1 + ans.length ≤ 20000
     omega
    generalize hH6:upd H5 D (.lst (intV (done ++ [(ans.length:Int)]) ++ intV ans)) = H6
    have f6:H6 D = some (.lst (intV (done ++ ((ans.length:Int) :: ans)))):=by
     rw [← hH6,upd_same]
     unfold intV
     rw [← List.map_append,List.append_assoc]
     rfl
    have k6:∀ {b:Addr} {o:HO},H4 b = some o → b ≠ D → H6 b = some o:=fun q n=>by
     rw [← hH6,upd_ne n]
     exact k5 q n
    have DT6:DeskT A H6 e pl4 S4 d4 l4 m4:=by
     rw [← hH6]
     exact DT5.lst f5 nDp4 _
    refine ⟨_,rfl,r,_,cdx,cfs,_,rfl,k6 hr4c (ne_of hr4c hd4 (fun z=>nomatch z)),T.c_Call,T.n_Call_end,c5,?_⟩
    refine ⟨⟨e0,f',pl4,S4,d4,l4,m4,cs',done ++ ((ans.length:Int) :: ans),_,_,rfl,el,?_,?_,nDp4,DT6,f6,hcs',fun c hc=>hrow c (List.mem_cons_of_mem _ hc),?_,?_,?_⟩,?_⟩
    ·intro b o q n1 n2
     have q2:=kp b o q n1 n2
     have q3:=s3 _ _ q2
     have nbe:b ≠ e:=ne_of_none q nee
     have nbD:b ≠ D:=ne_of_none q hD0
     exact k6 (kp4 _ _ q3 nbe (ne_of_none q npH) n1 n2) nbD
    ·rcases hpl4 with q | q
     ·rw [q]
      exact npH
     ·exact kp.free DT.wt DT.bt (s3.free q)
    ·rw [← heq',List.append_assoc]
     rfl
    ·rw [List.length_append,List.length_cons]
     rw [List.length_cons] at hlen
     omega
    ·refine .inr ?_
     rcases hsg with q | ⟨z',t',q,q0⟩
     ·rw [q,eh4]
      exact ⟨_,_,rfl,by rw [List.length_cons]; omega⟩
     ·rw [q]
      exact ⟨z',_,rfl,q0⟩
    ·show L.length - ((e0:Nat):Int).toNat < L.length - ((p:Nat):Int).toNat
     omega
   ·have hpe:p = L.length:=by omega
    rw [hpe] at hcs
    have hnil:=calls_end hcs
    subst hnil
    refine ⟨_,rfl,k D H2 ?_⟩
    rw [hd,← heq]
    show _ = some (HO.lst (intV (done ++ [])))
    rw [List.append_nil]
  ·rintro σ H1' Q1 Q2 hq ⟨v,r1,v2,r2,a,ys,r3,r4,i1,i2,r5,r6,kb,r7,r8⟩
   exact ⟨v,r1,v2,r2,a,ys,r3,r4,i1,i2,r5,r6,kb,r7,hq _ _ r8⟩
theorem lam_empty {H:Hp} {p:Addr} {ps:PySem.Pos} {q:Str} (h:H p = some (.tbl #[])):LamT H p ps q:=⟨#[],h,by trivial,.inl rfl⟩
def sp_top (p q:Addr) (K:PySem.W.Frag):Sp:=fun vs H Q _=>∃ (cl:Addr) (L:List Int),vs = [.ref cl] ∧ SqL K H cl (intV L) ∧ L.length ≤ 17000 ∧ PyVbbrag.answers_asked L = true ∧ LamT H p (lamPos s_worst_card) ((("worst_card":Str) ++ ".<locals>.") ++ "<lambda>") ∧ LamT H q (lamPos s_best_order) ((("best_order":Str) ++ ".<locals>.") ++ "<lambda>") ∧ ∀ (r:Addr) (H':Hp),H' r = some (.lst (intV (PyVbbrag.answers L))) → Q (.ref r) H'
theorem top_ok {fa p q:Addr} {kV dc pm cd ct:Value} {an:Option Addr} (c1 c2:Addr) (hne:p ≠ q) (hfa:mg "answers" = some (.ref fa))
  (h:∃ A:Adr,Txt K mg A ∧ mg "answers" = some (.ref A.f_answers) ∧ A.d_answers = (PySem.W.fnOf "answers" "answers" (defArgs s_answers) (defBody s_answers) (defScope s_answers) .none kV dc pm an cd ct) ∧ A.p_worst_card = p ∧ A.p_best_order = q):
  ∃ fd:FuncData,(∀ (s:Shared) (us:List Value),us.length = (["calls"]:List Str).length → BindsTo s fd ⟨us,[]⟩ ((["calls"]:List Str).zip us)) ∧
   ∀ base:Heap,K.In base → base.Ns mainGlobals mg → (∀ x ∈ [(c1,p),(c2,q)],base.BuiltinsAt mg x.2) → FnOk P w K mg base CX0 48 fa fd ["calls"] (sp_top p q K):=by
 obtain ⟨A,T,ha,hd,rfl,rfl⟩:=h
 rw [hfa] at ha
 cases ha
 refine ⟨PySem.W.fnOf "answers" "answers" (defArgs s_answers) (defBody s_answers) (defScope s_answers) .none kV dc pm an cd ct,fun s us hu=>match us,hu with | [_],_=>.of_eq rfl,fun base _ _ hB=>?_⟩
 rw [← hd]
 exact ok_answers T (hB (c1,A.p_worst_card) (by simp)) (hB (c2,A.p_best_order) (by simp)) hne
end
end Cc
end
-- names that the head would else fill with twins of its own constants: without them the compiled text is 120 MB smaller
namespace PySem.W.Fast
def tw17546210329969490785:=0
def tw2485555921826784814:=0
def tw11433102068272372407:=0
def tw258585011907372064:=0
def tw1570466224270538650:=0
def tw6139800157098419683:=0
def tw15605804419239383133:=0
def tw5725466283809529151:=0
def tw6869704869509514388:=0
def tw8374507252461169806:=0
def tw15721977460655090877:=0
def tw2483419610443675834:=0
def tw6876562350433777860:=0
def tw16395858672839192595:=0
def tw2257619005409013390:=0
def tw7853789833917367332:=0
def tw3685486022256957418:=0
def tw10096794056579706345:=0
def tw13051383566013134027:=0
def tw6996674036944686393:=0
def tw3267024107837734398:=0
def tw5298802691610615532:=0
def tw7962627761163888122:=0
def tw9688116488376649458:=0
def tw9378008336073602863:=0
def tw10350205806673217059:=0
def tw3242214626447690861:=0
def tw11477685185016606963:=0
def tw2267244685042898541:=0
def tw14277322546385687643:=0
def tw8129994581070315161:=0
def tw3610386469496425415:=0
def tw13944017764988173416:=0
def tw11731545096048916905:=0
def tw2972568244565643110:=0
def tw13600854844459779816:=0
def tw18439737616077369541:=0
def tw6168819425510313300:=0
def tw11176418777770717549:=0
def tw4605774404532237493:=0
def tw121766942792810:=0
def tw511560986934335351:=0
def tw9959757736480545886:=0
def tw1975082673656943556:=0
def tw15133818099594357870:=0
def tw10350249131603139616:=0
def tw11135248985059684451:=0
def tw18281588783483712395:=0
def tw16074378658007615664:=0
def tw3269788762452065074:=0
def tw6820125407598818413:=0
def tw8997000817802485790:=0
def tw13862113698961041542:=0
def tw18291109122367901130:=0
def tw13569177824714977726:=0
def tw15960321327997140631:=0
def tw7784805336327823817:=0
def tw10694193185033275269:=0
def tw11320842332563850502:=0
def tw10987720770270612876:=0
def tw16413474042469511507:=0
def tw4240044936593799245:=0
def tw2013101063028867496:=0
def tw10330453316693241735:=0
def tw12999500631685150141:=0
def tw16495251543381615652:=0
def tw14548658915149373105:=0
def tw7405829254628651300:=0
def tw10345947726736224517:=0
def tw11155283605917260147:=0
def tw14795429962898102453:=0
def tw9320898003044281102:=0
def tw1172623243449043016:=0
def tw9662029236663173243:=0
def tw10406700858143182248:=0
def tw6886387687027153047:=0
def tw2188961031467264888:=0
def tw973467873407751079:=0
def tw17517908157103456432:=0
def tw17070827216294948945:=0
def tw6652680728499590780:=0
def tw18302426559962217509:=0
def tw1128380005176856911:=0
def tw250953115287090775:=0
def tw15886750611437143541:=0
def tw9762242205391654176:=0
def tw6664143341002126248:=0
def tw16380052683554883371:=0
def tw11374274260256492480:=0
def tw10177481752918421321:=0
def tw6627238897822080538:=0
def tw16585439306447600029:=0
def tw12428024640261301931:=0
def tw6521214999391881707:=0
def tw17502324490799332607:=0
def tw8763131748814214240:=0
def tw5939386552383220826:=0
def tw7619589055563609922:=0
def tw14851330045283549808:=0
def tw12612671105657240938:=0
def tw15413194753911933080:=0
def tw17841732716975488891:=0
def tw13062420146772717761:=0
def tw4199473290740777993:=0
def tw9387814057923353317:=0
def tw3478800096126627640:=0
def tw4203918167426896535:=0
def tw12844164326234365798:=0
def tw16441357635038728819:=0
def tw3387874088670656666:=0
def tw9202313204071993294:=0
def tw17473600893524598016:=0
def tw7782461971926217069:=0
def tw800605405762513394:=0
def tw15084480765004414747:=0
def tw5611971389462115890:=0
def tw2688123779232909242:=0
def tw10667427747673006267:=0
def tw6146480039824202096:=0
def tw9705015634911710021:=0
def tw14180004110851223320:=0
def tw4556150341910559895:=0
def tw10350795608434274618:=0
def tw2368302940212334821:=0
def tw2106530120653627243:=0
def tw13592918881171846221:=0
def tw14402549915369447071:=0
def tw6811382501177493387:=0
def tw12130833983171572665:=0
def tw5581683991254112974:=0
def tw11874063412812763172:=0
def tw6010362690944056864:=0
def tw10967085701183948253:=0
def tw12694931622355332956:=0
def tw1871837279213057027:=0
def tw2247849424082263869:=0
def tw7984006517542326582:=0
def tw2466802277626522335:=0
def tw16078326472261218400:=0
def tw15622957315461793782:=0
def tw7390851411198759064:=0
def tw17384997259202912283:=0
def tw11879198780260146177:=0
def tw118938900620122143:=0
def tw5860482448745409937:=0
def tw17165724191510112806:=0
def tw12658405092973189177:=0
def tw4028092875188637494:=0
def tw10775757520707112412:=0
def tw11454991860822752140:=0
def tw17305566468313354349:=0
def tw16930778215325116700:=0
def tw17832114055656471768:=0
def tw4357165209831385972:=0
def tw16643432413717257721:=0
def tw8514700997871980210:=0
def tw11251509879939137485:=0
def tw15172783336234765354:=0
def tw14235032066114453894:=0
def tw3659105463796574906:=0
def tw8228759920012880202:=0
def tw17370178252826893606:=0
def tw15250484014227251912:=0
def tw16113081345364089391:=0
def tw5745438813975412860:=0
def tw7829298019111145815:=0
def tw13819019787989696786:=0
def tw9862574499561134216:=0
def tw10990542044405504028:=0
def tw5414198585109853184:=0
def tw16158822358856726727:=0
def tw15287311652286991599:=0
def tw1642247095284743631:=0
def tw184214260439223907:=0
def tw16555650655765864054:=0
def tw11197442558190715246:=0
def tw13077082931054261568:=0
def tw15666500939843555342:=0
def tw11391431046219625226:=0
def tw7902062310740497954:=0
def tw4365223895079862966:=0
def tw9296230903118269171:=0
def tw3196991570500665814:=0
def tw8447084520523954424:=0
def tw3138863372815884029:=0
def tw9684419934074412619:=0
def tw17392799030048597398:=0
def tw3273509423660264587:=0
def tw8082088993841519123:=0
def tw1282627336747271171:=0
def tw4533747193958785718:=0
def tw11243533827868663170:=0
def tw12049749434776550600:=0
def tw8929484054308346603:=0
def tw1661394660561572061:=0
def tw17310644476131605384:=0
def tw3567133967613247790:=0
def tw17556747208379833193:=0
def tw12046473480162301853:=0
def tw12596295660408262250:=0
def tw14717391624439238165:=0
def tw5326244469230199718:=0
def tw3590937211891087961:=0
def tw17281810264784395214:=0
def tw9627765743907176678:=0
def tw14453477981387848172:=0
def tw15286640973170262163:=0
def tw13546816570766917443:=0
def tw4629149422720584587:=0
def tw13493756181211647324:=0
def tw14035784284130040950:=0
def tw13523412843375529924:=0
def tw4796980530058240375:=0
def tw13121376244550594097:=0
def tw5843418815438543930:=0
def tw17823028603458741046:=0
def tw13707321188050487589:=0
def tw1818153852970418545:=0
def tw9771631158211488733:=0
def tw6155655837146201890:=0
def tw3974051980339874142:=0
def tw2559449078191408866:=0
def tw13005535871648389741:=0
def tw14882675187600003629:=0
def tw16801997857263004657:=0
def tw6498550332222154255:=0
def tw6027009876092985322:=0
def tw274807882168936408:=0
def tw12418706241609599883:=0
def tw17257868382775489399:=0
def tw3765310247600145088:=0
def tw14784547259496117099:=0
def tw7564127008700100576:=0
def tw3379962695766117362:=0
def tw16671751911640815124:=0
def tw16693039992010194502:=0
def tw3369340596944486748:=0
def tw962579371571197688:=0
def tw15139934443600246956:=0
def tw15054161658846169238:=0
def tw134806462594279261:=0
def tw13937605930826691365:=0
def tw3413242347988899389:=0
def tw4656102051044537099:=0
def tw15213282629935541099:=0
def tw17975452185740868035:=0
def tw5570216524415576740:=0
def tw3765912906209614481:=0
def tw8454344870165089370:=0
def tw1112529088707214210:=0
def tw15700597281812122525:=0
def tw4558832347363460019:=0
def tw2214013594040814384:=0
def tw7099976222526326424:=0
def tw6286581454511738679:=0
def tw16905276513748483881:=0
def tw12545046323165616927:=0
def tw71185200666558242:=0
def tw5771279660820182048:=0
def tw16079013468676995518:=0
def tw13294459254619313999:=0
def tw1051453343458889673:=0
def tw18339194720736370447:=0
def tw644665463718747053:=0
def tw17220389096317261090:=0
def tw1195945035323816532:=0
def tw3176557459727703856:=0
def tw13270791945998176529:=0
def tw18006379017522112342:=0
def tw197140388110659229:=0
def tw8744165490254517621:=0
def tw11220396933945290516:=0
def tw15038495202874029532:=0
def tw14787711709573736467:=0
def tw12596452734414317908:=0
def tw3855023770138219867:=0
def tw10772027986077723360:=0
def tw12350227648168085079:=0
def tw402841256781399319:=0
def tw15812144497074940182:=0
def tw11458294382186918126:=0
def tw7669899703770105963:=0
def tw5914134927581388978:=0
def tw9333838957020267843:=0
def tw9916663835944642558:=0
def tw602620401376042635:=0
def tw17458968150155253764:=0
def tw13043851711251679557:=0
def tw16595504595072943787:=0
def tw4090792274870219342:=0
def tw6195071029912020619:=0
def tw6012067527164578754:=0
def tw4762489521958448501:=0
def tw11633517794280117112:=0
def tw9216751963210893911:=0
def tw164393013945488455:=0
def tw11493000734290751314:=0
def tw17573678635995220254:=0
def tw7415238667449697126:=0
def tw11000916854213243668:=0
def tw4918780338805887688:=0
def tw12222004255616700442:=0
def tw6870805513321533256:=0
def tw2912946640005034515:=0
def tw1023874855253982213:=0
def tw3893322661610179854:=0
def tw11142106856083797825:=0
def tw14608388310606666204:=0
def tw9553800484668079516:=0
def tw13146425316912761437:=0
def tw6977641555211459864:=0
def tw7724978401530703565:=0
def tw14399073824779011801:=0
def tw829454094787227584:=0
def tw11904006371537418484:=0
def tw5777709802524322134:=0
def tw16632072004151846100:=0
def tw14854590272968665517:=0
def tw10069434168582643964:=0
def tw11188515897162882850:=0
def tw1360599329714516068:=0
def tw16672403979883451165:=0
def tw14891841497208607203:=0
def tw16024490845059869747:=0
def tw15553090904533059422:=0
def tw17017978100146242902:=0
def tw16813162302970232722:=0
def tw12934080060107489233:=0
def tw13085234895922789143:=0
def tw16358112909724224153:=0
def tw12771230189300842242:=0
def tw912639587985617760:=0
def tw13911441710272974075:=0
def tw17759848388721947075:=0
def tw3065773744927377583:=0
def tw3801822642710235973:=0
def tw9569144120289701729:=0
def tw14383606573632160511:=0
def tw5156651402837383052:=0
def tw8090591159364971083:=0
def tw14856426694203662538:=0
def tw8974118712451843543:=0
def tw1098764552854800180:=0
def tw9647484330743064074:=0
def tw9948836745060563400:=0
def tw12751200435532844589:=0
def tw13060591209705086349:=0
def tw6914954457495588570:=0
def tw7731806259206882460:=0
def tw6258447696295896865:=0
def tw6261662782614924067:=0
def tw17594477582358590210:=0
def tw17271355473909731539:=0
def tw10220802720115212437:=0
def tw8156953911627196421:=0
def tw17549765674587519785:=0
def tw5073887988258022322:=0
def tw12757440845461508500:=0
def tw5370018472696984029:=0
def tw15637608599119515227:=0
def tw17760669987895230454:=0
def tw13460206312529532702:=0
def tw2126730436746462259:=0
def tw9159679682680141116:=0
def tw1094396039893743477:=0
def tw12596230330967904874:=0
def tw7619121721319225167:=0
def tw15223439326351049206:=0
def tw5491762014209222600:=0
def tw12749843453757008246:=0
def tw6470094361617016124:=0
def tw5720481475311618416:=0
def tw14088872510720538296:=0
def tw10579243557805010244:=0
def tw15109604391709490764:=0
def tw2690081402843038811:=0
def tw5853211937776989698:=0
def tw8449482357625032696:=0
def tw9359281916775203271:=0
def tw14213419463530213539:=0
def tw1256350950804879868:=0
def tw16288912494623066161:=0
def tw14500983573418195570:=0
def tw7606526020784002002:=0
def tw7020018023093939555:=0
def tw10433141260943847791:=0
def tw18118253394401437928:=0
def tw15951216647451636331:=0
def tw3999735612635015049:=0
def tw18216554828081184873:=0
def tw14064824550506500575:=0
def tw10053823038775106984:=0
def tw13058193497638366955:=0
def tw32384781101867298:=0
def tw2011811875618084866:=0
def tw14081155094493271935:=0
def tw8774647739776828553:=0
def tw9522011470469530831:=0
def tw3426849731267772091:=0
def tw15126061904893712142:=0
def tw12206486132921312396:=0
def tw15740908469553518522:=0
def tw17485825769460762230:=0
def tw15249991364297373127:=0
def tw13413686620106639609:=0
def tw2456657982788642025:=0
def tw7551218694716513122:=0
def tw7263361797038152815:=0
def tw8932592794153677659:=0
def tw7902008279061425714:=0
def tw1800213056476408477:=0
def tw7880377457891412373:=0
def tw11174494613066530150:=0
def tw579333559995255581:=0
def tw5186399812681786311:=0
def tw11971771612620954578:=0
def tw11851265772790652143:=0
def tw9008773185417421379:=0
def tw1641101665198780338:=0
def tw331629219639004688:=0
def tw9780149632631763338:=0
def tw9209443587041465655:=0
def tw10731841303442786730:=0
def tw11845432865860628366:=0
def tw1648652677938699384:=0
def tw15885309219214853652:=0
def tw13688955408645801236:=0
def tw4004388890781091255:=0
def tw4437557097955698715:=0
def tw5056662332451808166:=0
def tw11728957743444503188:=0
def tw8041555610081042516:=0
def tw13395319801317021852:=0
def tw12005008312616271224:=0
def tw7586574850889936929:=0
def tw8409188671043149593:=0
def tw14463578897108153014:=0
def tw9524642812702978731:=0
def tw8524049912734147115:=0
def tw17993059828689836178:=0
def tw14949136437569467607:=0
def tw3035334337519192137:=0
def tw4679791607890489350:=0
def tw14914855441875276944:=0
def tw2344161143670165071:=0
def tw4990851109221997434:=0
def tw4178319820027470926:=0
def tw9037528724029308575:=0
def tw13500183535581696036:=0
def tw15088128528450875635:=0
def tw14725573129206662888:=0
def tw5279587828757374187:=0
def tw12144381469285504165:=0
def tw46038147720410788:=0
def tw6551157909160424034:=0
def tw12603824193784934123:=0
def tw2958752189262591585:=0
def tw298855071803331260:=0
def tw10625146305170920840:=0
def tw2830186717302515856:=0
def tw16187174162878921753:=0
def tw12144101659357240408:=0
def tw8187848191295796461:=0
def tw3689482983822263330:=0
def tw3878391003279213596:=0
def tw10698132144005622807:=0
def tw18268637223375605461:=0
def tw12723465068576763698:=0
def tw1703937346757446305:=0
def tw16237986404618770175:=0
def tw18271538851119586119:=0
def tw7012441175884673560:=0
def tw13387690690863905961:=0
def tw20340077171136495:=0
def tw10472548913191570849:=0
def tw5541239418803165849:=0
def tw15867894114754377322:=0
def tw13335111067598011405:=0
def tw3743574273026946021:=0
def tw932977030207856435:=0
def tw12641610112202443877:=0
def tw4573728141566377217:=0
def tw39355810001162496:=0
def tw17433968203115265233:=0
def tw6665738965152913245:=0
def tw5570246647443169037:=0
def tw18047363438473392519:=0
def tw1091727111577991768:=0
def tw4470323830271205722:=0
def tw1827672072767312638:=0
def tw2931364327278903335:=0
def tw12753346298340958424:=0
def tw6068649360009642107:=0
def tw6002451480462602107:=0
def tw4571448871034173926:=0
def tw18183813021413176405:=0
def tw480104581638299856:=0
def tw1539739435591039271:=0
def tw6862475571248124916:=0
def tw13992720976508525666:=0
def tw8219080039748922974:=0
def tw1094167246941460202:=0
def tw12000276454293418509:=0
def tw7321883426405981223:=0
def tw17296394183317517293:=0
def tw9817238706147246503:=0
def tw15056286367739078600:=0
def tw4801025379892169575:=0
def tw12654096702254586265:=0
def tw6443006604376885725:=0
def tw14856865963000203551:=0
def tw15562954242512735447:=0
def tw5876395165701859286:=0
def tw1362184334651694725:=0
def tw4678201441662425375:=0
def tw12204996540659603014:=0
def tw14433858908835571256:=0
def tw2334215089304760602:=0
def tw8933865996481580158:=0
def tw14147804113660189924:=0
def tw9795252394942984057:=0
def tw11636690120824004570:=0
def tw6613959090250221064:=0
def tw17348669038327505291:=0
def tw15520954525980817782:=0
def tw15423590496058549825:=0
def tw3075914652827925327:=0
def tw8865313245721974806:=0
def tw627591255955210889:=0
def tw4280265342936393826:=0
def tw1449409691133770607:=0
def tw1963001921739913278:=0
def tw9549157712993248086:=0
def tw10091521186282900532:=0
def tw9547925936133247011:=0
def tw3223418976777342081:=0
def tw5526525312196351992:=0
def tw9451399250611596396:=0
def tw15716101529896360679:=0
def tw8922348471941133270:=0
def tw6064435092468732937:=0
def tw11988934438408328714:=0
def tw5366969534868809136:=0
def tw5435317398665011650:=0
def tw8473981478934967605:=0
def tw11641448605553966673:=0
def tw10818922718108796046:=0
def tw17776006289001324137:=0
def tw4234763160139304781:=0
def tw15674963565275316085:=0
def tw4218137795910064214:=0
def tw3116352135954883690:=0
def tw2466808809571558421:=0
def tw3707520806207299849:=0
def tw15966003852152294003:=0
def tw11590837335679687744:=0
def tw12203621786171364415:=0
def tw15251503332000061721:=0
def tw10246358139146926813:=0
def tw16677689629979658492:=0
def tw13445832283802351698:=0
def tw1551641781752891654:=0
def tw13504140341548231670:=0
def tw3694234108975522542:=0
def tw17460677659359179587:=0
def tw8035532635919551837:=0
def tw3164681105400404487:=0
def tw17555621041725913446:=0
def tw13993431221601858038:=0
def tw15666393785130642135:=0
def tw18347929831658818005:=0
def tw4856951793648220857:=0
def tw10037589969745401035:=0
def tw8654861880952475588:=0
def tw14165361910397393879:=0
def tw15784404755629330694:=0
def tw8287452790689662414:=0
def tw16671798163099725211:=0
def tw13713920205397743892:=0
def tw9062994865105042096:=0
def tw12615759474290749283:=0
def tw6522036263640260243:=0
def tw17136344234907394899:=0
def tw730751925762592797:=0
def tw5349245526532919168:=0
def tw7510626469936198275:=0
def tw11678224884479022372:=0
def tw11704225034508570551:=0
def tw3182480189864458859:=0
def tw8502956019090328279:=0
def tw13250515000862484168:=0
def tw13942925471347915538:=0
end PySem.W.Fast
open PySem PySem.W PyProof.Rows
set_option Elab.async false
set_option maxRecDepth 100000 in
set_option maxHeartbeats 0 in
theorem PySem.Challenge.cw_cardclaims_s01_answers_holds : PySem.Challenge.rw_cardclaims_s01_answers.Holds := by
  w_on; k_headS; (case hw => exact ⟨[.list [.int 3]], by decide +kernel, by decide +kernel⟩)
  k_fillS
  refine Cc.walk_specT (r := PySem.Challenge.rw_cardclaims_s01_answers) (k := 48) (CX := L2.CX0) (ps := ["calls"]) (sp := Cc.sp_top 358 481) [(362, 358), (485, 481)] (by decide +kernel) rfl rfl ⟨rfl, by decide, by decide⟩ (fun w h Y => PySem.W.kIn_of Y) ?caT ?caN ?caF ?caS (fun _ _ _ _ z => z)
  case caT =>
    intro w mg mb mean h T Y
    exact List.forall_mem_cons.mpr ⟨PySem.W.tab_of (x := PySem.Str.ofString "worst_card") (c := 362) (P := 358) T (PySem.W.kIn_of Y) rfl (by kernel_rfl), List.forall_mem_cons.mpr ⟨PySem.W.tab_of (x := PySem.Str.ofString "best_order") (c := 485) (P := 481) T (PySem.W.kIn_of Y) rfl (by kernel_rfl), fun q hq => absurd hq (by simp)⟩⟩
  case caN =>
    intro w
    kernel_rfl
  case caS =>
    intro K H0 H xs a hwi hask hx sm ht
    cases hx with
    | cons h1 h2 =>
      cases h2
      cases h1 with
      | lst hs ha =>
        have e := L2.ints_dw a.1 _ ha
        subst e
        have q : ((Codec.inLen 0 17000 a.1 && a.1.all (Codec.inInt (Int.negSucc 999999999999999999) (Int.ofNat 1000000000000000000))) && true) = true := hwi
        rw [Bool.and_eq_true, Bool.and_eq_true] at q
        exact ⟨_, a.1, rfl, sm.seq hs, (Codec.inNat_iff.mp q.1.1).2, hask, Cc.lam_empty (ht (362, 358) (List.mem_cons_self ..)), Cc.lam_empty (ht (485, 481) (List.mem_cons_of_mem _ (List.mem_cons_self ..))), fun r H' hp => .lst (L2.SqL.of hp) (L2.dw_ints _)⟩
  case caF =>
    intro w mg fa h Y KX G hmg TT
    refine' Cc.top_ok 362 485 (by decide) hmg ⟨⟨_, _, _, _, _, _, _, _, _, _, _, _, _, _, _, _, _, _, _, _, _, _, _, _, _, _, _, _, _, _, _, _, _, _, _, _, _, _, _, _, _, _, _, _, _, _, _, _, _, _, _, _, _, _, _, _, _, _, _, _, _, _, _, _, _, _, _, _, _, _, _, _, _, _, _, _, _, _, _, _, _, _, _, _, _, _, _, _, _, _, _, _, _, _, _, _, _, _, _, _, _, _, _, _, _, _, _, _, _, _, _, _, _, _, _, _, _, _, _, _, _, _, _, _, _, _, _, _, _, _, _, _, _, _, _, _, _, _, _, _, _, _, _, _, _, _, _, _, _, _, _, _, _, _, _, _, _, _, _, _, _, _, _, _, _, _, _, _, _, _, _, _, _, _, _, _, _, 358, 481⟩, ⟨mg_of KX G ?_, ⟨?_, ?_, ?_, ?_⟩, ⟨?_, ?_, ?_, ?_⟩, ?_, ?_, ?_, mg_of KX G ?_, ⟨?_, ?_, ?_, ?_⟩, ⟨?_, ?_, ?_, ?_⟩, ?_, ?_, ?_, ?_, ?_, ?_, ?_, mg_of KX G ?_, ⟨?_, ?_, ?_, ?_⟩, ⟨?_, ?_, ?_, ?_⟩, ?_, mg_of KX G ?_, ⟨?_, ?_, ?_, ?_⟩, ⟨?_, ?_, ?_, ?_⟩, ?_, ?_, ?_, ?_, ?_, mg_of KX G ?_, ⟨?_, ?_, ?_, ?_⟩, ⟨?_, ?_, ?_, ?_⟩, ?_, ?_, ?_, ?_, ?_, mg_of KX G ?_, ⟨?_, ?_, ?_, ?_⟩, ⟨?_, ?_, ?_, ?_⟩, ?_, ?_, ?_, mg_of KX G ?_, ⟨?_, ?_, ?_, ?_⟩, ⟨?_, ?_, ?_, ?_⟩, ?_, ?_, mg_of KX G ?_, ⟨?_, ?_, ?_, ?_⟩, ⟨?_, ?_, ?_, ?_⟩, ?_, ?_, ?_, ?_, mg_of KX G ?_, ⟨?_, ?_, ?_, ?_⟩, ⟨?_, ?_, ?_, ?_⟩, ?_, ?_, ?_, ?_, L2.fun_mk ?_ ?_ ?_, .all ?_, L2.fun_mk ?_ ?_ ?_, .all ?_, mg_of KX G ?_, L2.fun_mk ?_ ?_ ?_, .all ?_, mg_of KX G ?_, L2.fun_mk ?_ ?_ ?_, .all ?_, mg_of KX G ?_, L2.fun_mk ?_ ?_ ?_, .all ?_, mg_of KX G ?_, L2.fun_mk ?_ ?_ ?_, .all ?_, mg_of KX G ?_, L2.fun_mk ?_ ?_ ?_, .all ?_, mg_of KX G ?_, L2.fun_mk ?_ ?_ ?_, .all ?_, mg_of KX G ?_, L2.fun_mk ?_ ?_ ?_, .all ?_, mg_of KX G ?_, L2.fun_mk ?_ ?_ ?_, .all ?_, mg_of KX G ?_, L2.fun_mk ?_ ?_ ?_, .all ?_, mg_of KX G ?_, L2.fun_mk ?_ ?_ ?_, .all ?_, L2.fun_mk ?_ ?_ ?_, .all ?_, mg_of KX G ?_, L2.fun_mk ?_ ?_ ?_, .all ?_, mg_of KX G ?_, L2.fun_mk ?_ ?_ ?_, .all ?_, mg_of KX G ?_, L2.fun_mk ?_ ?_ ?_, .all ?_, mg_of KX G ?_, L2.fun_mk ?_ ?_ ?_, .all ?_, mg_of KX G ?_, L2.fun_mk ?_ ?_ ?_, .all ?_, mg_of KX G ?_, L2.fun_mk ?_ ?_ ?_, .all ?_, mg_of KX G ?_, L2.fun_mk ?_ ?_ ?_, .all ?_, mg_of KX G ?_, L2.fun_mk ?_ ?_ ?_, .all ?_, L2.fun_mk ?_ ?_ ?_, .all ?_, L2.fun_mk ?_ ?_ ?_, .all ?_, mg_of KX G ?_, L2.fun_mk ?_ ?_ ?_, .all ?_, mg_of KX G ?_, L2.fun_mk ?_ ?_ ?_, .all ?_, mg_of KX G ?_, L2.fun_mk ?_ ?_ ?_, .all ?_, L2.fun_mk ?_ ?_ ?_, .all ?_, mg_of KX G ?_, L2.fun_mk ?_ ?_ ?_, .all ?_, mg_of KX G ?_, L2.fun_mk ?_ ?_ ?_, .all ?_, mg_of KX G ?_, L2.fun_mk ?_ ?_ ?_, .all ?_, mg_of KX G ?_, L2.fun_mk ?_ ?_ ?_, .all ?_, L2.fun_mk ?_ ?_ ?_, .all ?_, mg_of KX G ?_, L2.fun_mk ?_ ?_ ?_, .all ?_, mg_of KX G ?_, L2.fun_mk ?_ ?_ ?_, .all ?_, mg_of KX G ?_, L2.fun_mk ?_ ?_ ?_, .all ?_, mg_of KX G ?_, L2.fun_mk ?_ ?_ ?_, .all ?_, mg_of KX G ?_, L2.fun_mk ?_ ?_ ?_, .all ?_, L2.fun_mk ?_ ?_ ?_, .all ?_, mg_of KX G ?_, L2.fun_mk ?_ ?_ ?_, .all ?_, mg_of KX G ?_, L2.fun_mk ?_ ?_ ?_, .all ?_, mg_of KX G ?_, L2.fun_mk ?_ ?_ ?_, .all ?_, L2.fun_mk ?_ ?_ ?_, .all ?_, mg_of KX G ?_, L2.fun_mk ?_ ?_ ?_, .all ?_, mg_of KX G ?_, L2.fun_mk ?_ ?_ ?_, .all ?_, mg_of KX G ?_, L2.fun_mk ?_ ?_ ?_, .all ?_, mg_of KX G ?_, L2.fun_mk ?_ ?_ ?_, .all ?_, mg_of KX G ?_, L2.fun_mk ?_ ?_ ?_, .all ?_, mg_of KX G ?_, L2.fun_mk ?_ ?_ ?_, .all ?_, mg_of KX G ?_, L2.fun_mk ?_ ?_ ?_, .all ?_, mg_of KX G ?_, L2.fun_mk ?_ ?_ ?_, .all ?_, mg_of KX G ?_, L2.fun_mk ?_ ?_ ?_, .all ?_, mg_of KX G ?_, L2.fun_mk ?_ ?_ ?_, .all ?_, mg_of KX G ?_, L2.fun_mk ?_ ?_ ?_, .all ?_, mg_of KX G ?_, L2.fun_mk ?_ ?_ ?_, .all ?_, mg_of KX G ?_, L2.fun_mk ?_ ?_ ?_, .all ?_, mg_of KX G ?_, L2.fun_mk ?_ ?_ ?_, .all ?_, mg_of KX G ?_, L2.fun_mk ?_ ?_ ?_, .all ?_, mg_of KX G ?_, L2.fun_mk ?_ ?_ ?_, .all ?_, mg_of KX G ?_, L2.fun_mk ?_ ?_ ?_, .all ?_, mg_of KX G ?_, L2.fun_mk ?_ ?_ ?_, .all ?_, mg_of KX G ?_, L2.fun_mk ?_ ?_ ?_, .all ?_, mg_of KX G ?_, L2.fun_mk ?_ ?_ ?_, .all ?_, mg_of KX G ?_, L2.fun_mk ?_ ?_ ?_, .all ?_, mg_of KX G ?_, L2.fun_mk ?_ ?_ ?_, .all ?_, mg_of KX G ?_, L2.fun_mk ?_ ?_ ?_, .all ?_, mg_of KX G ?_, L2.fun_mk ?_ ?_ ?_, .all ?_, mg_of KX G ?_, L2.fun_mk ?_ ?_ ?_, .all ?_, mg_of KX G ?_, L2.fun_mk ?_ ?_ ?_, .all ?_, ⟨_, mg_of KX G ?_⟩, ⟨_, mg_of KX G ?_⟩, ⟨_, mg_of KX G ?_⟩, ⟨_, mg_of KX G ?_⟩, ⟨_, mg_of KX G ?_⟩, ⟨_, mg_of KX G ?_⟩, ⟨_, mg_of KX G ?_⟩, mg_of KX G ?_, ⟨_, mg_of KX G ?_⟩, ⟨_, mg_of KX G ?_⟩, ⟨_, mg_of KX G ?_⟩, ⟨_, mg_of KX G ?_⟩, ⟨_, mg_of KX G ?_⟩, ⟨_, mg_of KX G ?_⟩, ⟨_, mg_of KX G ?_⟩, ⟨_, mg_of KX G ?_⟩, ⟨_, mg_of KX G ?_⟩, ⟨_, mg_of KX G ?_⟩, ⟨_, mg_of KX G ?_⟩, mg_of KX G ?_, Cc.tup_mk (its := #[.ref _, .ref _, .ref _, .ref _, .ref _, .ref _, .ref _, .ref _, .ref _, .ref _, .ref _, .ref _, .ref _, .ref _, .ref _]) ?_ ?_ (.cons rfl (.cons rfl (.cons rfl (.cons rfl (.cons rfl (.cons rfl (.cons rfl (.cons rfl (.cons rfl (.cons rfl (.cons rfl (.cons rfl (.cons rfl (.cons rfl (.cons rfl .nil))))))))))))))), Cc.tup_mk (its := #[.ref _, .int (4) _, .int (4) _]) ?_ ?_ (.cons rfl (.cons ⟨_, rfl⟩ (.cons ⟨_, rfl⟩ .nil))), Cc.tup_mk (its := #[.int (4) _, .int (3) _]) ?_ ?_ (.cons ⟨_, rfl⟩ (.cons ⟨_, rfl⟩ .nil)), Cc.tup_mk (its := #[.ref _, .int (0) _, .int (0) _]) ?_ ?_ (.cons rfl (.cons ⟨_, rfl⟩ (.cons ⟨_, rfl⟩ .nil))), Cc.tup_mk (its := #[.int (51) _]) ?_ ?_ (.cons ⟨_, rfl⟩ .nil), Cc.tup_mk (its := #[.ref _, .int (0) _, .int (0) _]) ?_ ?_ (.cons rfl (.cons ⟨_, rfl⟩ (.cons ⟨_, rfl⟩ .nil))), Cc.tup_mk (its := #[]) ?_ ?_ .nil, Cc.tup_mk (its := #[.ref _, .int (0) _, .int (0) _]) ?_ ?_ (.cons rfl (.cons ⟨_, rfl⟩ (.cons ⟨_, rfl⟩ .nil))), Cc.tup_mk (its := #[]) ?_ ?_ .nil, Cc.tup_mk (its := #[.ref _, .int (1) _, .int (16) _]) ?_ ?_ (.cons rfl (.cons ⟨_, rfl⟩ (.cons ⟨_, rfl⟩ .nil))), Cc.tup_mk (its := #[.int (1) _, .int (2) _]) ?_ ?_ (.cons ⟨_, rfl⟩ (.cons ⟨_, rfl⟩ .nil)), Cc.tup_mk (its := #[.ref _, .int (1) _, .int (16) _]) ?_ ?_ (.cons rfl (.cons ⟨_, rfl⟩ (.cons ⟨_, rfl⟩ .nil))), Cc.tup_mk (its := #[.int (1) _, .int (4) _, .int (2) _]) ?_ ?_ (.cons ⟨_, rfl⟩ (.cons ⟨_, rfl⟩ (.cons ⟨_, rfl⟩ .nil))), Cc.tup_mk (its := #[.ref _, .int (0) _, .int (0) _]) ?_ ?_ (.cons rfl (.cons ⟨_, rfl⟩ (.cons ⟨_, rfl⟩ .nil))), Cc.tup_mk (its := #[]) ?_ ?_ .nil, Cc.tup_mk (its := #[.ref _, .int (1) _, .int (16) _]) ?_ ?_ (.cons rfl (.cons ⟨_, rfl⟩ (.cons ⟨_, rfl⟩ .nil))), Cc.tup_mk (its := #[.int (1) _, .int (2) _]) ?_ ?_ (.cons ⟨_, rfl⟩ (.cons ⟨_, rfl⟩ .nil)), Cc.tup_mk (its := #[.ref _, .int (0) _, .int (0) _]) ?_ ?_ (.cons rfl (.cons ⟨_, rfl⟩ (.cons ⟨_, rfl⟩ .nil))), Cc.tup_mk (its := #[.int (1) _]) ?_ ?_ (.cons ⟨_, rfl⟩ .nil), Cc.tup_mk (its := #[.ref _, .int (1) _, .int (16) _]) ?_ ?_ (.cons rfl (.cons ⟨_, rfl⟩ (.cons ⟨_, rfl⟩ .nil))), Cc.tup_mk (its := #[.int (1) _, .int (4) _, .int (2) _]) ?_ ?_ (.cons ⟨_, rfl⟩ (.cons ⟨_, rfl⟩ (.cons ⟨_, rfl⟩ .nil))), Cc.tup_mk (its := #[.ref _, .int (1) _, .int (16) _]) ?_ ?_ (.cons rfl (.cons ⟨_, rfl⟩ (.cons ⟨_, rfl⟩ .nil))), Cc.tup_mk (its := #[.int (1) _, .int (2) _]) ?_ ?_ (.cons ⟨_, rfl⟩ (.cons ⟨_, rfl⟩ .nil)), Cc.tup_mk (its := #[.ref _, .int (0) _, .int (0) _]) ?_ ?_ (.cons rfl (.cons ⟨_, rfl⟩ (.cons ⟨_, rfl⟩ .nil))), Cc.tup_mk (its := #[]) ?_ ?_ .nil, Cc.tup_mk (its := #[.ref _, .int (0) _, .int (0) _]) ?_ ?_ (.cons rfl (.cons ⟨_, rfl⟩ (.cons ⟨_, rfl⟩ .nil))), Cc.tup_mk (its := #[]) ?_ ?_ .nil, Cc.tup_mk (its := #[.ref _, .int (1) _, .int (16) _]) ?_ ?_ (.cons rfl (.cons ⟨_, rfl⟩ (.cons ⟨_, rfl⟩ .nil))), Cc.tup_mk (its := #[.int (1) _, .int (2) _]) ?_ ?_ (.cons ⟨_, rfl⟩ (.cons ⟨_, rfl⟩ .nil)), Cc.tup_mk (its := #[.ref _, .int (0) _, .int (0) _]) ?_ ?_ (.cons rfl (.cons ⟨_, rfl⟩ (.cons ⟨_, rfl⟩ .nil))), Cc.tup_mk (its := #[]) ?_ ?_ .nil, Cc.tup_mk (its := #[.ref _, .ref _, .ref _, .ref _, .ref _, .ref _, .ref _, .ref _, .ref _, .ref _, .ref _, .ref _, .ref _, .ref _, .ref _]) ?_ ?_ (.cons rfl (.cons rfl (.cons rfl (.cons rfl (.cons rfl (.cons rfl (.cons rfl (.cons rfl (.cons rfl (.cons rfl (.cons rfl (.cons rfl (.cons rfl (.cons rfl (.cons rfl .nil))))))))))))))), ⟨362, ?y_worst_card, ?h_worst_card⟩, ⟨485, ?y_best_order, ?h_best_order⟩, mg_none_of KX G ?_, mg_none_of KX G ?_, mg_none_of KX G ?_, mg_none_of KX G ?_, mg_none_of KX G ?_, mg_none_of KX G ?_, mg_none_of KX G ?_, mg_none_of KX G ?_, mg_none_of KX G ?_, mg_none_of KX G ?_⟩, mg_of KX G ?_, rfl, rfl, rfl⟩
    case h_worst_card =>
      refine' Cc.codeK KX (TT (362, 358) (List.mem_cons_self ..)).1 ?_
      any_goals k_is
    case h_best_order =>
      refine' Cc.codeK KX (TT (485, 481) (List.mem_cons_of_mem _ (List.mem_cons_self ..))).1 ?_
      any_goals k_is
    any_goals k_is
    any_goals rfl
    any_goals ((try dsimp only); k_is)
    any_goals (show _ ≤ sizeLine; decide)
    try any_goals exact fun us hl => match us, hl with | [_], _ => rfl
    try any_goals exact fun us hl => match us, hl with | [_, _], _ => rfl
    try any_goals exact fun us hl => match us, hl with | [_, _, _], _ => rfl
    try any_goals exact fun us hl => match us, hl with | [_, _, _, _], _ => rfl
    try any_goals exact fun us hl => match us, hl with | [_, _, _, _, _], _ => rfl
    try any_goals exact fun us hl => match us, hl with | [_, _, _, _, _, _], _ => rfl
    try any_goals exact fun us hl => match us, hl with | [_, _, _, _, _, _, _], _ => rfl
    try any_goals exact fun us hl => match us, hl with | [_, _, _, _, _, _, _, _], _ => rfl
#print axioms PySem.Challenge.cw_cardclaims_s01_answers_holds
